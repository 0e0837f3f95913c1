/- A maker's table is made once, and used: takeAll, extend. -/
import Derived.Test.YtnhffeppbliabaaCrcO
namespace Go.Proofs.Ytnhffeppbliabaa
open Go.RowKit

/-- Who asks first makes the table; who asks later finds it. -/
theorem once_any (p n : Nat) (w : World) (h : Mk w p n) :
    Calls Try.prog 141 #[.pointer (some ⟨p, 0, none⟩), .func (.func 142) #[.pointer (some ⟨p, 0, none⟩)] #[]] w fun e w' => e = .returned (.tuple #[]) ∧ Mk w' p n ∧ Tab w' p 256 ∧ w.grownBy w' (some p) := by
  rcases h.tab with ⟨h0, ht⟩ | ⟨h0, ht⟩
  · have hl1 : ∀ k, k ≠ 1 → (w.setCell ⟨p, 1, none⟩ (.int .i32 1)).cell? ⟨p, k, none⟩ = w.cell? ⟨p, k, none⟩ := fun k hk => World.cell?_setCell_other _ _ _ _ (by simp <;> omega)
    have hl2 : (w.setCell ⟨p, 1, none⟩ (.int .i32 1)).cell? ⟨p, 1, none⟩ = some (.int .i32 1) := World.cell?_setCell_same _ _ _ h.lock
    have hT : Tab (w.setCell ⟨p, 1, none⟩ (.int .i32 1)) p 0 := ⟨fun j hj => by omega, fun j hj => (ht.more j hj).imp fun x hx => (hl1 _ (by omega)).trans hx⟩
    refine (do_first p 0 142 #[.pointer (some ⟨p, 0, none⟩)] (fun args w => by kernel_rfl)
      (fun w' => Tab w' p 256 ∧ (w.setCell ⟨p, 1, none⟩ (.int .i32 1)).grownBy w' (some p) ∧ (∀ k, w'.frozen? ⟨p, k, none⟩ = false) ∧ (∀ k, k < 3 ∨ 259 ≤ k → w'.cell? ⟨p, k, none⟩ = (w.setCell ⟨p, 1, none⟩ (.int .i32 1)).cell? ⟨p, k, none⟩))
      w ⟨h0, h.lock, h.free _, h.free _⟩ ((makeTable_any p _ hT (fun k => by rw [World.frozen?_setCell]; exact h.free k)).mono ?_)).mono ?_
    · rintro e w1 ⟨rfl, t1, g1, f1, s1⟩
      exact ⟨rfl, ⟨(s1 0 (by omega)).trans ((hl1 0 (by omega)).trans h0), (s1 1 (by omega)).trans hl2, f1 _, f1 _⟩, t1, g1, f1, s1⟩
    · rintro e w3 ⟨rfl, w2, ⟨t2, g2, f2, s2⟩, u2, rfl⟩
      have c0 : ∀ k, k ≠ 0 → k ≠ 1 → ((w2.drew.setCell ⟨p, 0, none⟩ (.int .u32 1)).setCell ⟨p, 0 + 1, none⟩ (.int .i32 0)).cell? ⟨p, k, none⟩ = w2.cell? ⟨p, k, none⟩ := fun k hk hk1 => by
        rw [World.cell?_setCell_other _ _ _ _ (by simp <;> omega), World.cell?_setCell_other _ _ _ _ (by simp <;> omega), World.cell?_drew]
      have z0 : ((w2.drew.setCell ⟨p, 0, none⟩ (.int .u32 1)).setCell ⟨p, 0 + 1, none⟩ (.int .i32 0)).cell? ⟨p, 0, none⟩ = some (.int .u32 1) := by
        rw [World.cell?_setCell_other _ _ _ _ (by simp)]
        exact World.cell?_setCell_same _ _ _ ((World.cell?_drew _ _).trans u2.done)
      have z1 : ((w2.drew.setCell ⟨p, 0, none⟩ (.int .u32 1)).setCell ⟨p, 0 + 1, none⟩ (.int .i32 0)).cell? ⟨p, 1, none⟩ = some (.int .i32 0) :=
        World.cell?_setCell_same _ ⟨p, 0 + 1, none⟩ _ ((World.cell?_setCell_other _ _ _ _ (by simp)).trans ((World.cell?_drew _ _).trans u2.lock))
      have T : Tab ((w2.drew.setCell ⟨p, 0, none⟩ (.int .u32 1)).setCell ⟨p, 0 + 1, none⟩ (.int .i32 0)) p 256 :=
        ⟨fun j hj => (c0 _ (by omega) (by omega)).trans (t2.made j hj), fun j hj => (t2.more j hj).imp fun x hx => (c0 _ (by omega) (by omega)).trans hx⟩
      have G : w.grownBy ((w2.drew.setCell ⟨p, 0, none⟩ (.int .u32 1)).setCell ⟨p, 0 + 1, none⟩ (.int .i32 0)) (some p) :=
        (grownC_put w p 1 _).trans (g2.trans ((⟨rfl, rfl, rfl, Nat.le_refl _, fun _ _ _ => rfl⟩ : w2.grownBy w2.drew (some p)).trans ((grownC_put _ _ _ _).trans (grownC_put _ _ _ _))))
      refine ⟨rfl, ⟨Nat.lt_of_lt_of_le h.lt G.size, fun k => ?_, fun k y hy => ?_, z1, (c0 259 (by omega) (by omega)).trans ((s2 259 (by omega)).trans ((hl1 259 (by omega)).trans h.asked)), .inr ⟨z0, T⟩⟩, T, G⟩
      · rw [World.frozen?_setCell, World.frozen?_setCell]
        exact f2 k
      · by_cases k0 : k = 0
        · subst k0; rw [z0] at hy; cases hy; exact ⟨_, _, rfl, by decide⟩
        by_cases k1 : k = 1
        · subst k1; rw [z1] at hy; cases hy; exact ⟨_, _, rfl, by decide⟩
        rw [c0 k k0 k1] at hy
        by_cases k3 : k < 3 ∨ 259 ≤ k
        · rw [s2 k k3, hl1 k k1] at hy
          exact h.kind k y hy
        · obtain ⟨x, hx⟩ := t2.more (k - 3) (by omega)
          rw [show 3 + (k - 3) = k from by omega, hy] at hx
          cases hx
          exact ⟨_, _, rfl, by decide⟩
  · refine (do_done ⟨p, 0, none⟩ 1 (by decide) _ w h0).mono ?_
    rintro e w' ⟨rfl, rfl⟩
    exact ⟨rfl, h, ht, World.grownBy.refl _ _⟩

/-- What reads as bytes stays where the maker alone changes. -/
theorem reads_kept {w w' : World} {p n : Nat} {v : Value} {l : List Nat} (h : Mk w p n) (hr : Reads w .u8 v l) (hg : w.grownBy w' (some p)) : Reads w' .u8 v l := by
  obtain ⟨ao, cap, hv, h1, h2, h3, h4⟩ := hr
  refine ⟨ao, cap, hv, h1, h2, h3, ?_⟩
  rcases h4 with h4 | ⟨b, off, ha, hlt, hc⟩
  · exact .inl h4
  · exact .inr ⟨b, off, ha, Nat.lt_of_lt_of_le hlt hg.size, fun i hi => hg.cell (hc i hi) (by have := u8_of_kind h (hc i hi); simpa using this)⟩

theorem idx_table {y c : Nat} (hc : c < 256) : ctake y c = ctake 0 (y % 256 ^^^ c) ^^^ y / 256 := by
  rw [ctake_table hc]
  congr 1
  show _ = csteps 8 (0 ^^^ _)
  rw [Nat.zero_xor]
  congr 1
  have := Nat.xor_mod_two_pow (a := y) (b := c) (n := 8)
  rw [show (2 : Nat) ^ 8 = 256 from rfl] at this
  rw [this, Nat.mod_eq_of_lt hc]

set_option maxHeartbeats 400000 in
set_option maxRecDepth 100000 in
theorem takeAll_any (p n x : Nat) (v : Value) (l : List Nat) (w : World) (hm : Mk w p n) (hx : U32 x) (hr : Reads w .u8 v l) (hl : ∀ y ∈ l, y < 256) :
    Calls Try.prog 139 #[.pointer (some ⟨p, 0, none⟩), .int .u32 (x : Int), v] w fun e w' => e = .returned (.int .u32 (crun x l : Nat)) ∧ Mk w' p n ∧ w.grownBy w' (some p) := by
  obtain ⟨ao, cap, rfl, h1, h2, h3⟩ := hr.val
  have HR := Lib.hid hr; clear hr
  have HM := Lib.hid hm; clear hm
  go_enter Try.func139, Try.ntmps139
  go_wp2_with fail
  refine (once_any p n w HM.out).mono ?_
  rintro e w1 ⟨rfl, hm1, ht1, hg1⟩
  have HM1 := Lib.hid hm1
  have HT1 := Lib.hid ht1
  have HG1 := Lib.hid hg1
  clear hm1 ht1 hg1
  go_wp2
  go_loopw [1, 10, 32] (fun x0 _ i wr => ∃ (k : Nat) (y : Nat), k ≤ l.length ∧ i = .int .i64 (k : Int) ∧ x0 = .int .u32 (y : Int) ∧ y = crun x (l.take k) ∧ ∃ d, wr = w1.drewN d)
    (fun _ _ i _ => l.length - (intOf i).toNat)
  case atStart => exact ⟨0, x, by omega, rfl, rfl, rfl, 0, rfl⟩
  case round =>
    obtain ⟨k, y, hk, rfl, rfl, hy, d, rfl⟩ := hrel
    have hy32 : U32 y := hy ▸ crun_lt _ hx (fun z hz => hl z (List.mem_of_mem_take hz))
    by_cases hlt : k < l.length
    · obtain ⟨b, off, rfl, hblk, hc⟩ := HR.out.at hlt
      have hne : b ≠ p := u8_of_kind HM.out (hc k hlt)
      have hcell : (w1.drewN d).cell? ⟨b, off + k, none⟩ = _ := HG1.out.cell (hc k hlt) (by simpa using hne)
      have hbyte := byte_get hl k
      have hnext := crun_take x l k hlt
      clear hc
      generalize l.getD k 0 = c at hcell hbyte hnext
      rw [← hy, idx_table hbyte] at hnext
      have hidx : y % 256 ^^^ c < 256 := Nat.xor_lt_two_pow (n := 8) (Nat.mod_lt _ (by decide)) hbyte
      have hxor : bits .xor .u8 ((y : Int) % 256) (c : Int) = ((y % 256 ^^^ c : Nat) : Int) := u8_xor_nat (y % 256) c (Nat.mod_lt _ (by decide)) hbyte
      have htab : (w1.drewN d).cell? ⟨p, 3 + (y % 256 ^^^ c), none⟩ = _ := HT1.out.made _ hidx
      have ht32 : ctake 0 (y % 256 ^^^ c) < 4294967296 := ctake_lt (by decide) hidx
      generalize y % 256 ^^^ c = j at hidx hxor htab ht32 hnext
      generalize ctake 0 j = t at htab ht32 hnext
      have hq : y / 256 < 4294967296 := by unfold U32 at hy32; omega
      have hx2 := u32_xor_nat t (y / 256) ht32 hq
      have HN := Lib.hid hnext; clear hnext
      have HY := Lib.hid hy; clear hy
      have hji : (j : Int) < 256 := by omega
      have hlti : (k : Int) < l.length := by omega
      have hkw : Hid (wrap64 ((k : Int) + 1) = (k : Int) + 1) := Lib.hid (IntWalk.wrap64_in _ (by have : maxLen = 9223372036854775807 := rfl; omega))
      go_wp2
      go_roundw
      case rel => exact ⟨k + 1, _, by omega, by rw [hkw.out]; rfl, by rw [show (y : Int) / 256 = ((y / 256 : Nat) : Int) from by omega, hx2], by rw [HN.out], _, rfl⟩
      case measure => rw [hkw.out]; simp [intOf]; omega
    · obtain rfl : k = l.length := by omega
      rw [List.take_length] at hy
      have HY := Lib.hid hy; clear hy
      go_wp2
      go_ret
      exact ⟨congrArg (fun n : Nat => Ending.returned (Value.int .u32 n)) HY.out, HM1.out.keep rfl (Nat.le_refl _), HG1.out.os, HG1.out.tape, HG1.out.output, HG1.out.size, HG1.out.block⟩

theorem u32_not_nat (s : Nat) (hs : U32 s) : bits .xor .u32 IntKind.u32.max (s : Int) = ((s ^^^ 4294967295 : Nat) : Int) := by
  rw [Nat.xor_comm]
  exact u32_xor_nat 4294967295 s (by decide) hs

set_option maxHeartbeats 400000 in
set_option maxRecDepth 100000 in
theorem ext_nil (s : Nat) (v : Value) (l : List Nat) (w : World) (hs : U32 s) (hr : Reads w .u8 v l) (hl : ∀ y ∈ l, y < 256) :
    Calls Try.prog 135 #[.pointer none, .int .u32 (s : Int), v] w fun e w' => e = .returned (.int .u32 (crcx s l : Nat)) ∧ w = w' := by
  have hx : U32 (s ^^^ 4294967295) := Nat.xor_lt_two_pow (n := 32) hs (by decide)
  have hy : U32 (crun (s ^^^ 4294967295) l) := crun_lt _ hx hl
  have hn1 := u32_not_nat s hs
  have hn2 := u32_not_nat _ hy
  go_enter Try.func135, Try.ntmps135
  go_wp2_with fail
  refine (takeAll_nil (s ^^^ 4294967295) v l w hx hr hl).mono ?_
  rintro e w' ⟨rfl, rfl⟩
  go_wp2
  go_ret
  exact ⟨rfl, rfl⟩

set_option maxHeartbeats 400000 in
set_option maxRecDepth 100000 in
theorem ext_any (p n s : Nat) (v : Value) (l : List Nat) (w : World) (hm : Mk w p n) (hs : U32 s) (hr : Reads w .u8 v l) (hl : ∀ y ∈ l, y < 256) :
    Calls Try.prog 135 #[(.pointer (some ⟨p, 0, none⟩)), .int .u32 (s : Int), v] w fun e w' => e = .returned (.int .u32 (crcx s l : Nat)) ∧ Mk w' p n ∧ w.grownBy w' (some p) := by
  have hx : U32 (s ^^^ 4294967295) := Nat.xor_lt_two_pow (n := 32) hs (by decide)
  have hy : U32 (crun (s ^^^ 4294967295) l) := crun_lt _ hx hl
  have hn1 := u32_not_nat s hs
  have hn2 := u32_not_nat _ hy
  go_enter Try.func135, Try.ntmps135
  go_wp2_with fail
  refine (takeAll_any p n (s ^^^ 4294967295) v l w hm hx hr hl).mono ?_
  rintro e w' ⟨rfl, hm', hg⟩
  go_wp2
  go_ret
  exact ⟨rfl, hm', hg⟩

/-- Parts: a slice of slices that each read as bytes; its own block is not the maker's. -/
def Parts (w : World) (v : Value) (ls : List (List Nat)) : Prop :=
  ∃ ao cap, v = .slice ao ls.length cap ∧ ls.length ≤ cap ∧ cap ≤ maxLen ∧ (ls = [] ∨ ∃ b off, ao = some ⟨b, off, none⟩ ∧ b < w.heap.size ∧
    ∀ i, i < ls.length → ∃ u, w.cell? ⟨b, off + i, none⟩ = some u ∧ (∀ kk x, u ≠ .int kk x) ∧ Reads w .u8 u (ls.getD i []))

theorem Parts.at {w : World} {ao : Option Addr} {m cap : Nat} {ls : List (List Nat)} (h : Parts w (.slice ao m cap) ls) {i : Nat} (hi : i < ls.length) :
    ∃ b off u, ao = some ⟨b, off, none⟩ ∧ b < w.heap.size ∧ w.cell? ⟨b, off + i, none⟩ = some u ∧ (∀ kk x, u ≠ .int kk x) ∧ Reads w .u8 u (ls.getD i []) := by
  obtain ⟨ao', cap', hv, _, _, h4⟩ := h
  simp only [Value.slice.injEq] at hv
  obtain ⟨rfl, _, _⟩ := hv
  rcases h4 with rfl | ⟨b, off, ha, hb, h⟩
  · simp at hi
  · obtain ⟨u, h1, h2, h3⟩ := h i hi
    exact ⟨b, off, u, ha, hb, h1, h2, h3⟩

theorem flat_take {ls : List (List Nat)} {k : Nat} (h : k < ls.length) : (ls.take (k + 1)).flatten = (ls.take k).flatten ++ ls.getD k [] := by
  rw [List.take_succ_eq_append_getElem h, List.flatten_append, List.getD_eq_getElem?_getD, List.getElem?_eq_getElem h]
  simp

/-- Parts that are written out. -/
theorem parts_mark (w : World) (e : TypeId) (us : List Value) (ls : List (List Nat)) (cs : Array Value) (hc : cs.toList = us) (hl : us.length = ls.length) (hm : ls.length ≤ maxLen)
    (hr : ∀ i, i < ls.length → (∀ kk x, us.getD i .nilIface ≠ .int kk x) ∧ Reads (w.alloc (.cells cs e)) .u8 (us.getD i .nilIface) (ls.getD i [])) :
    Parts (w.alloc (.cells cs e)) (.slice (some ⟨w.heap.size, 0, none⟩) ls.length ls.length) ls :=
  ⟨_, _, rfl, Nat.le_refl _, hm, .inr ⟨w.heap.size, 0, rfl, by simp, fun i hi => by
    refine ⟨us.getD i .nilIface, ?_, (hr i hi).1, (hr i hi).2⟩
    rw [Nat.zero_add, World.cell?_alloc_mark, ← Array.getElem?_toList, hc, List.getD_eq_getElem?_getD, List.getElem?_eq_getElem (by omega)]
    rfl⟩⟩

end Go.Proofs.Ytnhffeppbliabaa
