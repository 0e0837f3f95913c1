/- ShaParts, walked. -/
import Derived.Test.YtjhipfgmiilmdaaDoorShaZ
import Derived.Test.YtjhipfgmiilmdaaDoorEqA
namespace Go.Proofs.YtjhipfgmiilmdaaDoor
open Go.RowKit

/-- A slice of ints that came in. -/
def Ints (w : World) (a : Option Addr) (len cap : Nat) (zs : List Int) : Prop :=
  zs.length = len ∧ len ≤ cap ∧ (len = 0 ∨ ∃ b off, a = some ⟨b, off, none⟩ ∧ b < w.heap.size ∧ ∀ i, i < len → w.cell? ⟨b, off + i, none⟩ = some (.int .i64 (zs.getD i 0)))

set_option maxHeartbeats 1600000 in
set_option maxRecDepth 100000 in
theorem parts_walk (v0 : Value) (l : List Nat) (a1 : Option Addr) (m cap : Nat) (zs : List Int) (w : World) (hr : Reads w .u8 v0 l) (hl : ∀ y ∈ l, y < 256) (hz : Ints w a1 m cap zs) (hld : Laid w) :
    Calls Tryd.prog 6 #[v0, .slice a1 m cap] w fun e w' => e = .returned (.bool true) ∧ Below w.heap.size w w' := by
  obtain ⟨ao, c0, rfl, hc1, hc2, hc3⟩ := hr.val
  go_enter Tryd.func6, Tryd.ntmps6
  go_wp2_with fail
  refine (alive3_any _ hld).mono ?_
  rintro e w1 ⟨rfl, hb1⟩
  have hl1 := hld.next hb1
  have HR := Lib.hid (hr.below hb1 (Nat.le_refl _))
  have HW := Lib.hid hb1
  have HL := Lib.hid hl
  have HZ := Lib.hid hz
  clear hb1 hr hl hz
  by_cases hlen : (l.length : Int) > 1000
  · go_wp2
    go_ret
    exact ⟨rfl, HW.out⟩
  by_cases hm : (m : Int) > 20
  · go_wp2
    go_ret
    exact ⟨rfl, HW.out⟩
  have hlen' : l.length ≤ 1000 := by omega
  have hm' : m ≤ 20 := by omega
  go_wp2_with fail
  have hi22 : ∃ i, Tryd.prog.info? 22 = some i ∧ i.zero = some (.slice none 0 0) ∧ i.size = 1 ∧ i.bytes = 24 := ⟨_, rfl, by kernel_rfl, by kernel_rfl, by kernel_rfl⟩
  obtain ⟨ti, hti, htz, hts, htb⟩ := hi22
  have HO0 : Hid ((w1.alloc (.cells #[] 22)).ownsRow w1.heap.size 22 1 (.slice (some ⟨w1.heap.size, 0, none⟩) 0 0) 0 []) := Lib.hid ⟨by simp, .inr ⟨w1.heap.size, 0, #[], rfl, Nat.le_refl _, heap_alloc_new _ _, Nat.le_refl _, by simp [maxLen], by simp, by simp⟩⟩
  have HB0 : Hid (Below w1.heap.size w1 (w1.alloc (.cells #[] 22))) := Lib.hid ((Below.refl _ _).alloc (Nat.le_refl _) _)
  go_loopw [5, 6, 22] (fun pv fv iv wr => ∃ (i f : Nat) (xs : List Value) (ls : List (List Nat)), i ≤ m ∧ f ≤ l.length ∧ xs.length ≤ i ∧ iv = .int .i64 (i : Int) ∧ fv = .int .i64 (f : Int) ∧ wr.ownsRow w1.heap.size 22 1 pv xs.length xs ∧ AllR w1 xs ls ∧ ls.flatten = l.take f ∧ Below w1.heap.size w1 wr) (fun _ _ iv _ => m - (intOf iv).toNat)
  case atStart => exact ⟨0, 0, [], [], by omega, by omega, by simp, rfl, rfl, HO0.out, AllR.nil _, by simp, HB0.out⟩
  case round =>
    obtain ⟨i, f, xs, ls, hi, hf, hxi, rfl, rfl, ho, hal, hfl, hb⟩ := hrel
    have HO := Lib.hid ho
    have HB := Lib.hid hb
    have HA := Lib.hid hal
    have HF := Lib.hid hfl
    clear ho hb hal hfl HO0 HB0
    by_cases hlt : i < m
    · have hlti : (i : Int) < (m : Int) := by omega
      obtain ⟨hz1, hz2, hz3⟩ := HZ.out
      rcases hz3 with hz3 | ⟨b, off, rfl, hbl, hzc⟩
      · omega
      have hcell : wr.cell? ⟨b, off + i, none⟩ = some (.int .i64 (zs.getD i 0)) := ((HB.out.cell (p := ⟨b, off + i, none⟩) (by have := HW.out.size; show b < w1.heap.size; omega)).trans (HW.out.cell (p := ⟨b, off + i, none⟩) hbl)).trans (hzc i hlt)
      clear hz1 hzc
      generalize zs.getD i 0 = z at hcell
      by_cases hzf : (f : Int) ≤ z ∧ z ≤ (l.length : Int)
      · obtain ⟨hzf1, hzf2⟩ := hzf
        obtain ⟨g, rfl⟩ : ∃ g : Nat, z = (g : Int) := ⟨z.toNat, by omega⟩
        have hrX := HR.out.mid (show f ≤ g by omega) (show g ≤ l.length by omega)
        go_wp2_with ((with_reducible show wpList _ _ _ (Oper.mk (some 41) _ _ _ _ _ :: _) _ _); go_must (refine wpList_append_own _ rfl (.tmp 35) (.tmp 40) 54 rfl w1.heap.size 22 ti (.slice none 0 0) 1 24 Tryd.underlying54 hti htz hts htb rfl (by decide) u5 xs.length xs rfl (HO.out.alloc _) ⟨wr.heap.size, 0, none⟩ 1 1 [(Value.slice (if c0 = f then ao else Option.map (fun x => x.add f) ao) (g - f) (c0 - f))] rfl rfl (one_new _ _ _) (by intro u hu; rw [List.mem_singleton.1 hu]; rfl) (by simp only [maxLen]; omega) (by omega) (by have := HB.out.size; simp; omega) (fun v' w' ho' hg _ => ?_); generalize (Value.slice (if c0 = f then ao else Option.map (fun x => x.add f) ao) (g - f) (c0 - f)) = X at ho' hrX ⊢))
        have hal' := HA.out.snoc hrX
        have hb' : Below w1.heap.size w1 w' := (HB.out.alloc HB.out.size _).grown hg (by have := HB.out.size; simp; omega) (fun j hj => (HO.out.lt j hj).1)
        have hfl' : (ls ++ [(l.take g).drop f]).flatten = l.take g := by
          rw [List.flatten_append, HF.out, List.flatten_singleton]
          have := List.take_append_drop f (l.take g)
          rwa [List.take_take, Nat.min_eq_left (by omega)] at this
        go_wp2_with fail
        go_roundw
        · exact ⟨i + 1, g, xs ++ [X], ls ++ [(l.take g).drop f], by omega, by omega, by simp; omega, rfl, rfl, by simpa using ho', hal', hfl', hb'⟩
        · simp only [intOf, Int.toNat_natCast]; omega
      · have hzf' : (f : Int) ≤ z → ¬ z ≤ (l.length : Int) := fun h1 h2 => hzf ⟨h1, h2⟩
        by_cases hzf1 : (f : Int) ≤ z
        · have hzf2 := hzf' hzf1
          go_wp2_with fail
          go_roundw
          · exact ⟨i + 1, f, xs, ls, by omega, by omega, by omega, rfl, rfl, HO.out, HA.out, HF.out, HB.out⟩
          · simp only [intOf, Int.toNat_natCast]; omega
        · go_wp2_with fail
          go_roundw
          · exact ⟨i + 1, f, xs, ls, by omega, by omega, by omega, rfl, rfl, HO.out, HA.out, HF.out, HB.out⟩
          · simp only [intOf, Int.toNat_natCast]; omega
    · have hnlt : ¬ (i : Int) < (m : Int) := by omega
      have hrX := HR.out.tail hf
      go_wp2_with ((with_reducible show wpList _ _ _ (Oper.mk (some 49) _ _ _ _ _ :: _) _ _); go_must (refine wpList_append_own _ rfl (.tmp 44) (.tmp 48) 54 rfl w1.heap.size 22 ti (.slice none 0 0) 1 24 Tryd.underlying54 hti htz hts htb rfl (by decide) u5 xs.length xs rfl (HO.out.alloc _) ⟨wr.heap.size, 0, none⟩ 1 1 [(Value.slice (if c0 = f then ao else Option.map (fun x => x.add f) ao) (l.length - f) (c0 - f))] rfl rfl (one_new _ _ _) (by intro u hu; rw [List.mem_singleton.1 hu]; rfl) (by simp only [maxLen]; omega) (by omega) (by have := HB.out.size; simp; omega) (fun v' w' ho' hg _ => ?_); generalize (Value.slice (if c0 = f then ao else Option.map (fun x => x.add f) ao) (l.length - f) (c0 - f)) = X at ho' hrX ⊢))
      have hal' := HA.out.snoc hrX
      have hb' : Below w1.heap.size w1 w' := (HB.out.alloc HB.out.size _).grown hg (by have := HB.out.size; simp; omega) (fun j hj => (HO.out.lt j hj).1)
      have hfl' : (ls ++ [l.drop f]).flatten = l := by
        rw [List.flatten_append, HF.out, List.flatten_singleton]
        exact List.take_append_drop f l
      have hlen2 : (ls ++ [l.drop f]).length = xs.length + 1 := by simp [HA.out.1]
      have hP := pieces_of (xs := xs ++ [X]) (by simpa using ho') hal' hb'
      generalize ls ++ [l.drop f] = ps at hfl' hP hlen2
      have hflat : ∀ p ∈ ps, ∀ y ∈ p, y < 256 := fun p hp y hy => HL.out y (hfl' ▸ List.mem_flatten.2 ⟨p, hp, hy⟩)
      have hof := of_any _ ps _ hP (by rw [hfl']; omega) hflat (by omega) (hl1.next hb')
      rw [hfl'] at hof
      have HOF := Lib.hid hof
      clear hof hP hfl' hflat
      go_wp2_with fail
      refine HOF.out.mono ?_
      rintro e w3 ⟨rfl, hb3⟩
      have hw3 : Below w1.heap.size w1 w3 := hb'.trans (hb3.mono hb'.size)
      go_wp2_with fail
      refine (sum_any _ _ _ (HR.out.below hw3 (Nat.le_refl _)) (by omega) HL.out (hl1.next hw3)).mono ?_
      rintro e w4 ⟨rfl, hb4⟩
      have heq := fun w => equalIn_nums (k := .u8) Tryd.underlying29 Tryd.underlying5 (fun w => by kernel_rfl) _ _ (shaOf_len l) (shaOf_len l) w
      generalize shaOf shaK shaH l = D at heq ⊢
      go_wp2
      go_ret
      exact ⟨by simp, HW.out.trans ((hw3.trans (hb4.mono hw3.size)).mono HW.out.size)⟩

end Go.Proofs.YtjhipfgmiilmdaaDoor
