/- The document's disk: Apply, Shown, Used. -/
import Derived.Test.YtmjpckodcafjiaaGreatRfB
namespace Go.Proofs.YtmjpckodcafjiaaGreat
open Go.RowKit

/-- A change, as the document has it. -/
def cR (c : Ch) : List Value := [.int .i64 (c.kind : Int), nmV c.name, nmV c.to, .string (txt c.text)]
def chgV (c : Ch) : Value := .agg #[.int .i64 (c.kind : Int), nmV c.name, nmV c.to, .string (txt c.text)]
def docV (d : DS) (sv cv : Value) : Value := .agg #[.int .i64 (d.room : Int), sv, cv, .int .i64 d.fuse, .bool d.down]
/-- The document's disk: its rows lie in blocks of which B holds. -/
structure Doc (w : World) (B : Nat → Prop) (d : DS) (sv cv : Value) : Prop where
  sure : FsAt w B sv d.sure
  chs : RecAt w B 4 cv (d.chs.map cR)
  kind : ∀ c ∈ d.chs, c.kind ≤ 2
theorem Doc.keep {w w' : World} {B : Nat → Prop} {d : DS} {sv cv : Value} (h : Doc w B d sv cv) (hk : Kept B w w') : Doc w' B d sv cv := ⟨h.sure.keep hk, h.chs.keep hk, h.kind⟩
theorem Doc.mono {w : World} {B C : Nat → Prop} {d : DS} {sv cv : Value} (h : Doc w B d sv cv) (hc : ∀ j, j < w.heap.size → B j → C j) : Doc w C d sv cv := ⟨h.sure.mono hc, h.chs.mono hc, h.kind⟩
theorem Doc.old {w w' : World} {B : Nat → Prop} {d : DS} {sv cv : Value} (h : Doc w B d sv cv) (hb : Below w.heap.size w w') : Doc w' B d sv cv := h.keep (kept_new hb B)
theorem Doc.val {w : World} {B : Nat → Prop} {d : DS} {sv cv : Value} (h : Doc w B d sv cv) : (∃ ao cap, sv = .slice ao d.sure.length cap) ∧ ∃ ao cap, cv = .slice ao d.chs.length cap := by
  obtain ⟨ao, cap, h1, _⟩ := h.sure.val
  obtain ⟨ao2, cap2, h2, _⟩ := h.chs.val
  rw [List.length_map] at h2
  exact ⟨⟨ao, cap, h1⟩, ao2, cap2, h2⟩
theorem Doc.at {w : World} {B : Nat → Prop} {d : DS} {sv : Value} {ao : Option Addr} {n cap : Nat} (h : Doc w B d sv (.slice ao n cap)) {i : Nat} {c : Ch} (hi : d.chs[i]? = some c) :
    ∃ b off, ao = some ⟨b, off, none⟩ ∧ b < w.heap.size ∧ w.cell? ⟨b, off + i * 4, none⟩ = some (.int .i64 (c.kind : Int)) ∧ w.cell? ⟨b, off + i * 4 + 1, none⟩ = some (nmV c.name) ∧ w.cell? ⟨b, off + i * 4 + 2, none⟩ = some (nmV c.to) ∧ w.cell? ⟨b, off + i * 4 + 3, none⟩ = some (.string (txt c.text)) := by
  obtain ⟨b, off, ha, hb, _, hc⟩ := h.chs.at (r := cR c) (by rw [List.getElem?_map, hi]; rfl)
  exact ⟨b, off, ha, hb, hc 0 _ rfl, hc 1 _ rfl, hc 2 _ rfl, hc 3 _ rfl⟩

def ApPost (B : Nat → Prop) (w : World) (l' : Fm (List Nat)) (e : Ending) (w' : World) : Prop :=
  ∃ v', e = .returned v' ∧ FsAt w' (fun j => B j ∨ w.heap.size ≤ j) v' l' ∧ Below w.heap.size w w'
theorem ApPost.own {B : Nat → Prop} {w W w' : World} {v' : Value} {l' : Fm (List Nat)} (hb : Below w.heap.size w W) (ho : FsOwn w' W.heap.size v' l') (hb2 : Below W.heap.size W w') : ApPost B w l' (.returned v') w' :=
  ⟨v', rfl, ho.at'.mono fun _ _ hj => .inr (Nat.le_trans hb.size hj), hb.trans (hb2.mono hb.size)⟩

set_option maxHeartbeats 2000000 in
set_option maxRecDepth 100000 in
theorem rapply_any {w : World} {B : Nat → Prop} {v : Value} {l : Fm (List Nat)} (h : FsAt w B v l) {c : Ch} (hk : c.kind ≤ 2) (hsz : l.length ≤ 900000) :
    Calls Tryz.prog 63 #[v, chgV c] w (ApPost B w (capply l c)) := by
  obtain ⟨ao, cap, rfl, hl⟩ := h.val
  obtain ⟨kind, name, to, text⟩ := c
  obtain ⟨zk, hzk⟩ : ∃ zk : Int, zk = (kind : Int) := ⟨_, rfl⟩
  obtain ⟨bn, hsn⟩ : ∃ s, Value.string s = nmV name := ⟨_, rfl⟩
  obtain ⟨bt, hst⟩ : ∃ s, Value.string s = nmV to := ⟨_, rfl⟩
  obtain ⟨sx, hsx⟩ : ∃ s, s = txt text := ⟨_, rfl⟩
  obtain ⟨W1, hW1⟩ : ∃ W1, W1 = w.alloc (.cells #[.int .i64 zk, (.string bn), (.string bt), .string sx] 110) := ⟨_, rfl⟩
  have hb1 : Below w.heap.size w W1 := by rw [hW1]; exact (Below.refl _ _).alloc (Nat.le_refl _) _
  have hx1 : W1.heap[w.heap.size]? = some (.cells #[.int .i64 zk, (.string bn), (.string bt), .string sx] 110 (0, 0)) := by rw [hW1]; exact heap_alloc_new _ _
  have H1 := Lib.hid (h.old hb1)
  have hF := rfind_any (h.old hb1) name
  have hWI := rwith_any (h.old hb1) name text hsz
  have hWO := rwithout_any (h.old hb1) name (Nat.le_trans hsz (by decide))
  rw [← hsn] at hF hWI hWO
  rw [← hsx] at hWI
  have hWD := rwithout_any (w := W1.drew) ((h.old hb1).keep ⟨Nat.le_refl _, fun _ _ _ => rfl⟩) name (Nat.le_trans hsz (by decide))
  rw [← hsn] at hWD
  have HWD := Lib.hid hWD
  clear hWD
  have HF := Lib.hid hF
  have HWI := Lib.hid hWI
  have HWO := Lib.hid hWO
  have HB1 := Lib.hid hb1
  have c0 : W1.cell? ⟨w.heap.size, 0, none⟩ = some (.int .i64 zk) := by rw [cell_of_row _ _ 0 _ _ _ hx1]; rfl
  have c1 : W1.cell? ⟨w.heap.size, 1, none⟩ = some (.string bn) := by rw [cell_of_row _ _ 1 _ _ _ hx1]; rfl
  have c2 : W1.cell? ⟨w.heap.size, 2, none⟩ = some (.string bt) := by rw [cell_of_row _ _ 2 _ _ _ hx1]; rfl
  have c3 : W1.cell? ⟨w.heap.size, 3, none⟩ = some (.string sx) := by rw [cell_of_row _ _ 3 _ _ _ hx1]; rfl
  have HPW : Hid (w.heap.size < W1.heap.size) := Lib.hid (Array.getElem?_eq_some_iff.1 hx1).1
  have HW1 := Lib.hid hW1
  have HSN := Lib.hid hsn
  have HST := Lib.hid hst
  have HSX := Lib.hid hsx
  have HK : Hid (kind ≤ 2) := Lib.hid hk
  have HSZ := Lib.hid hsz
  have HWW : Hid (∀ wx vx, FsAt wx (fun _ => True) vx (fdel l name) → ∀ t, Calls Tryz.prog 81 #[vx, .agg #[(.string bt), .string (txt t)]] wx fun e w' => ∃ v', e = .returned v' ∧ FsOwn w' wx.heap.size v' (fput (fdel l name) to t) ∧ Below wx.heap.size wx w') := Lib.hid fun wx vx hv t => by
    rw [hst]; exact rwith_any hv to t (Nat.le_trans (fdel_length _ _) hsz)
  unfold chgV
  simp only []
  rw [← hzk, ← hsn, ← hst, ← hsx]
  have HZK := Lib.hid hzk
  clear h hW1 hb1 hx1 hF hWI hWO hsn hst hsx hk hsz hzk
  go_enter Tryz.func63, Tryz.ntmps63
  go_wp2_with fail
  rw [← HW1.out]
  refine HF.out.mono ?_
  rintro e W1 ⟨rfl, i, rfl, hfi⟩
  have HFI := Lib.hid hfi
  clear hfi
  rcases (show kind = 0 ∨ kind = 1 ∨ kind = 2 by have := HK.out; omega) with rfl | rfl | rfl
  · obtain rfl : zk = 0 := HZK.out
    go_wp2_with fail
    refine HWI.out.mono ?_
    rintro e w2 ⟨v2, rfl, ho, hb⟩
    have HP := Lib.hid (ApPost.own (B := B) HB1.out ho hb)
    clear ho hb
    go_wp2
    go_ret
    exact HP.out
  all_goals
    rcases HFI.out with ⟨rfl, hg⟩ | ⟨k, t, rfl, hlk, hg⟩
  · obtain rfl : zk = 1 := HZK.out
    have HP : Hid (ApPost B w (capply l ⟨1, name, to, text⟩) (.returned (.slice ao l.length cap)) W1) := Lib.hid ⟨_, rfl, by
      have e : capply l ⟨1, name, to, text⟩ = l := by unfold capply; simp [hg]
      rw [e]; exact H1.out.mono fun _ _ h => .inl h, HB1.out⟩
    clear hg
    go_wp2
    go_ret
    exact HP.out
  · obtain rfl : zk = 1 := HZK.out
    have HC : Hid (capply l ⟨1, name, to, text⟩ = fput (fdel l name) to t) := Lib.hid (by unfold capply; simp [hg])
    obtain ⟨b, off, rfl, hbl, _, e1⟩ := H1.out.at hlk
    have hlt : (k : Int) < l.length := by have := (List.getElem?_eq_some_iff.1 hlk).1; omega
    have hkn : ¬ (k : Int) < 0 := by omega
    obtain ⟨s1, hs1⟩ : ∃ s, s = txt t := ⟨_, rfl⟩
    simp only [] at e1
    rw [← hs1] at e1
    have HS1 := Lib.hid hs1
    have HBL := Lib.hid hbl
    have C1 := Lib.hid c1
    have C2 := Lib.hid c2
    have E1 := Lib.hid e1
    clear hg hlk hs1 hbl
    go_wp2_with fail
    go_region_held3 (fun w' => w'.cell? ⟨w.heap.size, 1, none⟩ = some (.string bn) ∧ w'.cell? ⟨w.heap.size, 2, none⟩ = some (.string bt) ∧ w'.cell? ⟨b, off + k * 2 + 1, none⟩ = some (.string s1)) (go_keep) (first
      | (go_at_call 82; refine HWD.out.mono ?_
         rintro e wx ⟨vr, rfl, ho, hb⟩
         obtain ⟨ao3, cap3, rfl⟩ := ho.val
         have x1 : wx.cell? ⟨w.heap.size, 1, none⟩ = some (.string bn) := (World.cell?_of_block (hb.block _ HPW.out)).trans C1.out
         have x2 : wx.cell? ⟨w.heap.size, 2, none⟩ = some (.string bt) := (World.cell?_of_block (hb.block _ HPW.out)).trans C2.out
         have x3 : wx.cell? ⟨b, off + k * 2 + 1, none⟩ = some (.string s1) := (World.cell?_of_block (hb.block _ HBL.out)).trans E1.out
         have Y1 := Lib.hid x1
         have Y2 := Lib.hid x2
         have Y3 := Lib.hid x3
         have HO := Lib.hid ho
         have HBX := Lib.hid hb
         have HPX : Hid (w.heap.size < wx.heap.size ∧ b < wx.heap.size) := Lib.hid ⟨Nat.lt_of_lt_of_le HPW.out hb.size, Nat.lt_of_lt_of_le HBL.out hb.size⟩
         clear ho hb)
      | (go_at_call 81
         rw [HS1.out]
         refine (HWW.out _ _ (HO.out.at'.mono fun _ _ _ => trivial) t).mono ?_
         rintro e wy ⟨v4, rfl, ho4, hb4⟩
         have x1 : wy.cell? ⟨w.heap.size, 1, none⟩ = some (.string bn) := (World.cell?_of_block (hb4.block _ HPX.out.1)).trans Y1.out
         have x2 : wy.cell? ⟨w.heap.size, 2, none⟩ = some (.string bt) := (World.cell?_of_block (hb4.block _ HPX.out.1)).trans Y2.out
         have x3 : wy.cell? ⟨b, off + k * 2 + 1, none⟩ = some (.string s1) := (World.cell?_of_block (hb4.block _ HPX.out.2)).trans Y3.out
         have HO4 := Lib.hid ho4
         have HB4 := Lib.hid hb4
         clear ho4 hb4))
    go_wp2
    go_ret
    rw [HC.out]
    exact ApPost.own (B := B) ((show Below w.heap.size w W1.drew from ⟨HB1.out.os, HB1.out.tape, HB1.out.output, HB1.out.size, HB1.out.block⟩).trans (HBX.out.mono HB1.out.size)) HO4.out HB4.out
  · obtain rfl : zk = 2 := HZK.out
    have HP : Hid (ApPost B w (capply l ⟨2, name, to, text⟩) (.returned (.slice ao l.length cap)) W1) := Lib.hid ⟨_, rfl, by
      have e : capply l ⟨2, name, to, text⟩ = l := by unfold capply; simp [hg]
      rw [e]; exact H1.out.mono fun _ _ h => .inl h, HB1.out⟩
    clear hg
    go_wp2
    go_ret
    exact HP.out
  · obtain rfl : zk = 2 := HZK.out
    have HC : Hid (capply l ⟨2, name, to, text⟩ = fdel l name) := Lib.hid (by unfold capply; simp [hg])
    have hkn : ¬ (k : Int) < 0 := by omega
    clear hg hlk
    go_wp2_with fail
    refine HWO.out.mono ?_
    rintro e w2 ⟨v2, rfl, ho, hb⟩
    have HP := Lib.hid (ApPost.own (B := B) HB1.out ho hb)
    clear ho hb
    go_wp2
    go_ret
    rw [HC.out]
    exact HP.out

/-! ### Shown, Used -/
def DS.sz9 (d : DS) : Prop := d.sz ≤ 800000
theorem shownOf_take_length (d : DS) (k : Nat) : (shownOf d.sure (d.chs.take k)).length ≤ d.sz := Nat.le_trans (shownOf_length _ _) (by unfold DS.sz; rw [List.length_take]; omega)

set_option maxHeartbeats 2000000 in
set_option maxRecDepth 100000 in
theorem rshown_any {w : World} {B : Nat → Prop} {d : DS} {sv cv : Value} (h : Doc w B d sv cv) (hsz : d.sz ≤ 800000) :
    Calls Tryz.prog 60 #[docV d sv cv] w (ApPost B w d.shown) := by
  obtain ⟨⟨aos, caps, rfl⟩, aoc, capc, rfl⟩ := h.val
  unfold docV
  obtain ⟨W1, hW1⟩ : ∃ W1, W1 = w.alloc (.cells #[.int .i64 (d.room : Int), .slice aos d.sure.length caps, .slice aoc d.chs.length capc, .int .i64 d.fuse, .bool d.down] 33) := ⟨_, rfl⟩
  have hb1 : Below w.heap.size w W1 := by rw [hW1]; exact (Below.refl _ _).alloc (Nat.le_refl _) _
  have hx1 : W1.heap[w.heap.size]? = some (.cells #[.int .i64 (d.room : Int), .slice aos d.sure.length caps, .slice aoc d.chs.length capc, .int .i64 d.fuse, .bool d.down] 33 (0, 0)) := by rw [hW1]; exact heap_alloc_new _ _
  have H1 := Lib.hid (h.old hb1)
  have HB1 := Lib.hid hb1
  have HX1 := Lib.hid hx1
  have c1 : W1.cell? ⟨w.heap.size, 1, none⟩ = some (.slice aos d.sure.length caps) := by rw [cell_of_row _ _ 1 _ _ _ hx1]; rfl
  have HPW : Hid (w.heap.size < W1.heap.size) := Lib.hid (Array.getElem?_eq_some_iff.1 hx1).1
  have HW1 := Lib.hid hW1
  have HSZ := Lib.hid hsz
  have HCL : Hid (d.chs.length ≤ 800000) := Lib.hid (Nat.le_trans (Nat.le_add_left _ _) hsz)
  clear h hW1 hb1 hx1 hsz
  go_enter Tryz.func60, Tryz.ntmps60
  go_wp2_with fail
  rw [← HW1.out]
  go_loopw [3, 4] (fun lv i wr => ∃ k : Nat, k ≤ d.chs.length ∧ i = .int .i64 (k : Int) ∧ FsAt wr (fun j => B j ∨ w.heap.size ≤ j) lv (shownOf d.sure (d.chs.take k)) ∧ Below W1.heap.size W1 wr)
    (fun _ i _ => d.chs.length - (intOf i).toNat)
  case atStart => exact ⟨0, Nat.zero_le _, rfl, H1.out.sure.mono fun _ _ h => .inl h, Below.refl _ _⟩
  case round =>
    obtain ⟨k, hk, rfl, hfs, hb⟩ := hrel
    obtain ⟨lo, lc, rfl, _⟩ := hfs.val
    have HFS := Lib.hid hfs
    have HB := Lib.hid hb
    have c2 : wr.cell? ⟨w.heap.size, 2, none⟩ = some (.slice aoc d.chs.length capc) := by rw [World.cell?_of_block (hb.block _ HPW.out), cell_of_row _ _ 2 _ _ _ HX1.out]; rfl
    by_cases hlt : k < d.chs.length
    · obtain ⟨c, hc⟩ : ∃ c, d.chs[k]? = some c := ⟨_, List.getElem?_eq_getElem hlt⟩
      obtain ⟨b, off, rfl, _, e0, e1, e2, e3⟩ := (H1.out.old hb).at hc
      have hcall := rapply_any hfs (c := c) (H1.out.kind c (List.mem_of_getElem? hc)) (Nat.le_trans (shownOf_take_length d k) (Nat.le_trans HSZ.out (by decide)))
      have HSN : Hid (shownOf d.sure (d.chs.take (k + 1)) = capply (shownOf d.sure (d.chs.take k)) c) := Lib.hid (by rw [take_snoc hc, shownOf_snoc])
      have hlti : (k : Int) < d.chs.length := by omega
      have HK := Lib.hid hlt
      obtain ⟨kind, name, to, text⟩ := c
      unfold chgV at hcall
      simp only [] at e0 e1 e2 e3 hcall
      obtain ⟨bn, hbn⟩ : ∃ s, Value.string s = nmV name := ⟨_, rfl⟩
      obtain ⟨bt, hbt⟩ : ∃ s, Value.string s = nmV to := ⟨_, rfl⟩
      obtain ⟨bx, hbx⟩ : ∃ s, s = txt text := ⟨_, rfl⟩
      rw [← hbn] at e1 hcall
      rw [← hbt] at e2 hcall
      rw [← hbx] at e3 hcall
      have HCALL := Lib.hid hcall
      clear hfs hb hc hcall hbn hbt hbx
      go_wp2_with fail
      refine HCALL.out.mono ?_
      rintro e w2 ⟨v2, rfl, ho, hb2⟩
      have HO : Hid (FsAt w2 (fun j => B j ∨ w.heap.size ≤ j) v2 (shownOf d.sure (d.chs.take (k + 1)))) := Lib.hid (by
        rw [HSN.out]
        have h1 := HB1.out.size
        have h2 := HB.out.size
        exact ho.mono fun j _ hj => by
          rcases hj with (h | h) | h
          · exact .inl h
          · exact .inr h
          · exact .inr (by omega))
      have HB2 := Lib.hid (HB.out.trans (hb2.mono HB.out.size))
      clear ho hb2
      go_wp2
      go_roundw
      case rel => exact ⟨k + 1, HK.out, (by first | exact inc_eq HK.out (Nat.le_trans HCL.out (by decide)) | rfl), HO.out, HB2.out⟩
      case measure => first | exact inc_meas HK.out (Nat.le_trans HCL.out (by decide)) | (have := HK.out; simp [intOf]; omega)
    · obtain rfl : k = d.chs.length := by omega
      clear hfs hb
      go_wp2
      go_ret
      refine ⟨_, rfl, ?_, HB1.out.trans (HB.out.mono HB1.out.size)⟩
      have h := HFS.out
      unfold DS.shown
      simp only [List.take_length] at h ⊢
      exact h

theorem tot_snoc {l : Fm (List Nat)} {k : Nat} {f : Nm × List Nat} (hf : l[k]? = some f) : tot (l.take (k + 1)) = tot (l.take k) + f.2.length := by
  rw [take_snoc hf, tot_app]
  simp [tot]
theorem tot_take_le (l : Fm (List Nat)) (k : Nat) : tot (l.take k) ≤ tot l := by
  have := tot_app (l.take k) (l.drop k)
  rw [List.take_append_drop] at this
  omega

set_option maxHeartbeats 1000000 in
set_option maxRecDepth 100000 in
theorem rused_any {w : World} {B : Nat → Prop} {v : Value} {l : Fm (List Nat)} (h : FsAt w B v l) (ht : tot l < 4611686018427387904) :
    Calls Tryz.prog 59 #[v] w fun e w' => e = .returned (.int .i64 (tot l : Int)) ∧ w' = w := by
  obtain ⟨ao, cap, rfl, hl⟩ := h.val
  have H := Lib.hid h
  clear h
  go_enter Tryz.func59, Tryz.ntmps59
  go_wp2
  go_loopw [3, 4] (fun s i wr => ∃ k : Nat, k ≤ l.length ∧ i = .int .i64 (k : Int) ∧ s = .int .i64 (tot (l.take k) : Int) ∧ wr = w)
    (fun _ i _ => l.length - (intOf i).toNat)
  case atStart => exact ⟨0, Nat.zero_le _, rfl, rfl, rfl⟩
  case round =>
    obtain ⟨k, hk, rfl, rfl, rfl⟩ := hrel
    by_cases hlt : k < l.length
    · obtain ⟨f, hf⟩ : ∃ f, l[k]? = some f := ⟨_, List.getElem?_eq_getElem hlt⟩
      obtain ⟨b, off, rfl, _, _, e1⟩ := H.out.at hf
      obtain ⟨s, hs⟩ : ∃ s, s = txt f.2 := ⟨_, rfl⟩
      rw [← hs] at e1
      have hsz : s.size = f.2.length := by rw [hs, txt_size]
      have hts := tot_snoc hf
      have hle := tot_take_le l (k + 1)
      have hlti : (k : Int) < l.length := by omega
      have HK := Lib.hid hlt
      have hadd : wrap64 ((tot (l.take k) : Int) + (s.size : Int)) = ((tot (l.take (k + 1)) : Nat) : Int) := by
        rw [hts, hsz, w64_id (by omega) (by omega)]
        omega
      clear hf hs hsz hts hle
      obtain ⟨T1, hT1⟩ : ∃ T1, T1 = tot (l.take (k + 1)) := ⟨_, rfl⟩
      rw [← hT1] at hadd
      have HT1 := Lib.hid hT1
      have HADD := Lib.hid hadd
      clear hT1
      generalize tot (l.take k) = T0 at *
      go_wp2
      go_roundw
      case rel => exact ⟨k + 1, HK.out, (by first | exact inc_eq HK.out hl | rfl), (by rw [← HT1.out]; exact congrArg (Value.int .i64) HADD.out), trivial⟩
      case measure => first | exact inc_meas HK.out hl | (have := HK.out; simp [intOf]; omega)
    · obtain rfl : k = l.length := by omega
      go_wp2
      go_ret
      exact ⟨by simp only [List.take_length]; rfl, rfl⟩

end Go.Proofs.YtmjpckodcafjiaaGreat
