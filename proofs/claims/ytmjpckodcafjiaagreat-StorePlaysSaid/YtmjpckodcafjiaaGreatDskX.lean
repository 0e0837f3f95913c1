/- Two rows of names compared; a driven disk beside which other things are kept. -/
import Derived.Test.YtmjpckodcafjiaaGreatDskW
namespace Go.Proofs.YtmjpckodcafjiaaGreat
open Go.RowKit

theorem below_dK {B : Nat} {a w : World} {n : Nat} (h : Below B a w) : Below B a (w.drewN n) := ⟨h.os, h.tape, h.output, h.size, h.block⟩
theorem NmsO.lt {w : World} {base : Nat} {v : Value} {ns : List Nm} (h : NmsO w base v ns) {g : Nat} (hg : v.ownBlock = some g) : base ≤ g ∧ g < w.heap.size := World.ownsRow.lt h g hg
theorem NmsO.keep {w w' : World} {base : Nat} {v : Value} {ns : List Nm} {K : Nat → Prop} (h : NmsO w base v ns) (hk : Kept K w w') (hK : ∀ g, v.ownBlock = some g → K g) : NmsO w' base v ns := by
  refine ⟨h.1, ?_⟩
  rcases h.2 with h2 | ⟨g, cap, cur, rfl, hbb, hg, r⟩
  · exact .inl h2
  · have hl := (Array.getElem?_eq_some_iff.1 hg).1
    exact .inr ⟨g, cap, cur, rfl, hbb, (hk.block g hl (hK g rfl)).trans hg, r⟩
theorem FilesO.keep {w w' : World} {base : Nat} {v : Value} {l : List (Nm × List Nat)} {K : Nat → Prop} (h : FilesO w base v l) (hk : Kept K w w') (hK : ∀ j, base ≤ j → j < w.heap.size → K j) : FilesO w' base v l := by
  obtain ⟨ps, h1, h2, h3⟩ := h
  exact ⟨ps, h1, h2.keep fun j hj => hk.block j (h2.block hj).2.1 (hK j (h2.block hj).1 (h2.block hj).2.1), fun x hx => (h3 x hx).typ ⟨hk.size, fun j hj hT => hk.block j hj (hK j hT.1 hj)⟩ fun _ h => h⟩

set_option maxHeartbeats 1000000 in
set_option maxRecDepth 100000 in
theorem texts_any {w : World} {b1 b2 : Nat} {v1 v2 : Value} {ns : List Nm} (h1 : NmsO w b1 v1 ns) (h2 : NmsO w b2 v2 ns) (hl : ns.length ≤ 1000000000) :
    Calls Tryz.prog 34 #[v1, v2] w fun e w' => e = .returned (.bool true) ∧ Below w.heap.size w w' := by
  obtain ⟨ao1, cap1, rfl⟩ := h1.val
  obtain ⟨ao2, cap2, rfl⟩ := h2.val
  have H1 := Lib.hid h1
  have H2 := Lib.hid h2
  have HL := Lib.hid hl
  clear h1 h2 hl
  go_enter Tryz.func34, Tryz.ntmps34
  go_wp2
  go_loopw [5, 13] (fun _ i wr => ∃ k : Nat, k ≤ ns.length ∧ i = .int .i64 (k : Int) ∧ Below w.heap.size w wr)
    (fun _ i _ => ns.length - (intOf i).toNat)
  case atStart => exact ⟨0, Nat.zero_le _, rfl, Below.refl _ _⟩
  case round =>
    obtain ⟨k, hk, rfl, hb⟩ := hrel
    have HB := Lib.hid hb
    by_cases hlt : k < ns.length
    · obtain ⟨x, hx⟩ : ∃ x, ns[k]? = some x := ⟨_, List.getElem?_eq_getElem hlt⟩
      obtain ⟨g1, rfl, _, hg1, e1⟩ := H1.out.at hx
      obtain ⟨g2, rfl, _, hg2, e2⟩ := H2.out.at hx
      have e1 := (hb.cell (p := ⟨g1, k, none⟩) hg1).trans e1
      have e2 := (hb.cell (p := ⟨g2, k, none⟩) hg2).trans e2
      obtain ⟨s, hs⟩ : ∃ s : ByteArray, nmV x = .string s := ⟨_, rfl⟩
      rw [hs] at e1 e2
      have hlti : (k : Int) < ns.length := by omega
      have HKL := Lib.hid hlt
      clear hb hx hg1 hg2 hs
      go_wp2_with fail
      go_quiet (fail)
      go_wp2
      go_roundw
      case rel => exact ⟨k + 1, Nat.succ_le_of_lt HKL.out, congrArg (Value.int .i64) (wrap_succM k (Nat.le_trans (Nat.le_of_lt HKL.out) HL.out)), by first | exact HB.out | exact below_dK HB.out⟩
      case measure => exact meas_succM HKL.out (Nat.le_trans (Nat.le_of_lt HKL.out) HL.out)
    · obtain rfl : k = ns.length := by omega
      go_wp2
      go_ret
      exact ⟨rfl, hb⟩

/-- A driven disk; what stood at wK in blocks of which K holds is kept beside it. -/
def DrvK (w0 wK : World) (K : Nat → Prop) (w : World) (p : Nat) (d : DS) : Prop :=
  ∃ S, Dk w S p d ∧ (∀ j, S j → w0.heap.size ≤ j) ∧ Below w0.heap.size w0 w ∧ Kept K wK w ∧ ∀ j, j < wK.heap.size → K j → ¬ S j
section
variable {w0 wK w w' : World} {K : Nat → Prop} {p : Nat} {d d' : DS}
theorem DrvK.below (h : DrvK w0 wK K w p d) : Below w0.heap.size w0 w := by obtain ⟨S, _, _, h, _⟩ := h; exact h
theorem DrvK.kept (h : DrvK w0 wK K w p d) : Kept K wK w := by obtain ⟨S, _, _, _, h, _⟩ := h; exact h
theorem DrvK.drv (h : DrvK w0 wK K w p d) : Drv w0 w p d := by obtain ⟨S, h1, h2, h3, _⟩ := h; exact ⟨S, h1, h2, h3⟩
theorem DrvK.more (h : DrvK w0 wK K w p d) (hb : Below w.heap.size w w') : DrvK w0 wK K w' p d := by
  obtain ⟨S, h1, h2, h3, h4, h5⟩ := h
  exact ⟨S, h1.keep (kept_new hb S), h2, h3.trans (hb.mono h3.size), ⟨Nat.le_trans h4.size hb.size, fun j hj hK => (hb.block j (Nat.lt_of_lt_of_le hj h4.size)).trans (h4.block j hj hK)⟩, h5⟩
theorem drvK_post {S : Nat → Prop} (h2 : ∀ j, S j → w0.heap.size ≤ j) (h3 : Below w0.heap.size w0 w) (h4 : Kept K wK w) (h5 : ∀ j, j < wK.heap.size → K j → ¬ S j) (h : DPost S p w w' d') : DrvK w0 wK K w' p d' := by
  obtain ⟨S', hd, hf, _, ht⟩ := h
  refine ⟨S', hd, fun j hj => ?_, h3.trans (hf.below h3.size fun j hj h => Nat.not_le_of_lt hj (h2 j h)), ⟨Nat.le_trans h4.size hf.size, fun j hj hK => (hf.block j (Nat.lt_of_lt_of_le hj h4.size) (h5 j hj hK)).trans (h4.block j hj hK)⟩, fun j hj hK hS => ?_⟩
  · rcases ht j hj with h | h
    · exact h2 j h
    · exact Nat.le_trans h3.size h
  · rcases ht j hS with h | h
    · exact h5 j hj hK h
    · exact absurd (Nat.lt_of_lt_of_le hj h4.size) (Nat.not_lt.2 h)
/-- Behind a call that wrote nothing old: all that does not belong to the disk is kept from now on. -/
theorem DrvK.again (h : DrvK w0 wK K w p d) (hb : Below w.heap.size w w') : ∃ K', DrvK w0 w' K' w' p d ∧ (∀ j, j < wK.heap.size → K j → K' j) ∧ ∀ j, w.heap.size ≤ j → K' j := by
  obtain ⟨S, h1, h2, h3, h4, h5⟩ := h
  exact ⟨fun j => ¬ S j, ⟨S, h1.keep (kept_new hb S), h2, h3.trans (hb.mono h3.size), ⟨Nat.le_refl _, fun _ _ _ => rfl⟩, fun _ _ h => h⟩, h5, fun j hj hS => absurd (h1.lt hS) (Nat.not_lt.2 hj)⟩
theorem Drv.k (h : Drv w0 w p d) : ∃ K, DrvK w0 w K w p d := by
  obtain ⟨S, h1, h2, h3⟩ := h
  exact ⟨fun j => ¬ S j, S, h1, h2, h3, ⟨Nat.le_refl _, fun _ _ _ => rfl⟩, fun _ _ h => h⟩

theorem DrvK.sync (h : DrvK w0 wK K w p d) (hsz : d.sz < 1099511627776) : Calls Tryz.prog 42 #[.pointer (some ⟨p, 0, none⟩)] w fun e w' => e = .returned (errV (dsync d).2) ∧ DrvK w0 wK K w' p (dsync d).1 := by
  obtain ⟨S, h1, h2, h3, h4, h5⟩ := h
  exact (syncD_any h1 hsz).mono fun e w' hp => ⟨hp.1, drvK_post h2 h3 h4 h5 hp.2⟩
theorem DrvK.cut (h : DrvK w0 wK K w p d) (hsz : d.sz < 1099511627776) {kv : Value} {ks : List Bool} (hkv : RowV w0 (fun j => j < w0.heap.size) kv (ks.map Value.bool)) :
    Calls Tryz.prog 25 #[.pointer (some ⟨p, 0, none⟩), kv] w fun e w' => e = .returned (.tuple #[]) ∧ DrvK w0 wK K w' p (dcut d ks) := by
  obtain ⟨S, h1, h2, h3, h4, h5⟩ := h
  exact (cutD_any h1 hsz ((hkv.keep (kept_below h3)).mono fun j _ hj hS => Nat.not_le_of_lt hj (h2 j hS))).mono fun e w' hp => ⟨hp.1, drvK_post h2 h3 h4 h5 hp.2⟩
theorem DrvK.start (h : DrvK w0 wK K w p d) : Calls Tryz.prog 26 #[.pointer (some ⟨p, 0, none⟩)] w fun e w' => e = .returned (.tuple #[]) ∧ DrvK w0 wK K w' p (dstart d) := by
  obtain ⟨S, h1, h2, h3, h4, h5⟩ := h
  exact (startD_any h1).mono fun e w' hp => ⟨hp.1, drvK_post h2 h3 h4 h5 hp.2⟩
theorem DrvK.list (h : DrvK w0 wK K w p d) (hsz : d.sz ≤ 1000000) : Calls Tryz.prog 39 #[.pointer (some ⟨p, 0, none⟩)] w (ListPost (dlist d) w) := by
  obtain ⟨S, h1, _⟩ := h
  exact listD_any h1 hsz
theorem DrvK.sure (h : DrvK w0 wK K w p d) (hsz : d.sz ≤ 1000000) : Calls Tryz.prog 55 #[.pointer (some ⟨p, 0, none⟩)] w fun e w' => ∃ v, e = .returned v ∧ FilesO w' w.heap.size v (fsort d.sure) ∧ Below w.heap.size w w' := by
  obtain ⟨S, h1, _⟩ := h
  exact sureD_any h1 hsz
end

end Go.Proofs.YtmjpckodcafjiaaGreat
