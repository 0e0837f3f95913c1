/- holdfastnum's Is. · The fixed fact at the head of the disk statements: the chapter's example. · The law's acts: what a slice of them reads as. · A disk that a statement drives: all its blocks are the call's own. · List and Sure: the names, and the files that are sure, sorted. -/
import Derived.Test.YtlckadlkgjfjcaaGreatDoorDaP
import Derived.Test.YtlckadlkgjfjcaaGreatDoorDcP
import Derived.Lib.SlBytesConst
import Derived.Test.YtlckadlkgjfjcaaGreatDoorIsA
namespace Go.Proofs.YtlckadlkgjfjcaaGreatDoor
open Go.RowKit

end Go.Proofs.YtlckadlkgjfjcaaGreatDoor

namespace Go.Proofs.YtlckadlkgjfjcaaGreatDoor
open Go.RowKit

structure ActR where
  kind : Int
  name : Nm
  to : Nm
  bytes : List Nat
  n : Int
  keep : List Bool
instance : Inhabited ActR := ⟨⟨0, [], [], [], 0, []⟩⟩
def actRow (a : ActR) (bv kv : Value) : List Value := [.int .i64 a.kind, nmV a.name, nmV a.to, bv, .int .i64 a.n, kv]
/-- An act's record: its bytes and its picks lie in blocks of which B holds. -/
structure ActAt (w : World) (B : Nat → Prop) (a : ActR) (bv kv : Value) : Prop where
  bytes : At w B .u8 bv a.bytes
  byte : ∀ y ∈ a.bytes, y < 256
  keep : RowV w B kv (a.keep.map Value.bool)
  kind : -9223372036854775808 ≤ a.kind ∧ a.kind ≤ 9223372036854775807
  n : -9223372036854775808 ≤ a.n ∧ a.n ≤ 9223372036854775807
  name : a.name.length ≤ 9223372036854775807
  to : a.to.length ≤ 9223372036854775807
theorem ActAt.kept {w w' : World} {B : Nat → Prop} {a : ActR} {bv kv : Value} (h : ActAt w B a bv kv) (hk : Kept B w w') : ActAt w' B a bv kv := ⟨h.bytes.keep hk, h.byte, h.keep.keep hk, h.kind, h.n, h.name, h.to⟩
theorem ActAt.mono {w : World} {B C : Nat → Prop} {a : ActR} {bv kv : Value} (h : ActAt w B a bv kv) (hc : ∀ j, j < w.heap.size → B j → C j) : ActAt w C a bv kv := ⟨h.bytes.mono hc, h.byte, h.keep.mono hc, h.kind, h.n, h.name, h.to⟩

/-- A slice of acts. -/
def ActsAt (w : World) (B : Nat → Prop) (v : Value) (acts : List ActR) : Prop :=
  ∃ rows : List (List Value), RecAt w B 6 v rows ∧ rows.length = acts.length ∧ ∀ (i : Nat) (a : ActR), acts[i]? = some a → ∃ bv kv, rows[i]? = some (actRow a bv kv) ∧ ActAt w B a bv kv
theorem ActsAt.kept {w w' : World} {B : Nat → Prop} {v : Value} {acts : List ActR} (h : ActsAt w B v acts) (hk : Kept B w w') : ActsAt w' B v acts := by
  obtain ⟨rows, h1, h2, h3⟩ := h
  refine ⟨rows, h1.keep hk, h2, fun i a hi => ?_⟩
  obtain ⟨bv, kv, h4, h5⟩ := h3 i a hi
  exact ⟨bv, kv, h4, h5.kept hk⟩
theorem ActsAt.val {w : World} {B : Nat → Prop} {v : Value} {acts : List ActR} (h : ActsAt w B v acts) : ∃ ao cap, v = .slice ao acts.length cap ∧ acts.length ≤ cap ∧ cap ≤ maxLen ∧ (ao = none → cap = 0) := by
  obtain ⟨rows, h1, h2, _⟩ := h
  have := h1.val
  rw [h2] at this
  exact this
theorem ActsAt.at {w : World} {B : Nat → Prop} {ao : Option Addr} {n cap : Nat} {acts : List ActR} (h : ActsAt w B (.slice ao n cap) acts) {i : Nat} {a : ActR} (hi : acts[i]? = some a) :
    ∃ b off bv kv, ao = some ⟨b, off, none⟩ ∧ w.cell? ⟨b, off + i * 6, none⟩ = some (.int .i64 a.kind) ∧ w.cell? ⟨b, off + i * 6 + 1, none⟩ = some (nmV a.name) ∧ w.cell? ⟨b, off + i * 6 + 2, none⟩ = some (nmV a.to) ∧ w.cell? ⟨b, off + i * 6 + 3, none⟩ = some bv ∧
      w.cell? ⟨b, off + i * 6 + 4, none⟩ = some (.int .i64 a.n) ∧ w.cell? ⟨b, off + i * 6 + 5, none⟩ = some kv ∧ ActAt w B a bv kv := by
  obtain ⟨rows, h1, h2, h3⟩ := h
  obtain ⟨bv, kv, h4, h5⟩ := h3 i a hi
  obtain ⟨b, off, ha, _, _, hc⟩ := h1.at h4
  exact ⟨b, off, bv, kv, ha, hc 0 _ rfl, hc 1 _ rfl, hc 2 _ rfl, hc 3 _ rfl, hc 4 _ rfl, hc 5 _ rfl, h5⟩

end Go.Proofs.YtlckadlkgjfjcaaGreatDoor

namespace Go.Proofs.YtlckadlkgjfjcaaGreatDoor
open Go.RowKit

/-- A disk that was made behind w0, and nothing of w0 was written. -/
def Drv (w0 w : World) (p : Nat) (d : DS) : Prop := ∃ S, Dk w S p d ∧ (∀ j, S j → w0.heap.size ≤ j) ∧ Below w0.heap.size w0 w
theorem Drv.below {w0 w : World} {p : Nat} {d : DS} (h : Drv w0 w p d) : Below w0.heap.size w0 w := by obtain ⟨S, _, _, h⟩ := h; exact h
theorem Drv.more {w0 w w' : World} {p : Nat} {d : DS} (h : Drv w0 w p d) (hb : Below w.heap.size w w') : Drv w0 w' p d := by
  obtain ⟨S, h1, h2, h3⟩ := h
  exact ⟨S, h1.keep (kept_new hb S), h2, h3.trans (hb.mono h3.size)⟩
theorem Drv.post {w0 w w' : World} {S : Nat → Prop} {p : Nat} {d' : DS} (hs : ∀ j, S j → w0.heap.size ≤ j) (hb : Below w0.heap.size w0 w) (h : DPost S p w w' d') : Drv w0 w' p d' := by
  obtain ⟨S', hd, hf, _, ht⟩ := h
  refine ⟨S', hd, fun j hj => ?_, hb.trans (hf.below hb.size fun j hj h => Nat.not_le_of_lt hj (hs j h))⟩
  rcases ht j hj with h | h
  · exact hs j h
  · exact Nat.le_trans hb.size h
section
variable {w0 w : World} {p : Nat} {d : DS}
def DrvPost (w0 : World) (p : Nat) (r : DS × Nat) (e : Ending) (w' : World) : Prop := e = .returned (errV r.2) ∧ Drv w0 w' p r.1

theorem Drv.write (h : Drv w0 w p d) (hsz : d.sz < 1099511627776) {n : Nm} (hn : n.length ≤ 9223372036854775807) {v : Value} {b : List Nat} (hv : At w0 (fun j => j < w0.heap.size) .u8 v b) (hb : ∀ y ∈ b, y < 256) :
    Calls Tryz.prog 215 #[.pointer (some ⟨p, 0, none⟩), nmV n, v] w (DrvPost w0 p (dwrite d n b)) := by
  obtain ⟨S, h1, h2, h3⟩ := h
  refine (writeD_any h1 hsz hn ((hv.keep (kept_below h3)).mono fun j _ hj hS => Nat.not_le_of_lt hj (h2 j hS)) hb).mono fun e w' hp => ?_
  exact ⟨hp.1, Drv.post h2 h3 hp.2⟩
theorem Drv.sync (h : Drv w0 w p d) (hsz : d.sz < 1099511627776) : Calls Tryz.prog 182 #[.pointer (some ⟨p, 0, none⟩)] w (DrvPost w0 p (dsync d)) := by
  obtain ⟨S, h1, h2, h3⟩ := h
  exact (syncD_any h1 hsz).mono fun e w' hp => ⟨hp.1, Drv.post h2 h3 hp.2⟩
theorem Drv.fuse (h : Drv w0 w p d) (n : Int) (h0 : 0 ≤ n) (hn : n ≤ 9223372036854775807) :
    Calls Tryz.prog 53 #[.pointer (some ⟨p, 0, none⟩), .int .i64 n] w (DrvPost w0 p ({ d with fuse := n }, 0)) := by
  obtain ⟨S, h1, h2, h3⟩ := h
  refine (fuseD_any h1 n hn).mono fun e w' hp => ?_
  rw [if_neg (by omega), if_neg (by omega)] at hp
  exact ⟨hp.1, Drv.post h2 h3 (DPost.same hp.2.1 (hp.2.2.mono fun j _ hj => by rw [hj]; exact h1.inS))⟩
theorem Drv.cut (h : Drv w0 w p d) (hsz : d.sz < 1099511627776) {kv : Value} {ks : List Bool} (hkv : RowV w0 (fun j => j < w0.heap.size) kv (ks.map Value.bool)) :
    Calls Tryz.prog 49 #[.pointer (some ⟨p, 0, none⟩), kv] w fun e w' => e = .returned (.tuple #[]) ∧ Drv w0 w' p (dcut d ks) := by
  obtain ⟨S, h1, h2, h3⟩ := h
  exact (cutD_any h1 hsz ((hkv.keep (kept_below h3)).mono fun j _ hj hS => Nat.not_le_of_lt hj (h2 j hS))).mono fun e w' hp => ⟨hp.1, Drv.post h2 h3 hp.2⟩
theorem Drv.start (h : Drv w0 w p d) : Calls Tryz.prog 51 #[.pointer (some ⟨p, 0, none⟩)] w fun e w' => e = .returned (.tuple #[]) ∧ Drv w0 w' p (dstart d) := by
  obtain ⟨S, h1, h2, h3⟩ := h
  exact (startD_any h1).mono fun e w' hp => ⟨hp.1, Drv.post h2 h3 hp.2⟩
theorem Drv.down (h : Drv w0 w p d) : Calls Tryz.prog 104 #[.pointer (some ⟨p, 0, none⟩)] w fun e w' => e = .returned (.bool d.down) ∧ w' = w := by
  obtain ⟨S, h1, h2, h3⟩ := h
  exact downD_any h1
theorem Drv.read (h : Drv w0 w p d) {n : Nm} (hn : n.length ≤ 1000) : Calls Tryz.prog 192 #[.pointer (some ⟨p, 0, none⟩), nmV n] w (ReadDPost (dread d n) w) := by
  obtain ⟨S, h1, h2, h3⟩ := h
  exact readD_any h1 hn
end

/-! ### What an operation does, whichever it is -/
/-- Whether the power is off, or goes at the next operation. -/
def DS.dead (d : DS) : Prop := d.down = true ∨ d.fuse = 0
/-- What an operation leaves. -/
structure OpOk (d : DS) (r : DS × Nat) : Prop where
  dead : d.dead → r.2 = 14 ∧ r.1.down = true
  alive : ¬ d.dead → r.2 ≠ 14 ∧ r.1.down = d.down ∧ r.1.fuse = if d.fuse = -1 then -1 else d.fuse - 1
  sz : r.1.sz ≤ d.sz + 1
theorem dwork_dead {d : DS} (h : d.dead) : dwork d = ({ d with down := true }, 14) := by unfold dwork; rw [if_pos (show d.down = true ∨ d.fuse = 0 from h)]
theorem dwork_alive {d : DS} (h : ¬ d.dead) : dwork d = ({ d with fuse := if d.fuse = -1 then -1 else d.fuse - 1 }, 0) := by unfold dwork; rw [if_neg (show ¬ (d.down = true ∨ d.fuse = 0) from h)]
theorem dwork_sz (d : DS) : (dwork d).1.sz = d.sz := (dwork_ok d).1
theorem dadd_sz (d : DS) (c : Ch) : (dadd d c).sz = d.sz + 1 := by unfold dadd DS.sz; simp; omega
theorem opOk_write (d : DS) (n : Nm) (b : List Nat) : OpOk d (dwrite d n b) := by
  have hz := dwork_sz d
  constructor
  · intro h
    unfold dwrite
    rw [dwork_dead h, if_pos (by simp)]
    exact ⟨rfl, rfl⟩
  · intro h
    unfold dwrite
    rw [dwork_alive h]
    generalize (if d.fuse = -1 then (-1 : Int) else d.fuse - 1) = f
    simp only [ne_eq, not_true_eq_false, if_false]
    repeat' split
    all_goals exact ⟨by simp, rfl, rfl⟩
  · unfold dwrite
    repeat' split
    all_goals first | omega | (simp only [dadd_sz]; omega)
theorem opOk_rename (d : DS) (n n2 : Nm) : OpOk d (drename d n n2) := by
  have hz := dwork_sz d
  constructor
  · intro h
    unfold drename
    rw [dwork_dead h, if_pos (by simp)]
    exact ⟨rfl, rfl⟩
  · intro h
    unfold drename
    rw [dwork_alive h]
    generalize (if d.fuse = -1 then (-1 : Int) else d.fuse - 1) = f
    simp only [ne_eq, not_true_eq_false, if_false]
    repeat' split
    all_goals exact ⟨by simp, rfl, rfl⟩
  · unfold drename
    repeat' split
    all_goals first | omega | (simp only [dadd_sz]; omega)
theorem opOk_remove (d : DS) (n : Nm) : OpOk d (dremove d n) := by
  have hz := dwork_sz d
  constructor
  · intro h
    unfold dremove
    rw [dwork_dead h, if_pos (by simp)]
    exact ⟨rfl, rfl⟩
  · intro h
    unfold dremove
    rw [dwork_alive h]
    generalize (if d.fuse = -1 then (-1 : Int) else d.fuse - 1) = f
    simp only [ne_eq, not_true_eq_false, if_false]
    repeat' split
    all_goals exact ⟨by simp, rfl, rfl⟩
  · unfold dremove
    repeat' split
    all_goals first | omega | (simp only [dadd_sz]; omega)
theorem opOk_sync (d : DS) : OpOk d (dsync d) := by
  have hz := dwork_sz d
  have hl := lenShown d
  constructor
  · intro h
    unfold dsync
    rw [dwork_dead h, if_pos (by simp)]
    exact ⟨rfl, rfl⟩
  · intro h
    unfold dsync
    rw [dwork_alive h]
    exact ⟨by simp, by simp, by simp⟩
  · unfold dsync
    split
    · omega
    · show d.shown.length + 0 ≤ d.sz + 1
      omega

end Go.Proofs.YtlckadlkgjfjcaaGreatDoor

namespace Go.Proofs.YtlckadlkgjfjcaaGreatDoor
open Go.RowKit

theorem wrap_succM (k : Nat) (h : k ≤ 1000000000) : wrap64 ((k : Int) + 1) = ((k + 1 : Nat) : Int) := by
  have h2 : ((k : Int) + 1 + 9223372036854775808) % 18446744073709551616 = (k : Int) + 1 + 9223372036854775808 := Int.emod_eq_of_lt (by omega) (by omega)
  simp only [wrap64, h2]
  omega
theorem meas_succM {k n : Nat} (h : k < n) (hk : k ≤ 1000000000) : n - (intOf (.int .i64 (wrap64 ((k : Int) + 1)))).toNat < n - (intOf (.int .i64 (k : Int))).toNat := by
  rw [wrap_succM k hk]
  show n - (((k + 1 : Nat) : Int)).toNat < n - ((k : Int)).toNat
  omega
theorem MapV.named {w : World} {mb : Option Nat} {es : Fm Value} (h : MapV w mb es) : ∀ f ∈ es, f.1.length ≤ maxLen := by
  cases mb with
  | none => obtain rfl : es = [] := h; simp
  | some b =>
    intro f hf
    obtain ⟨l, hl, hk⟩ := World.ownsMap.keysOf h
    cases hl
    obtain ⟨v, hv⟩ := hk (ent f) (List.mem_map_of_mem hf)
    obtain ⟨x, _, e2, e3⟩ := Maps.keyOf_str Tryz.underlying9 hv
    have e4 : f.1 = x := by
      have : Lit.string f.1 = Lit.string x := e2
      cases this; rfl
    rw [e4]; exact e3

/-! ### Names -/
theorem NmsO.val {w : World} {base : Nat} {v : Value} {ns : List Nm} (h : NmsO w base v ns) : ∃ ao cap, v = .slice ao ns.length cap := by
  rcases h.2 with ⟨rfl, hn⟩ | ⟨g, cap, cur, rfl, _⟩
  · exact ⟨none, 0, by rw [hn]⟩
  · exact ⟨_, cap, rfl⟩
theorem NmsO.at {w : World} {base : Nat} {ao : Option Addr} {n cap : Nat} {ns : List Nm} (h : NmsO w base (.slice ao n cap) ns) {i : Nat} {x : Nm} (hi : ns[i]? = some x) :
    ∃ g, ao = some ⟨g, 0, none⟩ ∧ base ≤ g ∧ g < w.heap.size ∧ w.cell? ⟨g, i, none⟩ = some (nmV x) := by
  have h0 := h
  rcases h.2 with ⟨_, hn⟩ | ⟨g, cap', cur, hv, hb, hg, _⟩
  · obtain rfl : ns = [] := List.length_eq_zero_iff.1 hn
    cases hi
  · cases hv
    refine ⟨g, rfl, hb, (Array.getElem?_eq_some_iff.1 hg).1, ?_⟩
    have := World.ownsRow.cells h0 (g := g) rfl i (nmV x) (by rw [List.getElem?_map, hi]; rfl)
    rw [Addr.add_lit] at this
    simpa using this
theorem NmsO.below {w w' : World} {base : Nat} {v : Value} {ns : List Nm} (h : NmsO w base v ns) (hb : Below w.heap.size w w') : NmsO w' base v ns := by
  refine ⟨h.1, ?_⟩
  rcases h.2 with h2 | ⟨g, cap, cur, rfl, hbb, hg, r⟩
  · exact .inl h2
  · exact .inr ⟨g, cap, cur, rfl, hbb, (hb.block g (Array.getElem?_eq_some_iff.1 hg).1).trans hg, r⟩
theorem nms_nil (w : World) (base : Nat) : NmsO w base (.slice none 0 0) [] := World.ownsRow_nil w base _ 1

def dlist (d : DS) : List Nm × Nat := if d.down = true then ([], 14) else (srt (d.shown.map (·.1)), 0)
def DListPost (r : List Nm × Nat) (w : World) (e : Ending) (w' : World) : Prop := ∃ v, e = .returned (.tuple #[v, errV r.2]) ∧ NmsO w' w.heap.size v r.1 ∧ Below w.heap.size w w'

set_option maxHeartbeats 1000000 in
set_option maxRecDepth 100000 in
theorem listD_any {w : World} {S : Nat → Prop} {p : Nat} {d : DS} (h : Dk w S p d) (hsz : d.sz ≤ 1000000) :
    Calls Tryz.prog 132 #[.pointer (some ⟨p, 0, none⟩)] w (DListPost (dlist d) w) := by
  obtain ⟨m1, m2, cv, h⟩ := h
  have H := Lib.hid h
  have c3 := h.c3
  obtain ⟨es, hm, hz, _⟩ := h.shown
  have hls := lenShown d
  have HL : Hid (es.length ≤ 1000000000) := Lib.hid (by rw [hz.length]; omega)
  have HNS : Hid (es.map (·.1) = d.shown.map (·.1)) := Lib.hid hz.names
  have HM := Lib.hid hm
  clear h hm hz hls
  go_enter Tryz.func132, Tryz.ntmps132
  go_wp2_with fail
  refine (able_any H.out).mono ?_
  rintro e w ⟨rfl, rfl⟩
  cases hd : d.down
  · have HE : Hid (dlist d = (srt (es.map (·.1)), 0)) := Lib.hid (by unfold dlist; rw [if_neg (by rw [hd]; decide), HNS.out])
    clear hd
    rw [if_neg (by decide), errV_zero]
    go_wp2_with fail
    refine (names_any c3 HM.out HL.out).mono ?_
    rintro e w2 ⟨v, rfl, ho, hb⟩
    have HO := Lib.hid ho
    have HB := Lib.hid hb
    obtain ⟨ao, cap, rfl⟩ := ho.val
    clear ho hb
    go_wp2
    go_ret2
    unfold DListPost
    rw [HE.out]
    exact ⟨_, rfl, HO.out, HB.out⟩
  · have HE : Hid (dlist d = ([], 14)) := Lib.hid (by unfold dlist; rw [if_pos hd])
    clear hd
    rw [if_pos rfl, ← errV_if 14 (by decide)]
    go_wp2
    go_ret2
    unfold DListPost
    rw [HE.out, ← errV_if 14 (by decide)]
    exact ⟨_, rfl, nms_nil _ _, Below.refl _ _⟩

/-! ### Files -/
end Go.Proofs.YtlckadlkgjfjcaaGreatDoor
