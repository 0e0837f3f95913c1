/- The store's operations on a disk in memory: Put, Get, Delete, sweep, Open. · Sure: the files that are sure, by their names. · Two rows of names compared; a driven disk beside which other things are kept. · The store's sweep and Open. · A store that a statement drives; the chapter's example (alive). · The store's List, Has and Disk. -/
import Derived.Test.YtlckadlkgjfjcaaGreatDoorStA
import Derived.Test.YtlckadlkgjfjcaaGreatDoorDdP
import Derived.Test.YtlckadlkgjfjcaaGreatDoorDbP
namespace Go.Proofs.YtlckadlkgjfjcaaGreatDoor
open Go.RowKit

/-- The sign of what is being put. -/
def til : UInt8 := 126
def sput (d : DS) (n : Nm) (b : List Nat) : DS × Nat :=
  if snamed n = false then (d, 2)
  else if (dwrite d (til :: n) b).2 ≠ 0 then dwrite d (til :: n) b
  else if (dsync (dwrite d (til :: n) b).1).2 ≠ 0 then dsync (dwrite d (til :: n) b).1
  else if (drename (dsync (dwrite d (til :: n) b).1).1 (til :: n) n).2 ≠ 0 then drename (dsync (dwrite d (til :: n) b).1).1 (til :: n) n
  else dsync (drename (dsync (dwrite d (til :: n) b).1).1 (til :: n) n).1
def sdelete (d : DS) (n : Nm) : DS × Nat :=
  if snamed n = false then (d, 2)
  else if (dremove d n).2 ≠ 0 then dremove d n
  else dsync (dremove d n).1
def sget (d : DS) (n : Nm) : List Nat × Nat := if snamed n = false then ([], 2) else dread d n
/-- Names that begin with the sign are removed, in order. -/
def swp : List Nm → DS → Bool → DS × Nat
  | [], d, sm => if sm then dsync d else (d, 0)
  | n :: r, d, sm => if (n.take 1 == [til]) = true then (if (dremove d n).2 = 0 then swp r (dremove d n).1 true else dremove d n) else swp r d sm
def sopen (d : DS) : DS × Nat := if (dlist d).2 ≠ 0 then (d, (dlist d).2) else swp (dlist d).1 d false

/-- A store at block q, its disk at block p. -/
def AtS (w : World) (q p : Nat) : Prop := w.cell? ⟨q, 0, none⟩ = some (.pointer (some ⟨p, 0, none⟩)) ∧ q < w.heap.size
theorem AtS.post {w w' : World} {S : Nat → Prop} {q p : Nat} {d : DS} (h : AtS w q p) (hq : ¬ S q) (hp : DPost S p w w' d) : AtS w' q p := by
  obtain ⟨S', _, hf, _, _⟩ := hp
  exact ⟨(World.cell?_of_block (hf.block q h.2 hq)).trans h.1, Nat.lt_of_lt_of_le h.2 hf.size⟩
theorem DPost.next {S : Nat → Prop} {p q : Nat} {w w1 w2 : World} {d1 d2 : DS} (h : DPost S p w w1 d1) (hq : ¬ S q) (hl : q < w.heap.size) (k : ∀ S1, Dk w1 S1 p d1 → ¬ S1 q → DPost S1 p w1 w2 d2) : DPost S p w w2 d2 := by
  obtain ⟨S1, hd, hf, hs, ht⟩ := h
  exact DPost.trans hf hs ht (k S1 hd fun hS => by
    rcases ht q hS with h1 | h1
    · exact hq h1
    · omega)
theorem DPost.dk {S : Nat → Prop} {p q : Nat} {w w1 : World} {d1 : DS} (h : DPost S p w w1 d1) (hq : ¬ S q) (hl : q < w.heap.size) : ∃ S1, Dk w1 S1 p d1 ∧ ¬ S1 q ∧ Fr S w w1 ∧ (∀ j, S j → S1 j) ∧ ∀ j, S1 j → S j ∨ w.heap.size ≤ j := by
  obtain ⟨S1, hd, hf, hs, ht⟩ := h
  exact ⟨S1, hd, fun hS => by
    rcases ht q hS with h1 | h1
    · exact hq h1
    · omega, hf, hs, ht⟩
theorem nm_til (n : Nm) : ByteArray.mk #[126] ++ (⟨n.toArray⟩ : ByteArray) = ⟨(til :: n).toArray⟩ := by
  apply ByteArray.ext
  rw [ByteArray.data_append]
  apply Array.toList_inj.1
  simp [til]

def SPost (S : Nat → Prop) (p : Nat) (w : World) (r : DS × Nat) (e : Ending) (w' : World) : Prop := e = .returned (errV r.2) ∧ DPost S p w w' r.1

set_option maxHeartbeats 2000000 in
set_option maxRecDepth 100000 in
theorem delete_store {w : World} {S : Nat → Prop} {p q : Nat} {d : DS} (h : Dk w S p d) (hs : AtS w q p) (hq : ¬ S q) (hsz : d.sz < 1000000000) {n : Nm} (hn : n.length ≤ 9223372036854775807) :
    Calls Tryz.prog 150 #[.pointer (some ⟨q, 0, none⟩), nmV n] w (SPost S p w (sdelete d n)) := by
  have HT := Lib.hid (takes_store ⟨q, 0, none⟩ n hn w)
  have HR := Lib.hid (removeD_any h (by omega) hn)
  have HSZ : Hid ((dremove d n).1.sz < 1099511627776) := Lib.hid (by have := (opOk_remove d n).sz; omega)
  have c0 := hs.1
  have H := Lib.hid h
  have HS := Lib.hid hs
  have HQ := Lib.hid hq
  obtain ⟨s, hsn⟩ : ∃ s, Value.string s = nmV n := ⟨_, rfl⟩
  rw [← hsn] at HT HR ⊢
  clear h hs hq hsz hsn
  go_enter Tryz.func150, Tryz.ntmps150
  go_wp2_with fail
  refine HT.out.mono ?_
  rintro e w ⟨rfl, rfl⟩
  cases hnm : snamed n
  · have HE : Hid (sdelete d n = (d, 2)) := Lib.hid (by unfold sdelete; rw [if_pos hnm])
    rw [if_neg (by decide), show errV 2 = .iface 41 (.int .i64 2) from errV_pos (by decide)]
    clear hnm
    go_wp2
    go_ret
    rw [HE.out]
    exact ⟨rfl, DPost.same H.out (Fr.refl _ _)⟩
  · rw [if_pos rfl, errV_zero]
    have HE : Hid (sdelete d n = if (dremove d n).2 ≠ 0 then dremove d n else dsync (dremove d n).1) := Lib.hid (by unfold sdelete; rw [if_neg (by rw [hnm]; decide)])
    clear hnm
    go_wp2_with fail
    refine HR.out.mono ?_
    rintro e w1 ⟨rfl, hp1⟩
    have hs1 := HS.out.post HQ.out hp1
    have c1 := hs1.1
    have HP1 := Lib.hid hp1
    clear hp1 hs1
    by_cases hz : (dremove d n).2 = 0
    · rw [hz, errV_zero]
      have HE2 : Hid (sdelete d n = dsync (dremove d n).1) := Lib.hid (by rw [HE.out, if_neg (by omega)])
      obtain ⟨S1, hd1, _, hf1, hs1, ht1⟩ := HP1.out.dk HQ.out HS.out.2
      have HSY := Lib.hid (syncD_any hd1 HSZ.out)
      have HTR := Lib.hid (fun (w2 : World) (d2 : DS) (k : DPost S1 p w1 w2 d2) => DPost.trans hf1 hs1 ht1 k)
      clear hz hd1 hf1 hs1 ht1
      go_wp2_with fail
      refine HSY.out.mono ?_
      rintro e w2 ⟨rfl, hp2⟩
      have HP2 := Lib.hid (HTR.out _ _ hp2)
      clear hp2
      obtain ⟨er, her⟩ : ∃ er, er = errV (dsync (dremove d n).1).2 := ⟨_, rfl⟩
      rw [← her]
      have HER := Lib.hid her
      clear her
      go_wp2
      go_ret
      rw [HE2.out]
      exact ⟨by rw [HER.out]; rfl, HP2.out⟩
    · have HE2 : Hid (sdelete d n = dremove d n) := Lib.hid (by rw [HE.out, if_pos hz])
      obtain ⟨c, hc⟩ : ∃ c, c = (dremove d n).2 := ⟨_, rfl⟩
      rw [← hc] at hz
      rw [← hc, errV_pos hz]
      have HC := Lib.hid hc
      have HZ := Lib.hid hz
      clear hc hz
      go_wp2
      go_ret
      rw [HE2.out]
      exact ⟨by rw [← HC.out, errV_pos HZ.out]; rfl, HP1.out⟩

theorem opSz_write (d : DS) (n : Nm) (b : List Nat) : (dwrite d n b).1.sz ≤ d.sz + 1 := (opOk_write d n b).sz
theorem opSz_rename (d : DS) (n n2 : Nm) : (drename d n n2).1.sz ≤ d.sz + 1 := (opOk_rename d n n2).sz
theorem opSz_sync (d : DS) : (dsync d).1.sz ≤ d.sz + 1 := (opOk_sync d).sz

set_option maxHeartbeats 4000000 in
set_option maxRecDepth 100000 in
theorem put_store {w : World} {S : Nat → Prop} {p q : Nat} {d : DS} (h : Dk w S p d) (hs : AtS w q p) (hq : ¬ S q) (hsz : d.sz < 1000000000) {n : Nm} (hn : n.length < 9223372036854775807) {v : Value} {b : List Nat} (hv : At w (fun j => ¬ S j) .u8 v b) (hb : ∀ y ∈ b, y < 256) :
    Calls Tryz.prog 148 #[.pointer (some ⟨q, 0, none⟩), nmV n, v] w (SPost S p w (sput d n b)) := by
  obtain ⟨ao, cap, rfl, _, _, _⟩ := hv.reads.val
  have HT := Lib.hid (takes_store ⟨q, 0, none⟩ n (by omega) w)
  obtain ⟨D1, hD1⟩ : ∃ D1, D1 = (dwrite d (til :: n) b).1 := ⟨_, rfl⟩
  obtain ⟨D2, hD2⟩ : ∃ D2, D2 = (dsync D1).1 := ⟨_, rfl⟩
  obtain ⟨D3, hD3⟩ : ∃ D3, D3 = (drename D2 (til :: n) n).1 := ⟨_, rfl⟩
  have HZ1 : Hid (D1.sz < 1000000001) := Lib.hid (by rw [hD1]; have := opSz_write d (til :: n) b; omega)
  have HZ2 : Hid (D2.sz < 1000000002) := Lib.hid (by rw [hD2]; have := opSz_sync D1; have := HZ1.out; omega)
  have HZ3 : Hid (D3.sz < 1000000003) := Lib.hid (by rw [hD3]; have := opSz_rename D2 (til :: n) n; have := HZ2.out; omega)
  have HW := Lib.hid (writeD_any h (by omega) (n := til :: n) (by simp; omega) hv hb)
  have HN : Hid (n.length ≤ 9223372036854775807 ∧ (til :: n).length ≤ 9223372036854775807) := Lib.hid ⟨by omega, by simp; omega⟩
  have HSP : Hid (sput d n b = if snamed n = false then (d, 2) else if (dwrite d (til :: n) b).2 ≠ 0 then dwrite d (til :: n) b else if (dsync D1).2 ≠ 0 then dsync D1 else if (drename D2 (til :: n) n).2 ≠ 0 then drename D2 (til :: n) n else dsync D3) := Lib.hid (by unfold sput; rw [hD3, hD2, hD1])
  have c0 := hs.1
  have H := Lib.hid h
  have HS := Lib.hid hs
  have HQ := Lib.hid hq
  obtain ⟨s, hsn⟩ : ∃ s : ByteArray, s = ⟨n.toArray⟩ := ⟨_, rfl⟩
  obtain ⟨t, htn⟩ : ∃ t : ByteArray, t = ⟨(til :: n).toArray⟩ := ⟨_, rfl⟩
  have hst : (ByteArray.mk #[126]) ++ s = t := by rw [hsn, htn]; exact nm_til n
  have hsz1 : s.size = n.length := by rw [hsn]; exact size_nm n
  have e1 : nmV n = .string s := by rw [hsn]; rfl
  have e2 : nmV (til :: n) = .string t := by rw [htn]; rfl
  have hnl : s.size < 9223372036854775807 := by omega
  rw [e1] at HT ⊢
  rw [e2] at HW
  have HE1 := Lib.hid e1
  have HE2' := Lib.hid e2
  have HD1 := Lib.hid hD1
  have HD2 := Lib.hid hD2
  have HD3 := Lib.hid hD3
  clear h hs hq hsz hsn htn e1 e2 hn hv hb hD1 hD2 hD3 hsz1
  go_enter Tryz.func148, Tryz.ntmps148
  go_wp2_with fail
  refine HT.out.mono ?_
  rintro e w ⟨rfl, rfl⟩
  cases hnm : snamed n
  · have HE : Hid (sput d n b = (d, 2)) := Lib.hid (by rw [HSP.out, if_pos hnm])
    rw [if_neg (by decide), show errV 2 = .iface 41 (.int .i64 2) from errV_pos (by decide)]
    clear hnm
    go_wp2
    go_ret
    rw [HE.out]
    exact ⟨rfl, DPost.same H.out (Fr.refl _ _)⟩
  rw [if_pos rfl, errV_zero]
  have HE : Hid (sput d n b = if (dwrite d (til :: n) b).2 ≠ 0 then dwrite d (til :: n) b else if (dsync D1).2 ≠ 0 then dsync D1 else if (drename D2 (til :: n) n).2 ≠ 0 then drename D2 (til :: n) n else dsync D3) := Lib.hid (by rw [HSP.out, if_neg (by rw [hnm]; decide)])
  clear hnm
  go_wp2_with fail
  refine HW.out.mono ?_
  rintro e w1 ⟨rfl, hp1⟩
  have HS1 := Lib.hid (HS.out.post HQ.out hp1)
  have c1 := HS1.out.1
  have HP1 := Lib.hid hp1
  clear hp1 c0
  by_cases hz : (dwrite d (til :: n) b).2 ≠ 0
  · have HE2 : Hid (sput d n b = dwrite d (til :: n) b) := Lib.hid (by rw [HE.out, if_pos hz])
    obtain ⟨c, hc⟩ : ∃ c, c = (dwrite d (til :: n) b).2 := ⟨_, rfl⟩
    rw [← hc] at hz
    rw [← hc, errV_pos hz]
    have HC := Lib.hid hc
    have HZ := Lib.hid hz
    clear hc hz
    go_wp2
    go_ret
    rw [HE2.out]
    exact ⟨by rw [← HC.out, errV_pos HZ.out]; rfl, HP1.out⟩
  have hz0 : (dwrite d (til :: n) b).2 = 0 := by omega
  rw [hz0, errV_zero]
  have HE := Lib.hid (show sput d n b = if (dsync D1).2 ≠ 0 then dsync D1 else if (drename D2 (til :: n) n).2 ≠ 0 then drename D2 (til :: n) n else dsync D3 by rw [HE.out, if_neg hz])
  obtain ⟨S1, hd1, hq1, hf1, hs1, ht1⟩ := HP1.out.dk HQ.out HS.out.2
  rw [← HD1.out] at hd1
  have HSY := Lib.hid (syncD_any hd1 (by have := HZ1.out; omega))
  have HTR1 := Lib.hid (fun (w2 : World) (d2 : DS) (k : DPost S1 p w1 w2 d2) => DPost.trans hf1 hs1 ht1 k)
  have HQ1 := Lib.hid hq1
  clear hz hz0 hd1 hq1 hf1 hs1 ht1
  go_wp2_with fail
  refine HSY.out.mono ?_
  rintro e w2 ⟨rfl, hp2⟩
  have HS2 := Lib.hid (HS1.out.post HQ1.out hp2)
  have c2 := HS2.out.1
  have HP2 := Lib.hid hp2
  clear hp2 c1
  by_cases hz : (dsync D1).2 ≠ 0
  · have HE2 : Hid (sput d n b = dsync D1) := Lib.hid (by rw [HE.out, if_pos hz])
    obtain ⟨c, hc⟩ : ∃ c, c = (dsync D1).2 := ⟨_, rfl⟩
    rw [← hc] at hz
    rw [← hc, errV_pos hz]
    have HC := Lib.hid hc
    have HZ := Lib.hid hz
    clear hc hz
    go_wp2
    go_ret
    rw [HE2.out]
    exact ⟨by rw [← HC.out, errV_pos HZ.out]; rfl, HTR1.out _ _ HP2.out⟩
  have hz0 : (dsync D1).2 = 0 := by omega
  rw [hz0, errV_zero]
  have HE := Lib.hid (show sput d n b = if (drename D2 (til :: n) n).2 ≠ 0 then drename D2 (til :: n) n else dsync D3 by rw [HE.out, if_neg hz])
  obtain ⟨S2, hd2, hq2, hf2, hs2, ht2⟩ := HP2.out.dk HQ1.out HS1.out.2
  rw [← HD2.out] at hd2
  have hre := renameD_any hd2 (by have := HZ2.out; omega) (n := til :: n) (n2 := n) HN.out.2 HN.out.1
  rw [HE1.out, HE2'.out] at hre
  have HRE := Lib.hid hre
  have HTR2 := Lib.hid (fun (w3 : World) (d3 : DS) (k : DPost S2 p w2 w3 d3) => HTR1.out _ _ (DPost.trans hf2 hs2 ht2 k))
  have HQ2 := Lib.hid hq2
  clear hz hz0 hd2 hq2 hf2 hs2 ht2 hre
  go_wp2_with fail
  refine HRE.out.mono ?_
  rintro e w3 ⟨rfl, hp3⟩
  have HS3 := Lib.hid (HS2.out.post HQ2.out hp3)
  have c3 := HS3.out.1
  have HP3 := Lib.hid hp3
  clear hp3 c2
  by_cases hz : (drename D2 (til :: n) n).2 ≠ 0
  · have HE2 : Hid (sput d n b = drename D2 (til :: n) n) := Lib.hid (by rw [HE.out, if_pos hz])
    obtain ⟨c, hc⟩ : ∃ c, c = (drename D2 (til :: n) n).2 := ⟨_, rfl⟩
    rw [← hc] at hz
    rw [← hc, errV_pos hz]
    have HC := Lib.hid hc
    have HZ := Lib.hid hz
    clear hc hz
    go_wp2
    go_ret
    rw [HE2.out]
    exact ⟨by rw [← HC.out, errV_pos HZ.out]; rfl, HTR2.out _ _ HP3.out⟩
  have hz0 : (drename D2 (til :: n) n).2 = 0 := by omega
  rw [hz0, errV_zero]
  have HE := Lib.hid (show sput d n b = dsync D3 by rw [HE.out, if_neg hz])
  obtain ⟨S3, hd3, _, hf3, hs3, ht3⟩ := HP3.out.dk HQ2.out HS2.out.2
  rw [← HD3.out] at hd3
  have HSZ := Lib.hid (syncD_any hd3 (by have := HZ3.out; omega))
  have HTR3 := Lib.hid (fun (w4 : World) (d4 : DS) (k : DPost S3 p w3 w4 d4) => HTR2.out _ _ (DPost.trans hf3 hs3 ht3 k))
  clear hz hz0 hd3 hf3 hs3 ht3
  go_wp2_with fail
  refine HSZ.out.mono ?_
  rintro e w4 ⟨rfl, hp4⟩
  have HP4 := Lib.hid (HTR3.out _ _ hp4)
  clear hp4
  obtain ⟨er, her⟩ : ∃ er, er = errV (dsync D3).2 := ⟨_, rfl⟩
  rw [← her]
  have HER := Lib.hid her
  clear her
  go_wp2
  go_ret
  rw [HE.out]
  exact ⟨by rw [HER.out]; rfl, HP4.out⟩

set_option maxHeartbeats 2000000 in
set_option maxRecDepth 100000 in
theorem get_store {w : World} {S : Nat → Prop} {p q : Nat} {d : DS} (h : Dk w S p d) (hs : AtS w q p) {n : Nm} (hn : n.length ≤ 1000) :
    Calls Tryz.prog 137 #[.pointer (some ⟨q, 0, none⟩), nmV n] w (ReadDPost (sget d n) w) := by
  have HT := Lib.hid (takes_store ⟨q, 0, none⟩ n (by omega) w)
  have HR := Lib.hid (readD_any h hn)
  have c0 := hs.1
  obtain ⟨s, hsn⟩ : ∃ s, Value.string s = nmV n := ⟨_, rfl⟩
  rw [← hsn] at HT HR ⊢
  clear h hs hn hsn
  go_enter Tryz.func137, Tryz.ntmps137
  go_wp2_with fail
  refine HT.out.mono ?_
  rintro e w ⟨rfl, rfl⟩
  cases hnm : snamed n
  · have HE : Hid (sget d n = ([], 2)) := Lib.hid (by unfold sget; rw [if_pos hnm])
    rw [if_neg (by decide), show errV 2 = .iface 41 (.int .i64 2) from errV_pos (by decide)]
    clear hnm
    go_wp2
    go_ret2
    rw [HE.out]
    exact ⟨_, rfl, World.ownsRow_nil _ _ _ _, Below.refl _ _⟩
  · rw [if_pos rfl, errV_zero]
    have HE : Hid (sget d n = dread d n) := Lib.hid (by unfold sget; rw [if_neg (by rw [hnm]; decide)])
    clear hnm
    go_wp2_with fail
    refine HR.out.mono ?_
    rintro e w1 ⟨v1, rfl, ho, hb⟩
    obtain ⟨o1, c1, hv1⟩ : ∃ o c, v1 = .slice o (dread d n).1.length c := by
      obtain ⟨o, c, hv, _⟩ := ho.reads.val
      exact ⟨o, c, hv⟩
    subst hv1
    obtain ⟨er, her⟩ : ∃ er, er = errV (dread d n).2 := ⟨_, rfl⟩
    rw [← her]
    have HER := Lib.hid her
    have HO := Lib.hid ho
    have HB := Lib.hid hb
    obtain ⟨z, hz⟩ : ∃ z, z = (dread d n).1.length := ⟨_, rfl⟩
    rw [← hz] at HO ⊢
    clear her ho hb hz
    go_wp2
    go_ret2
    rw [HE.out]
    exact ⟨_, by rw [HER.out]; rfl, HO.out, HB.out⟩

end Go.Proofs.YtlckadlkgjfjcaaGreatDoor

namespace Go.Proofs.YtlckadlkgjfjcaaGreatDoor
open Go.RowKit

end Go.Proofs.YtlckadlkgjfjcaaGreatDoor

namespace Go.Proofs.YtlckadlkgjfjcaaGreatDoor
open Go.RowKit

theorem NmsO.lt {w : World} {base : Nat} {v : Value} {ns : List Nm} (h : NmsO w base v ns) {g : Nat} (hg : v.ownBlock = some g) : base ≤ g ∧ g < w.heap.size := World.ownsRow.lt h g hg
theorem NmsO.keep {w w' : World} {base : Nat} {v : Value} {ns : List Nm} {K : Nat → Prop} (h : NmsO w base v ns) (hk : Kept K w w') (hK : ∀ g, v.ownBlock = some g → K g) : NmsO w' base v ns := by
  refine ⟨h.1, ?_⟩
  rcases h.2 with h2 | ⟨g, cap, cur, rfl, hbb, hg, r⟩
  · exact .inl h2
  · have hl := (Array.getElem?_eq_some_iff.1 hg).1
    exact .inr ⟨g, cap, cur, rfl, hbb, (hk.block g hl (hK g rfl)).trans hg, r⟩
/-- A driven disk; what stood at wK in blocks of which K holds is kept beside it. -/
def DrvK (w0 wK : World) (K : Nat → Prop) (w : World) (p : Nat) (d : DS) : Prop :=
  ∃ S, Dk w S p d ∧ (∀ j, S j → w0.heap.size ≤ j) ∧ Below w0.heap.size w0 w ∧ Kept K wK w ∧ ∀ j, j < wK.heap.size → K j → ¬ S j
section
variable {w0 wK w w' : World} {K : Nat → Prop} {p : Nat} {d d' : DS}
theorem DrvK.below (h : DrvK w0 wK K w p d) : Below w0.heap.size w0 w := by obtain ⟨S, _, _, h, _⟩ := h; exact h
theorem DrvK.kept (h : DrvK w0 wK K w p d) : Kept K wK w := by obtain ⟨S, _, _, _, h, _⟩ := h; exact h
theorem DrvK.drv (h : DrvK w0 wK K w p d) : Drv w0 w p d := by obtain ⟨S, h1, h2, h3, _⟩ := h; exact ⟨S, h1, h2, h3⟩
theorem DrvK.more (h : DrvK w0 wK K w p d) (hb : Below w.heap.size w w') : DrvK w0 wK K w' p d := by
  obtain ⟨S, h1, h2, h3, h4, h5⟩ := h
  exact ⟨S, h1.keep (kept_new hb S), h2, h3.trans (hb.mono h3.size), ⟨Nat.le_trans h4.size hb.size, fun j hj hK => (hb.block j (Nat.lt_of_lt_of_le hj h4.size)).trans (h4.block j hj hK)⟩, h5⟩
theorem drvK_post {S : Nat → Prop} (h2 : ∀ j, S j → w0.heap.size ≤ j) (h3 : Below w0.heap.size w0 w) (h4 : Kept K wK w) (h5 : ∀ j, j < wK.heap.size → K j → ¬ S j) (h : DPost S p w w' d') : DrvK w0 wK K w' p d' := by
  obtain ⟨S', hd, hf, _, ht⟩ := h
  refine ⟨S', hd, fun j hj => ?_, h3.trans (hf.below h3.size fun j hj h => Nat.not_le_of_lt hj (h2 j h)), ⟨Nat.le_trans h4.size hf.size, fun j hj hK => (hf.block j (Nat.lt_of_lt_of_le hj h4.size) (h5 j hj hK)).trans (h4.block j hj hK)⟩, fun j hj hK hS => ?_⟩
  · rcases ht j hj with h | h
    · exact h2 j h
    · exact Nat.le_trans h3.size h
  · rcases ht j hS with h | h
    · exact h5 j hj hK h
    · exact absurd (Nat.lt_of_lt_of_le hj h4.size) (Nat.not_lt.2 h)
/-- Behind a call that wrote nothing old: all that does not belong to the disk is kept from now on. -/
theorem DrvK.again (h : DrvK w0 wK K w p d) (hb : Below w.heap.size w w') : ∃ K', DrvK w0 w' K' w' p d ∧ (∀ j, j < wK.heap.size → K j → K' j) ∧ ∀ j, w.heap.size ≤ j → K' j := by
  obtain ⟨S, h1, h2, h3, h4, h5⟩ := h
  exact ⟨fun j => ¬ S j, ⟨S, h1.keep (kept_new hb S), h2, h3.trans (hb.mono h3.size), ⟨Nat.le_refl _, fun _ _ _ => rfl⟩, fun _ _ h => h⟩, h5, fun j hj hS => absurd (h1.lt hS) (Nat.not_lt.2 hj)⟩
theorem Drv.k (h : Drv w0 w p d) : ∃ K, DrvK w0 w K w p d := by
  obtain ⟨S, h1, h2, h3⟩ := h
  exact ⟨fun j => ¬ S j, S, h1, h2, h3, ⟨Nat.le_refl _, fun _ _ _ => rfl⟩, fun _ _ h => h⟩

theorem DrvK.sync (h : DrvK w0 wK K w p d) (hsz : d.sz < 1099511627776) : Calls Tryz.prog 182 #[.pointer (some ⟨p, 0, none⟩)] w fun e w' => e = .returned (errV (dsync d).2) ∧ DrvK w0 wK K w' p (dsync d).1 := by
  obtain ⟨S, h1, h2, h3, h4, h5⟩ := h
  exact (syncD_any h1 hsz).mono fun e w' hp => ⟨hp.1, drvK_post h2 h3 h4 h5 hp.2⟩
theorem DrvK.cut (h : DrvK w0 wK K w p d) (hsz : d.sz < 1099511627776) {kv : Value} {ks : List Bool} (hkv : RowV w0 (fun j => j < w0.heap.size) kv (ks.map Value.bool)) :
    Calls Tryz.prog 49 #[.pointer (some ⟨p, 0, none⟩), kv] w fun e w' => e = .returned (.tuple #[]) ∧ DrvK w0 wK K w' p (dcut d ks) := by
  obtain ⟨S, h1, h2, h3, h4, h5⟩ := h
  exact (cutD_any h1 hsz ((hkv.keep (kept_below h3)).mono fun j _ hj hS => Nat.not_le_of_lt hj (h2 j hS))).mono fun e w' hp => ⟨hp.1, drvK_post h2 h3 h4 h5 hp.2⟩
theorem DrvK.start (h : DrvK w0 wK K w p d) : Calls Tryz.prog 51 #[.pointer (some ⟨p, 0, none⟩)] w fun e w' => e = .returned (.tuple #[]) ∧ DrvK w0 wK K w' p (dstart d) := by
  obtain ⟨S, h1, h2, h3, h4, h5⟩ := h
  exact (startD_any h1).mono fun e w' hp => ⟨hp.1, drvK_post h2 h3 h4 h5 hp.2⟩
theorem DrvK.list (h : DrvK w0 wK K w p d) (hsz : d.sz ≤ 1000000) : Calls Tryz.prog 132 #[.pointer (some ⟨p, 0, none⟩)] w (DListPost (dlist d) w) := by
  obtain ⟨S, h1, _⟩ := h
  exact listD_any h1 hsz
end

end Go.Proofs.YtlckadlkgjfjcaaGreatDoor

namespace Go.Proofs.YtlckadlkgjfjcaaGreatDoor
open Go.RowKit

theorem Dk.names {w : World} {S : Nat → Prop} {p : Nat} {d : DS} (h : Dk w S p d) : ∀ x ∈ (dlist d).1, x.length ≤ maxLen := by
  obtain ⟨m1, m2, cv, h⟩ := h
  obtain ⟨es, hm, hz, _⟩ := h.shown
  unfold dlist
  split
  · simp
  · intro x hx
    have h1 : x ∈ d.shown.map (·.1) := List.mem_mergeSort.1 hx
    rw [← hz.names] at h1
    obtain ⟨f, hf, rfl⟩ := List.mem_map.1 h1
    exact hm.named f hf
theorem dlist_length (d : DS) : (dlist d).1.length ≤ d.sz := by
  unfold dlist
  split
  · simp
  · rw [srt_length, List.length_map]; exact lenShown d
theorem drop_atS {r : List Nm} {k : Nat} {x : Nm} (hx : r[k]? = some x) : r.drop k = x :: r.drop (k + 1) := by
  have hk := List.getElem?_eq_some_iff.1 hx
  rw [← hk.2, List.getElem_cons_drop]
theorem pre_til (x : Nm) : (decide (([til] : Nm).length ≤ x.length) && x.take ([til] : Nm).length == [til]) = (x.take 1 == [til]) := by
  cases x with
  | nil => rfl
  | cons a r => simp

/-- What sweep's loop keeps. -/
structure Swp (S : Nat → Prop) (p : Nat) (d : DS) (ns : List Nm) (v : Value) (b : Nat) (w wr : World) (k : Nat) (sm : Bool) (D : DS) : Prop where
  post : DPost S p w wr D
  eq : swp ns d false = swp (ns.drop k) D sm
  sz : D.sz ≤ d.sz + k
  nms : NmsO wr b v ns
  blk : ∀ g, v.ownBlock = some g → g < w.heap.size ∧ ¬ S g

set_option maxHeartbeats 4000000 in
set_option maxRecDepth 100000 in
theorem sweep_any {w : World} {S : Nat → Prop} {p : Nat} {d : DS} (h : Dk w S p d) (hsz : d.sz ≤ 500000) :
    Calls Tryz.prog 131 #[.pointer (some ⟨p, 0, none⟩)] w (SPost S p w (sopen d)) := by
  have HL := Lib.hid (listD_any h (by omega))
  have HNM := Lib.hid h.names
  have HNL : Hid ((dlist d).1.length ≤ 500000) := Lib.hid (Nat.le_trans (dlist_length d) hsz)
  obtain ⟨ns, hns⟩ : ∃ ns, ns = (dlist d).1 := ⟨_, rfl⟩
  obtain ⟨c, hc⟩ : ∃ c, c = (dlist d).2 := ⟨_, rfl⟩
  have hdl : dlist d = (ns, c) := by rw [hns, hc]
  rw [← hns] at HNM HNL
  rw [hdl] at HL
  have HSO : Hid (sopen d = if c ≠ 0 then (d, c) else swp ns d false) := Lib.hid (by unfold sopen; rw [hdl])
  have H := Lib.hid h
  have HSZ := Lib.hid hsz
  clear h hsz hns hc hdl
  go_enter Tryz.func131, Tryz.ntmps131
  go_wp2_with fail
  refine HL.out.mono ?_
  rintro e w1 ⟨v, rfl, ho, hb⟩
  obtain ⟨ao, cap, rfl⟩ := ho.val
  have HO := Lib.hid ho
  have HB := Lib.hid hb
  clear ho hb
  by_cases hz : c ≠ 0
  · have HE : Hid (sopen d = (d, c)) := Lib.hid (by rw [HSO.out, if_pos hz])
    simp only []
    rw [errV_pos hz]
    have HZ := Lib.hid hz
    clear hz
    go_wp2
    go_ret
    rw [HE.out]
    exact ⟨by rw [errV_pos HZ.out]; rfl, DPost.same (H.out.keep (kept_new HB.out S)) (fr_below HB.out S)⟩
  · have hz0 : c = 0 := by omega
    have HE : Hid (sopen d = swp ns d false) := Lib.hid (by rw [HSO.out, if_neg hz])
    simp only []
    rw [hz0, errV_zero]
    have HST : Hid (Swp S p d ns (.slice ao ns.length cap) w.heap.size w1 w1 0 false d) := Lib.hid ⟨DPost.same (H.out.keep (kept_new HB.out S)) (Fr.refl _ _), rfl, by omega, HO.out, fun g hg => ⟨(HO.out.lt hg).2, fun hS => absurd (H.out.lt hS) (Nat.not_lt.2 (HO.out.lt hg).1)⟩⟩
    clear hz hz0
    go_wp2
    go_loopw [5, 7, 8, 19] (fun sv _ _ i wr => ∃ (k : Nat) (sm : Bool) (D : DS), k ≤ ns.length ∧ i = .int .i64 (k : Int) ∧ sv = .bool sm ∧ Swp S p d ns (.slice ao ns.length cap) w.heap.size w1 wr k sm D)
      (fun _ _ _ i _ => ns.length - (intOf i).toNat)
    case atStart => exact ⟨0, false, d, Nat.zero_le _, rfl, rfl, HST.out⟩
    case round =>
      obtain ⟨k, sm, D, hk, rfl, rfl, hst⟩ := hrel
      have HS := Lib.hid hst
      by_cases hlt : k < ns.length
      · obtain ⟨x, hx⟩ : ∃ x, ns[k]? = some x := ⟨_, List.getElem?_eq_getElem hlt⟩
        obtain ⟨g, rfl, hgb, hgl, e0⟩ := hst.nms.at hx
        have hpf := fun W => hasPrefix_any x [til] W
        simp only [pre_til] at hpf
        have hdr : ns.drop k = x :: ns.drop (k + 1) := drop_atS hx
        have hxl := HNM.out x (List.mem_of_getElem? hx)
        obtain ⟨s, hs⟩ : ∃ s, Value.string s = nmV x := ⟨_, rfl⟩
        rw [← hs] at e0
        simp only [← hs] at hpf
        rw [show nmV [til] = Value.string ⟨#[126]⟩ from rfl] at hpf
        have HPF := Lib.hid hpf
        have HS1 := Lib.hid hs
        have HDR := Lib.hid hdr
        have HXL := Lib.hid hxl
        have hlti : (k : Int) < ns.length := by omega
        have HK := Lib.hid hlt
        clear hst hx hgb hgl hpf hs hdr hxl
        go_wp2_with fail
        refine (HPF.out _).mono ?_
        rintro e wr ⟨rfl, rfl⟩
        cases hp : (x.take 1 == [til])
        · have HN : Hid (Swp S p d ns (.slice (some ⟨g, 0, none⟩) ns.length cap) w.heap.size w1 wr (k + 1) sm D) := Lib.hid ⟨HS.out.post, by rw [HS.out.eq, HDR.out, swp, if_neg (by rw [hp]; decide)], by have := HS.out.sz; omega, HS.out.nms, HS.out.blk⟩
          clear hp
          go_wp2
          go_roundw
          case rel => exact ⟨k + 1, sm, D, HK.out, (by first | exact inc_eq HK.out (Nat.le_trans HNL.out (by decide)) | rfl), rfl, HN.out⟩
          case measure => first | exact inc_meas HK.out (Nat.le_trans HNL.out (by decide)) | (have := HK.out; simp [intOf]; omega)
        · have HSW : Hid (swp ns d false = if (dremove D x).2 = 0 then swp (ns.drop (k + 1)) (dremove D x).1 true else dremove D x) := Lib.hid (by rw [HS.out.eq, HDR.out, swp, if_pos hp])
          obtain ⟨S1, hd1, hf1, hs1, ht1⟩ := HS.out.post
          have hrm := removeD_any hd1 (by have := HS.out.sz; have := HSZ.out; have := HNL.out; omega) (n := x) (Nat.le_trans HXL.out (by simp [maxLen]))
          rw [← HS1.out] at hrm
          have HRM := Lib.hid hrm
          have HTR := Lib.hid (fun (w2 : World) (d2 : DS) (k : DPost S1 p wr w2 d2) => DPost.trans hf1 hs1 ht1 k)
          have HNS : Hid (¬ S1 g) := Lib.hid fun hS => by
            have h2 := HS.out.blk g rfl
            rcases ht1 g hS with h3 | h3
            · exact h2.2 h3
            · omega
          have HSZ2 : Hid ((dremove D x).1.sz ≤ d.sz + (k + 1)) := Lib.hid (by have := (opOk_remove D x).sz; have := HS.out.sz; omega)
          clear hp hd1 hf1 hs1 ht1 hrm
          go_wp2_with fail
          refine HRM.out.mono ?_
          rintro e w2 ⟨rfl, hp2⟩
          have HP2 := Lib.hid (HTR.out _ _ hp2)
          have HNM2 : Hid (NmsO w2 w.heap.size (.slice (some ⟨g, 0, none⟩) ns.length cap) ns) := Lib.hid (by
            obtain ⟨S2, _, hf2, _, _⟩ := hp2
            exact HS.out.nms.keep (K := fun j => ¬ S1 j) (hf2.kept _ fun j _ hj hS => hj hS) fun g' hg' => by cases hg'; exact HNS.out)
          clear hp2
          by_cases hz : (dremove D x).2 = 0
          · have HN : Hid (Swp S p d ns (.slice (some ⟨g, 0, none⟩) ns.length cap) w.heap.size w1 w2 (k + 1) true (dremove D x).1) := Lib.hid ⟨HP2.out, by rw [HSW.out, if_pos hz], HSZ2.out, HNM2.out, HS.out.blk⟩
            rw [hz, errV_zero]
            clear hz
            go_wp2
            go_roundw
            case rel => exact ⟨k + 1, true, _, HK.out, (by first | exact inc_eq HK.out (Nat.le_trans HNL.out (by decide)) | rfl), rfl, HN.out⟩
            case measure => first | exact inc_meas HK.out (Nat.le_trans HNL.out (by decide)) | (have := HK.out; simp [intOf]; omega)
          · have HE2 : Hid (sopen d = dremove D x) := Lib.hid (by rw [HE.out, HSW.out, if_neg hz])
            obtain ⟨c2, hc2⟩ : ∃ c2, c2 = (dremove D x).2 := ⟨_, rfl⟩
            rw [← hc2] at hz
            rw [← hc2, errV_pos hz]
            have HC2 := Lib.hid hc2
            have HZ2 := Lib.hid hz
            clear hc2 hz
            go_wp2
            go_ret
            rw [HE2.out]
            exact ⟨by rw [← HC2.out, errV_pos HZ2.out]; rfl, DPost.trans (fr_below HB.out S) (fun _ h => h) (fun _ h => .inl h) HP2.out⟩
      · have hlt' : ¬ (k : Int) < ns.length := by omega
        have HEQ : Hid (swp ns d false = if sm then dsync D else (D, 0)) := Lib.hid (by rw [hst.eq, List.drop_of_length_le (by omega), swp])
        clear hst
        cases sm
        · have HE2 : Hid (sopen d = (D, 0)) := Lib.hid (by rw [HE.out, HEQ.out]; rfl)
          go_wp2
          go_ret
          rw [HE2.out]
          exact ⟨rfl, DPost.trans (fr_below HB.out S) (fun _ h => h) (fun _ h => .inl h) HS.out.post⟩
        · have HE2 : Hid (sopen d = dsync D) := Lib.hid (by rw [HE.out, HEQ.out]; rfl)
          obtain ⟨S1, hd1, hf1, hs1, ht1⟩ := HS.out.post
          have HSY := Lib.hid (syncD_any hd1 (by have := HS.out.sz; have := HSZ.out; have := HNL.out; omega))
          have HTR := Lib.hid (fun (w2 : World) (d2 : DS) (k : DPost S1 p wr w2 d2) => DPost.trans hf1 hs1 ht1 k)
          clear hd1 hf1 hs1 ht1
          go_wp2_with fail
          refine HSY.out.mono ?_
          rintro e w2 ⟨rfl, hp2⟩
          have HP2 := Lib.hid (HTR.out _ _ hp2)
          clear hp2
          obtain ⟨er, her⟩ : ∃ er, er = errV (dsync D).2 := ⟨_, rfl⟩
          rw [← her]
          have HER := Lib.hid her
          clear her
          go_wp2
          go_ret
          rw [HE2.out]
          exact ⟨by rw [HER.out]; rfl, DPost.trans (fr_below HB.out S) (fun _ h => h) (fun _ h => .inl h) HP2.out⟩

/-- What Open answers. -/
def OpenPost (S : Nat → Prop) (p : Nat) (w : World) (r : DS × Nat) (e : Ending) (w' : World) : Prop :=
  (r.2 ≠ 0 ∧ e = .returned (.tuple #[.pointer none, errV r.2]) ∧ DPost S p w w' r.1) ∨
  (r.2 = 0 ∧ ∃ q w1, e = .returned (.tuple #[.pointer (some ⟨q, 0, none⟩), .nilIface]) ∧ DPost S p w w1 r.1 ∧ q = w1.heap.size ∧ Below w1.heap.size w1 w' ∧ AtS w' q p)

set_option maxHeartbeats 2000000 in
set_option maxRecDepth 100000 in
theorem open_store {w : World} {S : Nat → Prop} {p : Nat} {d : DS} (h : Dk w S p d) (hsz : d.sz ≤ 500000) :
    Calls Tryz.prog 93 #[.pointer (some ⟨p, 0, none⟩)] w (OpenPost S p w (sopen d)) := by
  have HSW := Lib.hid (sweep_any h hsz)
  obtain ⟨r, hr⟩ : ∃ r, r = sopen d := ⟨_, rfl⟩
  rw [← hr] at HSW ⊢
  clear h hsz hr
  go_enter Tryz.func93, Tryz.ntmps93
  go_wp2_with fail
  refine HSW.out.mono ?_
  rintro e w1 ⟨rfl, hp⟩
  have HP := Lib.hid hp
  clear hp
  by_cases hz : r.2 ≠ 0
  · rw [errV_pos hz]
    have HZ := Lib.hid hz
    clear hz
    go_wp2
    go_ret2
    exact .inl ⟨HZ.out, by rw [errV_pos HZ.out]; rfl, HP.out⟩
  · have hz0 : r.2 = 0 := by omega
    rw [hz0, errV_zero]
    have HZ := Lib.hid hz0
    clear hz hz0
    go_wp2
    go_ret2
    have hb : Below w1.heap.size w1 (w1.alloc (.cells #[.pointer (some ⟨p, 0, none⟩)] 186)) := (Below.refl _ _).alloc (Nat.le_refl _) _
    have hx : (w1.alloc (.cells #[.pointer (some ⟨p, 0, none⟩)] 186)).heap[w1.heap.size]? = some (.cells #[.pointer (some ⟨p, 0, none⟩)] 186 (0, 0)) := heap_alloc_new _ _
    exact .inr ⟨HZ.out, w1.heap.size, w1, rfl, HP.out, rfl, hb, by rw [cell_of_row _ _ 0 _ _ _ hx]; rfl, (Array.getElem?_eq_some_iff.1 hx).1⟩

end Go.Proofs.YtlckadlkgjfjcaaGreatDoor

namespace Go.Proofs.YtlckadlkgjfjcaaGreatDoor
open Go.RowKit

/-- A store at block q, and its disk at p, both made behind w0; nothing of w0 was written. -/
def Sd (w0 w : World) (p q : Nat) (d : DS) : Prop := ∃ S, Dk w S p d ∧ (∀ j, S j → w0.heap.size ≤ j) ∧ Below w0.heap.size w0 w ∧ AtS w q p ∧ ¬ S q
section
variable {w0 w w' W : World} {p q : Nat} {d : DS}
theorem Sd.drv (h : Sd w0 w p q d) : Drv w0 w p d := by obtain ⟨S, h1, h2, h3, _⟩ := h; exact ⟨S, h1, h2, h3⟩
theorem Sd.below (h : Sd w0 w p q d) : Below w0.heap.size w0 w := h.drv.below
theorem Sd.cell (h : Sd w0 w p q d) : w.cell? ⟨q, 0, none⟩ = some (.pointer (some ⟨p, 0, none⟩)) := by obtain ⟨S, _, _, _, h, _⟩ := h; exact h.1
theorem Sd.more (h : Sd w0 w p q d) (hb : Below w.heap.size w w') : Sd w0 w' p q d := by
  obtain ⟨S, h1, h2, h3, h4, h5⟩ := h
  exact ⟨S, h1.keep (kept_new hb S), h2, h3.trans (hb.mono h3.size), ⟨(World.cell?_of_block (hb.block q h4.2)).trans h4.1, Nat.lt_of_lt_of_le h4.2 hb.size⟩, h5⟩
theorem sd_post {S : Nat → Prop} {d' : DS} (h2 : ∀ j, S j → w0.heap.size ≤ j) (h3 : Below w0.heap.size w0 w) (h4 : AtS w q p) (h5 : ¬ S q) (hp : DPost S p w w' d') : Sd w0 w' p q d' := by
  have h6 := h4.post h5 hp
  obtain ⟨S', hd, hf, _, ht⟩ := hp
  refine ⟨S', hd, fun j hj => ?_, h3.trans (hf.below h3.size fun j hj h => Nat.not_le_of_lt hj (h2 j h)), h6, fun hS => ?_⟩
  · rcases ht j hj with h | h
    · exact h2 j h
    · exact Nat.le_trans h3.size h
  · rcases ht q hS with h | h
    · exact h5 h
    · exact absurd h4.2 (Nat.not_lt.2 h)
def SdPost (w0 : World) (p q : Nat) (r : DS × Nat) (e : Ending) (w' : World) : Prop := e = .returned (errV r.2) ∧ Sd w0 w' p q r.1
theorem Sd.put (h : Sd w0 w p q d) (hb : Below w.heap.size w W) (hsz : d.sz < 1000000000) {n : Nm} (hn : n.length < 9223372036854775807) {v : Value} {b : List Nat} {V : Nat → Prop} (hv : At W V .u8 v b) (hV : ∀ j, V j → j < w0.heap.size ∨ w.heap.size ≤ j) (hby : ∀ y ∈ b, y < 256) :
    Calls Tryz.prog 148 #[.pointer (some ⟨q, 0, none⟩), nmV n, v] W (SdPost w0 p q (sput d n b)) := by
  have hm := h.more hb
  obtain ⟨S, h1, h2, h3, h4, h5⟩ := h
  have h6 : Below w0.heap.size w0 W := h3.trans (hb.mono h3.size)
  have h7 : AtS W q p := ⟨(World.cell?_of_block (hb.block q h4.2)).trans h4.1, Nat.lt_of_lt_of_le h4.2 hb.size⟩
  refine (put_store (h1.keep (kept_new hb S)) h7 h5 hsz hn (hv.mono fun j _ hj hS => ?_) hby).mono fun e w' hp => ⟨hp.1, sd_post h2 h6 h7 h5 hp.2⟩
  rcases hV j hj with h8 | h8
  · exact Nat.not_le_of_lt h8 (h2 j hS)
  · exact absurd (h1.lt hS) (Nat.not_lt.2 h8)
theorem Sd.delete (h : Sd w0 w p q d) (hsz : d.sz < 1000000000) {n : Nm} (hn : n.length ≤ 9223372036854775807) :
    Calls Tryz.prog 150 #[.pointer (some ⟨q, 0, none⟩), nmV n] w (SdPost w0 p q (sdelete d n)) := by
  obtain ⟨S, h1, h2, h3, h4, h5⟩ := h
  exact (delete_store h1 h4 h5 hsz hn).mono fun e w' hp => ⟨hp.1, sd_post h2 h3 h4 h5 hp.2⟩
theorem Sd.get (h : Sd w0 w p q d) {n : Nm} (hn : n.length ≤ 1000) :
    Calls Tryz.prog 137 #[.pointer (some ⟨q, 0, none⟩), nmV n] w (ReadDPost (sget d n) w) := by
  obtain ⟨S, h1, h2, h3, h4, h5⟩ := h
  exact get_store h1 h4 hn
theorem Drv.open (h : Drv w0 w p d) (hsz : d.sz ≤ 500000) :
    Calls Tryz.prog 93 #[.pointer (some ⟨p, 0, none⟩)] w fun e w' => ((sopen d).2 ≠ 0 ∧ e = .returned (.tuple #[.pointer none, errV (sopen d).2]) ∧ Drv w0 w' p (sopen d).1) ∨ ((sopen d).2 = 0 ∧ ∃ q, e = .returned (.tuple #[.pointer (some ⟨q, 0, none⟩), .nilIface]) ∧ Sd w0 w' p q (sopen d).1) := by
  obtain ⟨S, h1, h2, h3⟩ := h
  refine (open_store h1 hsz).mono fun e w' hp => ?_
  rcases hp with ⟨hz, he, hp⟩ | ⟨hz, q, w1, he, hp, hq, hb, ha⟩
  · exact .inl ⟨hz, he, Drv.post h2 h3 hp⟩
  · refine .inr ⟨hz, q, he, ?_⟩
    obtain ⟨S', hd, hs, hbel⟩ := Drv.post h2 h3 hp
    exact ⟨S', hd.keep (kept_new hb S'), hs, hbel.trans (hb.mono hbel.size), ha, fun hS => absurd (hd.lt hS) (by omega)⟩
end

/-! ### The chapter's example -/
end Go.Proofs.YtlckadlkgjfjcaaGreatDoor

namespace Go.Proofs.YtlckadlkgjfjcaaGreatDoor
open Go.RowKit

theorem infoStrN : (Tryz.prog.info? 9).map (fun i => (i.zero, i.size, i.bytes)) = some (some (.string { data := #[] }), 1, 16) := by kernel_rfl
theorem nms_flat : ∀ ns : List Nm, (ns.map fun x => [nmV x]).flatten = ns.map nmV
  | [] => rfl
  | x :: r => by simp [nms_flat r]
theorem nms_own {w : World} {base : Nat} {v : Value} {ns : List Nm} : NmsO w base v ns ↔ RecOwn w base 9 1 v (ns.map fun x => [nmV x]) := by
  unfold RecOwn
  rw [List.length_map, nms_flat]
  exact ⟨fun h => ⟨by simp, h⟩, fun h => h.2⟩
theorem wpList_appN (w : World) {ops : Array Oper} {rest : List Oper} {o : Oper} {a : Act} {Q : Exit → Act → World → Prop} (hgd : o.guard = none) (s x : Operand)
    (ho : o.op = .call { callee := .builtin .append, args := #[s, x], argTypes := #[140, 140] })
    (base : Nat) (v : Value) (l : List Nm) (hs : a.eval s = v) (W : World) (f : Nm) (hW : w = W.alloc (.cells #[nmV f] 9)) (hown : NmsO W base v l)
    (hx : a.eval x = .slice (some ⟨W.heap.size, 0, none⟩) 1 1) (hlen : l.length ≤ 1000000) (hbase : base ≤ W.heap.size)
    (h : ∀ v' w', NmsO w' base v' (l ++ [f]) → Below base W w' → wpList Tryz.prog ops Q rest (a.put o.dst v') w') : wpList Tryz.prog ops Q (o :: rest) a w := by
  subst hW
  have h0 := nms_own.1 hown
  refine wpList_appRec _ hgd s x 140 ho base 9 _ 1 16 Tryz.underlying140 infoStrN rfl (by decide) v (l.map fun x => [nmV x]) hs (RecOwn.keep h0 fun j hj => Below.heap_alloc _ _ _ (RecOwn.block h0 hj).2.1) [nmV f] rfl (by simp [Value.oneCell', nmV]) ⟨W.heap.size, 0, none⟩ hx (rec_cell W [nmV f] _) (by rw [List.length_map]; simp only [maxLen]; omega) (by rw [List.length_map]; omega) (by simp; omega) ?_
  intro v' w' ho' hg' _
  refine h v' w' (nms_own.2 (by rw [List.map_append]; exact ho')) ?_
  have hal : Below base W (W.alloc (.cells #[nmV f] 9)) := (Below.refl _ _).alloc hbase _
  exact hal.grown hg' (Nat.le_trans hbase (by simp)) fun j hj => (RecOwn.block h0 hj).1

def beginB (b x : Nm) : Bool := decide (b.length ≤ x.length) && x.take b.length == b
def listP (b x : Nm) : Bool := snamed x && beginB b x
def slist (d : DS) (b : Nm) : List Nm × Nat := if (dlist d).2 ≠ 0 then ([], (dlist d).2) else ((dlist d).1.filter (listP b), 0)
theorem take_next {ns : List Nm} {k : Nat} {x : Nm} (h : ns[k]? = some x) : ns.take (k + 1) = ns.take k ++ [x] := by rw [List.take_add_one, h]; rfl

set_option maxHeartbeats 4000000 in
set_option maxRecDepth 100000 in
theorem list_store {w : World} {S : Nat → Prop} {p q : Nat} {d : DS} (h : Dk w S p d) (hs : AtS w q p) (hsz : d.sz ≤ 500000) (b : Nm) :
    Calls Tryz.prog 94 #[.pointer (some ⟨q, 0, none⟩), nmV b] w (DListPost (slist d b) w) := by
  have HL := Lib.hid (listD_any h (by omega))
  have HNM := Lib.hid h.names
  have HNL : Hid ((dlist d).1.length ≤ 500000) := Lib.hid (Nat.le_trans (dlist_length d) hsz)
  obtain ⟨ns, hns⟩ : ∃ ns, ns = (dlist d).1 := ⟨_, rfl⟩
  obtain ⟨c, hc⟩ : ∃ c, c = (dlist d).2 := ⟨_, rfl⟩
  have hdl : dlist d = (ns, c) := by rw [hns, hc]
  rw [← hns] at HNM HNL
  rw [hdl] at HL
  have HSO : Hid (slist d b = if c ≠ 0 then ([], c) else (ns.filter (listP b), 0)) := Lib.hid (by unfold slist; rw [hdl])
  have c0 := hs.1
  obtain ⟨sb, hsb⟩ : ∃ sb : ByteArray, nmV b = .string sb := ⟨_, rfl⟩
  have HSB := Lib.hid hsb
  rw [hsb]
  clear h hs hsz hns hc hdl hsb
  go_enter Tryz.func94, Tryz.ntmps94
  go_wp2_with fail
  refine HL.out.mono ?_
  rintro e w1 ⟨v, rfl, ho, hb⟩
  obtain ⟨ao, cap, rfl⟩ := ho.val
  have HO := Lib.hid ho
  have HB := Lib.hid hb
  clear ho hb
  by_cases hz : c ≠ 0
  · have HE : Hid (slist d b = ([], c)) := Lib.hid (by rw [HSO.out, if_pos hz])
    simp only []
    rw [errV_pos hz]
    have HZ := Lib.hid hz
    clear hz c0
    go_wp2
    go_ret2
    rw [HE.out]
    exact ⟨.slice none 0 0, by rw [errV_pos HZ.out]; rfl, World.ownsRow_nil _ _ _ _, HB.out⟩
  · have hz0 : c = 0 := by omega
    have HE : Hid (slist d b = (ns.filter (listP b), 0)) := Lib.hid (by rw [HSO.out, if_neg hz])
    simp only []
    rw [hz0, errV_zero]
    obtain ⟨bs, hbs⟩ : ∃ bs, bs = w1.heap.size := ⟨_, rfl⟩
    have HBS := Lib.hid hbs
    have HN0 : Hid (NmsO w1 bs (.slice none 0 0) []) := Lib.hid (nms_nil w1 bs)
    clear hz hz0 c0 hbs
    go_wp2
    go_loopw [8, 10, 27] (fun ov _ i wr => ∃ k : Nat, k ≤ ns.length ∧ i = .int .i64 (k : Int) ∧ NmsO wr bs ov ((ns.take k).filter (listP b)) ∧ Below bs w1 wr)
      (fun _ _ i _ => ns.length - (intOf i).toNat)
    case atStart => exact ⟨0, Nat.zero_le _, rfl, HN0.out, Below.refl _ _⟩
    case round =>
      obtain ⟨k, hk, rfl, hout, hbz⟩ := hrel
      obtain ⟨oo, oc, rfl⟩ := hout.val
      have HOU := Lib.hid hout
      have HBZ := Lib.hid hbz
      by_cases hlt : k < ns.length
      · obtain ⟨x, hx⟩ : ∃ x, ns[k]? = some x := ⟨_, List.getElem?_eq_getElem hlt⟩
        obtain ⟨g, rfl, _, hgl, e0⟩ := HO.out.at hx
        have e0 := (hbz.cell (p := ⟨g, k, none⟩) (by rw [HBS.out]; exact hgl)).trans e0
        have hxl := HNM.out x (List.mem_of_getElem? hx)
        have hnm := fun W => snamed_any x hxl W
        have hpf := fun W => hasPrefix_any x b W
        obtain ⟨s, hs⟩ : ∃ s : ByteArray, nmV x = .string s := ⟨_, rfl⟩
        rw [hs] at e0
        simp only [hs] at hnm
        simp only [hs, HSB.out] at hpf
        have hpf' : ∀ W, Calls Tryz.prog 134 #[.string s, .string sb] W fun e w' => e = .returned (.bool (beginB b x)) ∧ w' = W := hpf
        have htk := take_next hx
        have HTK : Hid ((ns.take (k + 1)).filter (listP b) = (ns.take k).filter (listP b) ++ (if listP b x then [x] else [])) := Lib.hid (by
          rw [htk, List.filter_append]
          congr 1
          by_cases hp : listP b x = true
          · rw [if_pos hp, List.filter_cons_of_pos hp]; rfl
          · rw [if_neg hp, List.filter_cons_of_neg hp]; rfl)
        have HLEN : Hid (((ns.take k).filter (listP b)).length ≤ 1000000) := Lib.hid (Nat.le_trans (List.length_filter_le _ _) (by rw [List.length_take]; have := HNL.out; omega))
        have hlti : (k : Int) < ns.length := by omega
        have HNMX := Lib.hid hnm
        have HPF := Lib.hid hpf'
        have HS := Lib.hid hs
        have HK := Lib.hid hlt
        have HPD : Hid (listP b x = (snamed x && beginB b x)) := Lib.hid rfl
        clear hx hgl hxl hnm hpf hpf' htk hs hout hbz
        go_wp2_with fail
        refine (HNMX.out _).mono ?_
        rintro e wr ⟨rfl, rfl⟩
        cases hsn : snamed x
        · have HT : Hid (NmsO wr bs (.slice oo ((ns.take k).filter (listP b)).length oc) ((ns.take (k + 1)).filter (listP b))) := Lib.hid (by rw [HTK.out, HPD.out, hsn]; simpa using HOU.out)
          clear hsn
          go_wp2
          go_roundw
          case rel => exact ⟨k + 1, HK.out, congrArg (Value.int .i64) (wrap_succM k (Nat.le_trans (Nat.le_of_lt HK.out) (Nat.le_trans HNL.out (by decide)))), HT.out, HBZ.out⟩
          case measure => exact meas_succM HK.out (Nat.le_trans (Nat.le_of_lt HK.out) (Nat.le_trans HNL.out (by decide)))
        · have HSN := Lib.hid hsn
          clear hsn
          go_wp2_with fail
          refine (HPF.out _).mono ?_
          rintro e wr ⟨rfl, rfl⟩
          cases hbg : beginB b x
          · have HT : Hid (NmsO wr bs (.slice oo ((ns.take k).filter (listP b)).length oc) ((ns.take (k + 1)).filter (listP b))) := Lib.hid (by rw [HTK.out, HPD.out, HSN.out, hbg]; simpa using HOU.out)
            clear hbg
            go_wp2
            go_roundw
            case rel => exact ⟨k + 1, HK.out, congrArg (Value.int .i64) (wrap_succM k (Nat.le_trans (Nat.le_of_lt HK.out) (Nat.le_trans HNL.out (by decide)))), HT.out, HBZ.out⟩
            case measure => exact meas_succM HK.out (Nat.le_trans (Nat.le_of_lt HK.out) (Nat.le_trans HNL.out (by decide)))
          · have HT : Hid ((ns.take (k + 1)).filter (listP b) = (ns.take k).filter (listP b) ++ [x]) := Lib.hid (by rw [HTK.out, HPD.out, HSN.out, hbg]; rfl)
            clear hbg
            go_wp2_with (at_builtin; go_must (refine wpList_appN _ rfl _ _ rfl bs _ _ rfl wr x (by rw [HS.out]) HOU.out rfl HLEN.out (by rw [HBS.out]; exact HBZ.out.size) ?_))
            intro v2 w2 ho2 hb2
            rw [← HT.out] at ho2
            have HO2 := Lib.hid ho2
            have HB2 := Lib.hid (HBZ.out.trans hb2)
            clear ho2 hb2
            go_wp2
            go_roundw
            case rel => exact ⟨k + 1, HK.out, congrArg (Value.int .i64) (wrap_succM k (Nat.le_trans (Nat.le_of_lt HK.out) (Nat.le_trans HNL.out (by decide)))), HO2.out, HB2.out⟩
            case measure => exact meas_succM HK.out (Nat.le_trans (Nat.le_of_lt HK.out) (Nat.le_trans HNL.out (by decide)))
      · obtain rfl : k = ns.length := by omega
        have HT : Hid (NmsO wr bs (.slice oo ((ns.take ns.length).filter (listP b)).length oc) (ns.filter (listP b))) := Lib.hid (by have := hout; rwa [List.take_length] at this ⊢)
        clear hout hbz
        go_wp2
        go_ret2
        rw [HE.out]
        refine ⟨_, rfl, ?_, ?_⟩
        · have h1 := HT.out
          have h2 := HB.out.size
          have h3 := HBS.out
          exact nms_own.2 ((nms_own.1 h1).mono (by omega))
        · exact HB.out.trans (HBZ.out.mono (by rw [HBS.out]; exact HB.out.size))

theorem Sd.list {w0 w : World} {p q : Nat} {d : DS} (h : Sd w0 w p q d) (hsz : d.sz ≤ 500000) (b : Nm) :
    Calls Tryz.prog 94 #[.pointer (some ⟨q, 0, none⟩), nmV b] w (DListPost (slist d b) w) := by
  obtain ⟨S, h1, h2, h3, h4, h5⟩ := h
  exact list_store h1 h4 hsz b

end Go.Proofs.YtlckadlkgjfjcaaGreatDoor
