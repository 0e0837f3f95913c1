/- The store's operations on a disk in memory: Put, Get, Delete, sweep, Open. -/
import Derived.Test.YtmjpckodcafjiaaGreatStA
import Derived.Test.YtmjpckodcafjiaaGreatDskV
namespace Go.Proofs.YtmjpckodcafjiaaGreat
open Go.RowKit

/-- The sign of what is being put. -/
def til : UInt8 := 126
def sput (d : DS) (n : Nm) (b : List Nat) : DS × Nat :=
  if snamed n = false then (d, 2)
  else if (dwrite d (til :: n) b).2 ≠ 0 then dwrite d (til :: n) b
  else if (dsync (dwrite d (til :: n) b).1).2 ≠ 0 then dsync (dwrite d (til :: n) b).1
  else if (drename (dsync (dwrite d (til :: n) b).1).1 (til :: n) n).2 ≠ 0 then drename (dsync (dwrite d (til :: n) b).1).1 (til :: n) n
  else dsync (drename (dsync (dwrite d (til :: n) b).1).1 (til :: n) n).1
def sdelete (d : DS) (n : Nm) : DS × Nat :=
  if snamed n = false then (d, 2)
  else if (dremove d n).2 ≠ 0 then dremove d n
  else dsync (dremove d n).1
def sget (d : DS) (n : Nm) : List Nat × Nat := if snamed n = false then ([], 2) else dread d n
/-- Names that begin with the sign are removed, in order. -/
def swp : List Nm → DS → Bool → DS × Nat
  | [], d, sm => if sm then dsync d else (d, 0)
  | n :: r, d, sm => if (n.take 1 == [til]) = true then (if (dremove d n).2 = 0 then swp r (dremove d n).1 true else dremove d n) else swp r d sm
def sopen (d : DS) : DS × Nat := if (dlist d).2 ≠ 0 then (d, (dlist d).2) else swp (dlist d).1 d false

/-- A store at block q, its disk at block p. -/
def AtS (w : World) (q p : Nat) : Prop := w.cell? ⟨q, 0, none⟩ = some (.pointer (some ⟨p, 0, none⟩)) ∧ q < w.heap.size
theorem AtS.post {w w' : World} {S : Nat → Prop} {q p : Nat} {d : DS} (h : AtS w q p) (hq : ¬ S q) (hp : DPost S p w w' d) : AtS w' q p := by
  obtain ⟨S', _, hf, _, _⟩ := hp
  exact ⟨(World.cell?_of_block (hf.block q h.2 hq)).trans h.1, Nat.lt_of_lt_of_le h.2 hf.size⟩
theorem DPost.next {S : Nat → Prop} {p q : Nat} {w w1 w2 : World} {d1 d2 : DS} (h : DPost S p w w1 d1) (hq : ¬ S q) (hl : q < w.heap.size) (k : ∀ S1, Dk w1 S1 p d1 → ¬ S1 q → DPost S1 p w1 w2 d2) : DPost S p w w2 d2 := by
  obtain ⟨S1, hd, hf, hs, ht⟩ := h
  exact DPost.trans hf hs ht (k S1 hd fun hS => by
    rcases ht q hS with h1 | h1
    · exact hq h1
    · omega)
theorem DPost.dk {S : Nat → Prop} {p q : Nat} {w w1 : World} {d1 : DS} (h : DPost S p w w1 d1) (hq : ¬ S q) (hl : q < w.heap.size) : ∃ S1, Dk w1 S1 p d1 ∧ ¬ S1 q ∧ Fr S w w1 ∧ (∀ j, S j → S1 j) ∧ ∀ j, S1 j → S j ∨ w.heap.size ≤ j := by
  obtain ⟨S1, hd, hf, hs, ht⟩ := h
  exact ⟨S1, hd, fun hS => by
    rcases ht q hS with h1 | h1
    · exact hq h1
    · omega, hf, hs, ht⟩
theorem nm_til (n : Nm) : ByteArray.mk #[126] ++ (⟨n.toArray⟩ : ByteArray) = ⟨(til :: n).toArray⟩ := by
  apply ByteArray.ext
  rw [ByteArray.data_append]
  apply Array.toList_inj.1
  simp [til]

def SPost (S : Nat → Prop) (p : Nat) (w : World) (r : DS × Nat) (e : Ending) (w' : World) : Prop := e = .returned (errV r.2) ∧ DPost S p w w' r.1

set_option maxHeartbeats 2000000 in
set_option maxRecDepth 100000 in
theorem delete_store {w : World} {S : Nat → Prop} {p q : Nat} {d : DS} (h : Dk w S p d) (hs : AtS w q p) (hq : ¬ S q) (hsz : d.sz < 1000000000) {n : Nm} (hn : n.length ≤ 9223372036854775807) :
    Calls Tryz.prog 18 #[.pointer (some ⟨q, 0, none⟩), nmV n] w (SPost S p w (sdelete d n)) := by
  have HT := Lib.hid (takes_store ⟨q, 0, none⟩ n hn w)
  have HR := Lib.hid (removeD_any h (by omega) hn)
  have HSZ : Hid ((dremove d n).1.sz < 1099511627776) := Lib.hid (by have := (opOk_remove d n).sz; omega)
  have c0 := hs.1
  have H := Lib.hid h
  have HS := Lib.hid hs
  have HQ := Lib.hid hq
  obtain ⟨s, hsn⟩ : ∃ s, Value.string s = nmV n := ⟨_, rfl⟩
  rw [← hsn] at HT HR ⊢
  clear h hs hq hsz hsn
  go_enter Tryz.func18, Tryz.ntmps18
  go_wp2_with fail
  refine HT.out.mono ?_
  rintro e w ⟨rfl, rfl⟩
  cases hnm : snamed n
  · have HE : Hid (sdelete d n = (d, 2)) := Lib.hid (by unfold sdelete; rw [if_pos hnm])
    rw [if_neg (by decide), show errV 2 = .iface 58 (.int .i64 2) from errV_pos (by decide)]
    clear hnm
    go_wp2
    go_ret
    rw [HE.out]
    exact ⟨rfl, DPost.same H.out (Fr.refl _ _)⟩
  · rw [if_pos rfl, errV_zero]
    have HE : Hid (sdelete d n = if (dremove d n).2 ≠ 0 then dremove d n else dsync (dremove d n).1) := Lib.hid (by unfold sdelete; rw [if_neg (by rw [hnm]; decide)])
    clear hnm
    go_wp2_with fail
    refine HR.out.mono ?_
    rintro e w1 ⟨rfl, hp1⟩
    have hs1 := HS.out.post HQ.out hp1
    have c1 := hs1.1
    have HP1 := Lib.hid hp1
    clear hp1 hs1
    by_cases hz : (dremove d n).2 = 0
    · rw [hz, errV_zero]
      have HE2 : Hid (sdelete d n = dsync (dremove d n).1) := Lib.hid (by rw [HE.out, if_neg (by omega)])
      obtain ⟨S1, hd1, _, hf1, hs1, ht1⟩ := HP1.out.dk HQ.out HS.out.2
      have HSY := Lib.hid (syncD_any hd1 HSZ.out)
      have HTR := Lib.hid (fun (w2 : World) (d2 : DS) (k : DPost S1 p w1 w2 d2) => DPost.trans hf1 hs1 ht1 k)
      clear hz hd1 hf1 hs1 ht1
      go_wp2_with fail
      refine HSY.out.mono ?_
      rintro e w2 ⟨rfl, hp2⟩
      have HP2 := Lib.hid (HTR.out _ _ hp2)
      clear hp2
      obtain ⟨er, her⟩ : ∃ er, er = errV (dsync (dremove d n).1).2 := ⟨_, rfl⟩
      rw [← her]
      have HER := Lib.hid her
      clear her
      go_wp2
      go_ret
      rw [HE2.out]
      exact ⟨by rw [HER.out]; rfl, HP2.out⟩
    · have HE2 : Hid (sdelete d n = dremove d n) := Lib.hid (by rw [HE.out, if_pos hz])
      obtain ⟨c, hc⟩ : ∃ c, c = (dremove d n).2 := ⟨_, rfl⟩
      rw [← hc] at hz
      rw [← hc, errV_pos hz]
      have HC := Lib.hid hc
      have HZ := Lib.hid hz
      clear hc hz
      go_wp2
      go_ret
      rw [HE2.out]
      exact ⟨by rw [← HC.out, errV_pos HZ.out]; rfl, HP1.out⟩

theorem opSz_write (d : DS) (n : Nm) (b : List Nat) : (dwrite d n b).1.sz ≤ d.sz + 1 := (opOk_write d n b).sz
theorem opSz_rename (d : DS) (n n2 : Nm) : (drename d n n2).1.sz ≤ d.sz + 1 := (opOk_rename d n n2).sz
theorem opSz_sync (d : DS) : (dsync d).1.sz ≤ d.sz + 1 := (opOk_sync d).sz

set_option maxHeartbeats 4000000 in
set_option maxRecDepth 100000 in
theorem put_store {w : World} {S : Nat → Prop} {p q : Nat} {d : DS} (h : Dk w S p d) (hs : AtS w q p) (hq : ¬ S q) (hsz : d.sz < 1000000000) {n : Nm} (hn : n.length < 9223372036854775807) {v : Value} {b : List Nat} (hv : At w (fun j => ¬ S j) .u8 v b) (hb : ∀ y ∈ b, y < 256) :
    Calls Tryz.prog 17 #[.pointer (some ⟨q, 0, none⟩), nmV n, v] w (SPost S p w (sput d n b)) := by
  obtain ⟨ao, cap, rfl, _, _, _⟩ := hv.reads.val
  have HT := Lib.hid (takes_store ⟨q, 0, none⟩ n (by omega) w)
  obtain ⟨D1, hD1⟩ : ∃ D1, D1 = (dwrite d (til :: n) b).1 := ⟨_, rfl⟩
  obtain ⟨D2, hD2⟩ : ∃ D2, D2 = (dsync D1).1 := ⟨_, rfl⟩
  obtain ⟨D3, hD3⟩ : ∃ D3, D3 = (drename D2 (til :: n) n).1 := ⟨_, rfl⟩
  have HZ1 : Hid (D1.sz < 1000000001) := Lib.hid (by rw [hD1]; have := opSz_write d (til :: n) b; omega)
  have HZ2 : Hid (D2.sz < 1000000002) := Lib.hid (by rw [hD2]; have := opSz_sync D1; have := HZ1.out; omega)
  have HZ3 : Hid (D3.sz < 1000000003) := Lib.hid (by rw [hD3]; have := opSz_rename D2 (til :: n) n; have := HZ2.out; omega)
  have HW := Lib.hid (writeD_any h (by omega) (n := til :: n) (by simp; omega) hv hb)
  have HN : Hid (n.length ≤ 9223372036854775807 ∧ (til :: n).length ≤ 9223372036854775807) := Lib.hid ⟨by omega, by simp; omega⟩
  have HSP : Hid (sput d n b = if snamed n = false then (d, 2) else if (dwrite d (til :: n) b).2 ≠ 0 then dwrite d (til :: n) b else if (dsync D1).2 ≠ 0 then dsync D1 else if (drename D2 (til :: n) n).2 ≠ 0 then drename D2 (til :: n) n else dsync D3) := Lib.hid (by unfold sput; rw [hD3, hD2, hD1])
  have c0 := hs.1
  have H := Lib.hid h
  have HS := Lib.hid hs
  have HQ := Lib.hid hq
  obtain ⟨s, hsn⟩ : ∃ s : ByteArray, s = ⟨n.toArray⟩ := ⟨_, rfl⟩
  obtain ⟨t, htn⟩ : ∃ t : ByteArray, t = ⟨(til :: n).toArray⟩ := ⟨_, rfl⟩
  have hst : (ByteArray.mk #[126]) ++ s = t := by rw [hsn, htn]; exact nm_til n
  have hsz1 : s.size = n.length := by rw [hsn]; exact size_nm n
  have e1 : nmV n = .string s := by rw [hsn]; rfl
  have e2 : nmV (til :: n) = .string t := by rw [htn]; rfl
  have hnl : s.size < 9223372036854775807 := by omega
  rw [e1] at HT ⊢
  rw [e2] at HW
  have HE1 := Lib.hid e1
  have HE2' := Lib.hid e2
  have HD1 := Lib.hid hD1
  have HD2 := Lib.hid hD2
  have HD3 := Lib.hid hD3
  clear h hs hq hsz hsn htn e1 e2 hn hv hb hD1 hD2 hD3 hsz1
  go_enter Tryz.func17, Tryz.ntmps17
  go_wp2_with fail
  refine HT.out.mono ?_
  rintro e w ⟨rfl, rfl⟩
  cases hnm : snamed n
  · have HE : Hid (sput d n b = (d, 2)) := Lib.hid (by rw [HSP.out, if_pos hnm])
    rw [if_neg (by decide), show errV 2 = .iface 58 (.int .i64 2) from errV_pos (by decide)]
    clear hnm
    go_wp2
    go_ret
    rw [HE.out]
    exact ⟨rfl, DPost.same H.out (Fr.refl _ _)⟩
  rw [if_pos rfl, errV_zero]
  have HE : Hid (sput d n b = if (dwrite d (til :: n) b).2 ≠ 0 then dwrite d (til :: n) b else if (dsync D1).2 ≠ 0 then dsync D1 else if (drename D2 (til :: n) n).2 ≠ 0 then drename D2 (til :: n) n else dsync D3) := Lib.hid (by rw [HSP.out, if_neg (by rw [hnm]; decide)])
  clear hnm
  go_wp2_with fail
  refine HW.out.mono ?_
  rintro e w1 ⟨rfl, hp1⟩
  have HS1 := Lib.hid (HS.out.post HQ.out hp1)
  have c1 := HS1.out.1
  have HP1 := Lib.hid hp1
  clear hp1 c0
  by_cases hz : (dwrite d (til :: n) b).2 ≠ 0
  · have HE2 : Hid (sput d n b = dwrite d (til :: n) b) := Lib.hid (by rw [HE.out, if_pos hz])
    obtain ⟨c, hc⟩ : ∃ c, c = (dwrite d (til :: n) b).2 := ⟨_, rfl⟩
    rw [← hc] at hz
    rw [← hc, errV_pos hz]
    have HC := Lib.hid hc
    have HZ := Lib.hid hz
    clear hc hz
    go_wp2
    go_ret
    rw [HE2.out]
    exact ⟨by rw [← HC.out, errV_pos HZ.out]; rfl, HP1.out⟩
  have hz0 : (dwrite d (til :: n) b).2 = 0 := by omega
  rw [hz0, errV_zero]
  have HE := Lib.hid (show sput d n b = if (dsync D1).2 ≠ 0 then dsync D1 else if (drename D2 (til :: n) n).2 ≠ 0 then drename D2 (til :: n) n else dsync D3 by rw [HE.out, if_neg hz])
  obtain ⟨S1, hd1, hq1, hf1, hs1, ht1⟩ := HP1.out.dk HQ.out HS.out.2
  rw [← HD1.out] at hd1
  have HSY := Lib.hid (syncD_any hd1 (by have := HZ1.out; omega))
  have HTR1 := Lib.hid (fun (w2 : World) (d2 : DS) (k : DPost S1 p w1 w2 d2) => DPost.trans hf1 hs1 ht1 k)
  have HQ1 := Lib.hid hq1
  clear hz hz0 hd1 hq1 hf1 hs1 ht1
  go_wp2_with fail
  refine HSY.out.mono ?_
  rintro e w2 ⟨rfl, hp2⟩
  have HS2 := Lib.hid (HS1.out.post HQ1.out hp2)
  have c2 := HS2.out.1
  have HP2 := Lib.hid hp2
  clear hp2 c1
  by_cases hz : (dsync D1).2 ≠ 0
  · have HE2 : Hid (sput d n b = dsync D1) := Lib.hid (by rw [HE.out, if_pos hz])
    obtain ⟨c, hc⟩ : ∃ c, c = (dsync D1).2 := ⟨_, rfl⟩
    rw [← hc] at hz
    rw [← hc, errV_pos hz]
    have HC := Lib.hid hc
    have HZ := Lib.hid hz
    clear hc hz
    go_wp2
    go_ret
    rw [HE2.out]
    exact ⟨by rw [← HC.out, errV_pos HZ.out]; rfl, HTR1.out _ _ HP2.out⟩
  have hz0 : (dsync D1).2 = 0 := by omega
  rw [hz0, errV_zero]
  have HE := Lib.hid (show sput d n b = if (drename D2 (til :: n) n).2 ≠ 0 then drename D2 (til :: n) n else dsync D3 by rw [HE.out, if_neg hz])
  obtain ⟨S2, hd2, hq2, hf2, hs2, ht2⟩ := HP2.out.dk HQ1.out HS1.out.2
  rw [← HD2.out] at hd2
  have hre := renameD_any hd2 (by have := HZ2.out; omega) (n := til :: n) (n2 := n) HN.out.2 HN.out.1
  rw [HE1.out, HE2'.out] at hre
  have HRE := Lib.hid hre
  have HTR2 := Lib.hid (fun (w3 : World) (d3 : DS) (k : DPost S2 p w2 w3 d3) => HTR1.out _ _ (DPost.trans hf2 hs2 ht2 k))
  have HQ2 := Lib.hid hq2
  clear hz hz0 hd2 hq2 hf2 hs2 ht2 hre
  go_wp2_with fail
  refine HRE.out.mono ?_
  rintro e w3 ⟨rfl, hp3⟩
  have HS3 := Lib.hid (HS2.out.post HQ2.out hp3)
  have c3 := HS3.out.1
  have HP3 := Lib.hid hp3
  clear hp3 c2
  by_cases hz : (drename D2 (til :: n) n).2 ≠ 0
  · have HE2 : Hid (sput d n b = drename D2 (til :: n) n) := Lib.hid (by rw [HE.out, if_pos hz])
    obtain ⟨c, hc⟩ : ∃ c, c = (drename D2 (til :: n) n).2 := ⟨_, rfl⟩
    rw [← hc] at hz
    rw [← hc, errV_pos hz]
    have HC := Lib.hid hc
    have HZ := Lib.hid hz
    clear hc hz
    go_wp2
    go_ret
    rw [HE2.out]
    exact ⟨by rw [← HC.out, errV_pos HZ.out]; rfl, HTR2.out _ _ HP3.out⟩
  have hz0 : (drename D2 (til :: n) n).2 = 0 := by omega
  rw [hz0, errV_zero]
  have HE := Lib.hid (show sput d n b = dsync D3 by rw [HE.out, if_neg hz])
  obtain ⟨S3, hd3, _, hf3, hs3, ht3⟩ := HP3.out.dk HQ2.out HS2.out.2
  rw [← HD3.out] at hd3
  have HSZ := Lib.hid (syncD_any hd3 (by have := HZ3.out; omega))
  have HTR3 := Lib.hid (fun (w4 : World) (d4 : DS) (k : DPost S3 p w3 w4 d4) => HTR2.out _ _ (DPost.trans hf3 hs3 ht3 k))
  clear hz hz0 hd3 hf3 hs3 ht3
  go_wp2_with fail
  refine HSZ.out.mono ?_
  rintro e w4 ⟨rfl, hp4⟩
  have HP4 := Lib.hid (HTR3.out _ _ hp4)
  clear hp4
  obtain ⟨er, her⟩ : ∃ er, er = errV (dsync D3).2 := ⟨_, rfl⟩
  rw [← her]
  have HER := Lib.hid her
  clear her
  go_wp2
  go_ret
  rw [HE.out]
  exact ⟨by rw [HER.out]; rfl, HP4.out⟩

set_option maxHeartbeats 2000000 in
set_option maxRecDepth 100000 in
theorem get_store {w : World} {S : Nat → Prop} {p q : Nat} {d : DS} (h : Dk w S p d) (hs : AtS w q p) {n : Nm} (hn : n.length ≤ 1000) :
    Calls Tryz.prog 14 #[.pointer (some ⟨q, 0, none⟩), nmV n] w (ReadDPost (sget d n) w) := by
  have HT := Lib.hid (takes_store ⟨q, 0, none⟩ n (by omega) w)
  have HR := Lib.hid (readD_any h hn)
  have c0 := hs.1
  obtain ⟨s, hsn⟩ : ∃ s, Value.string s = nmV n := ⟨_, rfl⟩
  rw [← hsn] at HT HR ⊢
  clear h hs hn hsn
  go_enter Tryz.func14, Tryz.ntmps14
  go_wp2_with fail
  refine HT.out.mono ?_
  rintro e w ⟨rfl, rfl⟩
  cases hnm : snamed n
  · have HE : Hid (sget d n = ([], 2)) := Lib.hid (by unfold sget; rw [if_pos hnm])
    rw [if_neg (by decide), show errV 2 = .iface 58 (.int .i64 2) from errV_pos (by decide)]
    clear hnm
    go_wp2
    go_ret2
    rw [HE.out]
    exact ⟨_, rfl, World.ownsRow_nil _ _ _ _, Below.refl _ _⟩
  · rw [if_pos rfl, errV_zero]
    have HE : Hid (sget d n = dread d n) := Lib.hid (by unfold sget; rw [if_neg (by rw [hnm]; decide)])
    clear hnm
    go_wp2_with fail
    refine HR.out.mono ?_
    rintro e w1 ⟨v1, rfl, ho, hb⟩
    obtain ⟨o1, c1, hv1⟩ : ∃ o c, v1 = .slice o (dread d n).1.length c := by
      obtain ⟨o, c, hv, _⟩ := ho.reads.val
      exact ⟨o, c, hv⟩
    subst hv1
    obtain ⟨er, her⟩ : ∃ er, er = errV (dread d n).2 := ⟨_, rfl⟩
    rw [← her]
    have HER := Lib.hid her
    have HO := Lib.hid ho
    have HB := Lib.hid hb
    obtain ⟨z, hz⟩ : ∃ z, z = (dread d n).1.length := ⟨_, rfl⟩
    rw [← hz] at HO ⊢
    clear her ho hb hz
    go_wp2
    go_ret2
    rw [HE.out]
    exact ⟨_, by rw [HER.out]; rfl, HO.out, HB.out⟩

end Go.Proofs.YtmjpckodcafjiaaGreat
