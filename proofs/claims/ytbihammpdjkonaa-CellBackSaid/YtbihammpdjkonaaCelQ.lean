/- The contracts of package cell's alikeCells, dataItem. -/
import Derived.Test.YtbihammpdjkonaaCelP
namespace Go.Proofs.Ytbihammpdjkonaa
open Go.RowKit

/-- A cell without an error, as the program has it; and back. -/
def toIC (c : CC) : IC := ((c.1 : Int), c.2)
def toCC (c : IC) : CC := (c.1.toNat, c.2)
theorem toIC_toCC {c : IC} (h : 0 ≤ c.1) : toIC (toCC c) = c := by
  obtain ⟨k, d⟩ := c
  have h' : 0 ≤ k := h
  show ((k.toNat : Int), d) = (k, d)
  rw [Int.toNat_of_nonneg h']
theorem okC_toCC {c : IC} (h : chk c.1 c.2.length = 0) (h8 : ∀ y ∈ c.2, y < 256) : okC (toCC c) := by
  obtain ⟨a, b, l, n⟩ := chk_zero h
  refine ⟨by show c.1.toNat ≤ 3; omega, l, fun hk => List.length_eq_zero_iff.1 (n (fun e => hk ?_)), h8⟩
  show c.1.toNat = 1
  omega
theorem run_toCC {cs : List IC} (h : ∀ c ∈ cs, chk c.1 c.2.length = 0) : cs = (cs.map toCC).map toIC := by
  rw [List.map_map]
  conv => lhs; rw [← List.map_id cs]
  exact List.map_congr_left fun c hc => (toIC_toCC (chk_zero (h c hc)).1).symm

theorem lead_step {k : Nat} {r : List CC} {n : Nat} (hn : n < r.length) (h : ∀ c ∈ r.take n, c.1 = k) (hc : (r.getD n (0, [])).1 ≠ k) : lead k r = n := by
  induction r generalizing n with
  | nil => simp at hn
  | cons c r ih =>
    unfold lead
    match n with
    | 0 => rw [if_neg (by simpa using hc)]
    | n + 1 =>
      have h0 : c.1 = k := h c (by simp)
      rw [if_pos h0, ih (n := n) (by simpa using hn) (fun c hc => h c (by simp [hc])) (by simpa using hc)]
theorem lead_all {k : Nat} {r : List CC} (h : ∀ c ∈ r, c.1 = k) : lead k r = r.length := by
  induction r with
  | nil => rfl
  | cons c r ih =>
    unfold lead
    rw [if_pos (h c (by simp)), ih fun c hc => h c (by simp [hc])]
    rfl

theorem getD_toIC (r : List CC) (i : Nat) (h : i < r.length) : (r.map toIC).getD i (0, []) = toIC (r.getD i (0, [])) := by
  simp [List.getD, h]
theorem take_snocC (l : List CC) (k : Nat) (h : k < l.length) : l.take (k + 1) = l.take k ++ [l.getD k (0, [])] := by
  rw [List.take_add_one, List.getElem?_eq_getElem h]; simp [List.getD, List.getElem?_eq_getElem h]

theorem below_dN {B : Nat} {a w : World} {n : Nat} (h : Below B a w) : Below B a (w.drewN n) := ⟨h.os, h.tape, h.output, h.size, h.block⟩

set_option maxHeartbeats 1000000 in
set_option maxRecDepth 100000 in
theorem alikeCells_any (v : Value) (r : List CC) (w : World) (B : Nat → Prop) (hr : CellsAt w B v (r.map toIC)) (h0 : 0 < r.length) (hl : r.length ≤ 64) :
    Calls Try.prog 45 #[v] w fun e w' => e = .returned (.int .i64 (lead (r.getD 0 (0, [])).1 r : Nat)) ∧ Below w.heap.size w w' := by
  obtain ⟨ao, cap, rfl, h1, h2, h3⟩ := hr.val
  rw [List.length_map] at h1
  have hlen : (r.map toIC).length = r.length := List.length_map _
  rw [hlen] at hr ⊢
  have HR := Lib.hid hr; clear hr hlen
  obtain ⟨kz, hkz⟩ : ∃ kz, (r.getD 0 (0, [])).1 = kz := ⟨_, rfl⟩
  rw [hkz]
  have HKZ := Lib.hid hkz
  clear hkz
  go_enter Try.func45, Try.ntmps45
  go_wp2
  go_loopw [3, 4, 7] (fun _ _ i wr => ∃ k : Nat, k ≤ r.length ∧ i = .int .i64 (k : Int) ∧ (∀ c ∈ r.take k, c.1 = kz) ∧ Below w.heap.size w wr)
    (fun _ _ i _ => r.length - (intOf i).toNat)
  case atStart => exact ⟨0, Nat.zero_le _, rfl, by simp, Below.refl _ _⟩
  case round =>
    obtain ⟨k, hk, rfl, hno, hb⟩ := hrel
    have HB := Lib.hid hb
    have HNO := Lib.hid hno
    clear hb hno
    by_cases hlt : k < r.length
    · obtain ⟨bz, oz, xz, rfl, hbz, _, z0, _, _⟩ := (HR.out.old HB.out).at (i := 0) (by simpa using h0)
      obtain ⟨b, off, x, hbo, _, _, c0, c1, hat⟩ := (HR.out.old HB.out).at (i := k) (by simpa using hlt)
      obtain ⟨rfl, rfl⟩ : bz = b ∧ oz = off := by cases hbo; exact ⟨rfl, rfl⟩
      clear hbo
      rw [getD_toIC _ _ h0] at z0
      rw [getD_toIC _ _ hlt] at c0 hat
      have HST := Lib.hid (lead_step (k := kz) hlt HNO.out)
      have HTK := Lib.hid (take_snocC r k hlt)
      have hkz2 := HKZ.out
      generalize hg : r.getD k (0, []) = g at c0 hat
      generalize hg0 : r.getD 0 (0, []) = g0 at z0 hkz2
      rw [hg] at HST HTK
      obtain ⟨kk, d⟩ := g
      obtain ⟨kk0, d0⟩ := g0
      simp only [toIC] at c0 hat z0 hkz2
      subst hkz2
      obtain ⟨aot, capt, rfl, _, _, _⟩ := hat.reads.val
      clear hg hg0 hat
      have hlti : (k : Int) < r.length := by omega
      have h0i : (0 : Int) < (r.length : Int) := by omega
      rw [Nat.zero_mul, Nat.add_zero] at z0
      have hz1 : (wr.alloc (.cells #[.int .i64 (kk : Int), .slice aot d.length capt] 24)).cell? ⟨bz, oz, none⟩ = some (.int .i64 (kk0 : Int)) := by
        rw [World.cell?_of_block (Below.heap_alloc wr _ _ hbz)]; exact z0
      by_cases hkk : kk = kk0
      · have hne : ((kk : Int) != (kk0 : Int)) = false := by rw [bne_eq_false_iff_eq, hkk]
        have HN : Hid (∀ c ∈ r.take (k + 1), c.1 = kk0) := Lib.hid (by
          intro c hcm
          rw [HTK.out] at hcm
          rcases List.mem_append.1 hcm with hcm | hcm
          · exact HNO.out c hcm
          · obtain rfl := List.mem_singleton.1 hcm
            exact hkk)
        clear HST hkk
        go_wp2_with fail
        go_quiet (fail)
        go_wp2
        go_roundw
        case rel => exact ⟨k + 1, by omega, by go_num, HN.out, below_dN (HB.out.alloc HB.out.size _)⟩
        case measure => simp [intOf]; omega
      · have hne : ((kk : Int) != (kk0 : Int)) = true := by rw [bne_iff_ne]; omega
        have HE := Lib.hid (HST.out hkk)
        clear HST hkk
        go_wp2_with fail
        go_quiet (fail)
        go_wp2
        go_ret
        exact ⟨by rw [HE.out]; rfl, below_dN (HB.out.alloc HB.out.size _)⟩
    · obtain rfl : k = r.length := by omega
      have HE : Hid (lead kz r = r.length) := Lib.hid (lead_all (by have := HNO.out; rwa [List.take_length] at this))
      go_wp2
      go_ret
      exact ⟨by rw [HE.out]; rfl, HB.out⟩

end Go.Proofs.Ytbihammpdjkonaa
