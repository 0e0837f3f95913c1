/- The walk of the statement on what bytes begin with. -/
import Derived.Test.YtlnmbgaicdlnmaaFrL
import Derived.Test.YtlnmbgaicdlnmaaFrR
import Derived.Test.YtlnmbgaicdlnmaaFrC
import Derived.Test.YtlnmbgaicdlnmaaIsA
namespace Go.Proofs.Ytlnmbgaicdlnmaa
open Go.RowKit

theorem led_byte {b : List Nat} {ls : List (List Nat)} {k c : Nat} (h : Led b ls k c) (hb : ∀ y ∈ b, y < 256) : ∀ t ∈ ls, ∀ y ∈ t, y < 256 := fun t ht y hy => hb y (h.texts t ht y hy)
theorem ft_byte {b t : List Nat} {s c : Nat} (h : FT b t s c) (hb : ∀ y ∈ b, y < 256) : ∀ y ∈ t, y < 256 := by
  intro y hy
  by_cases hc : c = 0
  · subst hc; exact hb y (h.good.2.2.2.2 y hy)
  · rw [(h.bad hc).1] at hy; simp at hy

/-- Bytes that may be written, in a block of the call's own. -/
structure Mine (w : World) (g off n : Nat) : Prop where
  lt : g < w.heap.size
  free : ∀ k, w.frozen? ⟨g, k, none⟩ = false
  cell : ∀ i, i < n → ∃ y : Nat, w.cell? ⟨g, off + i, none⟩ = some (.int .u8 (y : Int)) ∧ y < 256

theorem mine_of {w : World} {base : Nat} {v : Value} {t : List Nat} (h : At w (Own w base 5) .u8 v t) (hb : ∀ y ∈ t, y < 256) (h0 : t ≠ []) :
    ∃ g off cap, v = .slice (some ⟨g, off, none⟩) t.length cap ∧ base ≤ g ∧ Mine w g off t.length := by
  obtain ⟨⟨ao, cap, rfl, h1, h2, h3, h4⟩, h5⟩ := h
  rcases h4 with h4 | ⟨g, off, rfl, hlt, hc⟩
  · exact absurd h4 h0
  · rcases h5 with h5 | ⟨g', off', n', cap', hv, hB, cs, hcs⟩
    · exact absurd h5 h0
    · cases hv
      refine ⟨g, off, cap, rfl, hB, hlt, fun k => ?_, fun i hi => ⟨t.getD i 0, hc i hi, hb _ (getD_mem t i hi)⟩⟩
      unfold World.frozen?
      rw [hcs]
      simp

theorem Mine.put {w : World} {g off n : Nat} (h : Mine w g off n) {i : Nat} (hi : i < n) (y : Nat) (hy : y < 256) : Mine (w.setCell ⟨g, off + i, none⟩ (.int .u8 (y : Int))) g off n := by
  obtain ⟨z, hz, _⟩ := h.cell i hi
  refine ⟨by simpa using h.lt, fun k => by rw [World.frozen?_setCell]; exact h.free k, fun j hj => ?_⟩
  by_cases hji : j = i
  · subst hji
    exact ⟨y, World.cell?_setCell_same _ _ _ hz, hy⟩
  · obtain ⟨u, hu, hu2⟩ := h.cell j hj
    exact ⟨u, by rw [World.cell?_setCell_other _ _ _ _ (by simp <;> omega)]; exact hu, hu2⟩

theorem Mine.keep {w w' : World} {g off n : Nat} (h : Mine w g off n) (hk : Below w.heap.size w w') : Mine w' g off n :=
  ⟨Nat.lt_of_lt_of_le h.lt hk.size, fun k => (hk.frozen (p := ⟨g, k, none⟩) h.lt).trans (h.free k), fun i hi => (h.cell i hi).imp fun _ hy => ⟨(hk.cell (p := ⟨g, off + i, none⟩) h.lt).trans hy.1, hy.2⟩⟩

/-- But in blocks of a kind all is as it was. -/
structure Turned (D : Nat → Prop) (w w' : World) : Prop where
  os : w'.os = w.os
  tape : w'.tape = w.tape
  output : w'.output = w.output
  size : w.heap.size ≤ w'.heap.size
  block : ∀ k, k < w.heap.size → ¬ D k → w'.heap[k]? = w.heap[k]?
theorem Turned.refl (D : Nat → Prop) (w : World) : Turned D w w := ⟨rfl, rfl, rfl, Nat.le_refl _, fun _ _ _ => rfl⟩
theorem Turned.set {D : Nat → Prop} {w w' : World} (h : Turned D w w') {g : Nat} (hg : D g) (o : Nat) (u : Value) : Turned D w (w'.setCell ⟨g, o, none⟩ u) :=
  ⟨h.os, h.tape, h.output, by simpa using h.size, fun k hk hd => (Below.heap_setCell _ _ _ _ (fun e => hd (by rw [show k = g from e]; exact hg))).trans (h.block k hk hd)⟩
theorem Turned.kept {D B : Nat → Prop} {w w' : World} (h : Turned D w w') (hB : ∀ j, j < w.heap.size → B j → ¬ D j) : Kept B w w' := ⟨h.size, fun j hj hb => h.block j hj (hB j hj hb)⟩
theorem Turned.below {D : Nat → Prop} {w w' : World} (h : Turned D w w') {K : Nat} (hK : K ≤ w.heap.size) (hD : ∀ j, D j → K ≤ j) : Below K w w' :=
  ⟨h.os, h.tape, h.output, h.size, fun k hk => h.block k (by omega) (fun hd => by have := hD k hd; omega)⟩

theorem u8_turn (y : Nat) (hy : y < 256) : bits .xor .u8 (y : Int) 1 = ((y ^^^ 1 : Nat) : Int) ∧ y ^^^ 1 < 256 := ⟨u8_xor_nat y 1 hy (by decide), Nat.xor_lt_two_pow (n := 8) hy (by decide)⟩

/-- What One answers, seen by what Take answers. -/
theorem fo_of {b t t' : List Nat} {s c c' : Nat} (h : FT b t s c) (h' : FO b t' c') : (c = 0 ∧ (s : Int) < (b.length : Int) ∧ t' = [] ∧ c' = 2) ∨ (c = 0 ∧ ¬ (s : Int) < (b.length : Int) ∧ t = t' ∧ c = c') ∨ (c ≠ 0 ∧ t = t' ∧ c = c') := by
  obtain ⟨t1, s1, c1, hf, hi⟩ := h'
  obtain ⟨rfl, rfl, rfl⟩ := h.unique hf
  by_cases hc : c = 0
  · rw [if_neg (by simpa using hc)] at hi
    by_cases hs : s < b.length
    · rw [if_pos hs] at hi
      exact .inl ⟨hc, by omega, hi.1, hi.2⟩
    · rw [if_neg hs] at hi
      exact .inr (.inl ⟨hc, by omega, hi.1.symm, by rw [hi.2, hc]⟩)
  · rw [if_pos hc] at hi
    exact .inr (.inr ⟨hc, by rw [hi.1, (h.bad hc).1], hi.2.symm⟩)

set_option maxHeartbeats 4000000 in
set_option maxRecDepth 100000 in
theorem frameTakes_walk (bv : Value) (b : List Nat) (w : World) (hb : Reads w .u8 bv b) (bb : ∀ y ∈ b, y < 256) :
    Calls Try.prog 4 #[bv] w fun e w' => e = .returned (.bool true) ∧ Below w.heap.size w w' := by
  obtain ⟨aob, capb, rfl, lb, mb, _⟩ := hb.val
  go_enter Try.func4, Try.ntmps4
  go_wp2_with fail
  refine (alive4_any w).mono ?_
  rintro e w0 ⟨rfl, hb0⟩
  have HB0 := Lib.hid hb0
  have HBR := Lib.hid (hb.new hb0)
  clear hb hb0
  by_cases g1 : 1000 < (b.length : Int)
  · go_wp2
    go_ret
    exact ⟨rfl, HB0.out⟩
  have hshort : b.length ≤ 1000 := by omega
  have HAB := Lib.hid HBR.out.at'
  go_wp2_with (at_builtin; go_must (refine wpList_app _ rfl _ _ 22 rfl w0.heap.size 5 (.int .u8 0) 1 Try.underlying22 Try.info5 rfl .u8 _ [] rfl (owns_empty w0 w0.heap.size 5 .u8 (Nat.le_refl _)) _ b rfl (HBR.out.below ((Below.refl _ _).alloc (Nat.le_refl _) _) (Nat.le_refl _)) (by decide) ?c1_1 ?c3_1 ?_))
  case c1_1 => (try simp); omega
  try (case c3_1 => simp)
  intro v1 w1 ho1 hg1
  have hd1 : Below w0.heap.size w0 w1 := ((Below.refl _ _).alloc (Nat.le_refl _) _).grown hg1 (by simp) (fun j hj => by simp [Value.ownBlock] at hj; omega)
  have HO1 := Lib.hid (ho1.at'.mono (C := fun j => j < w1.heap.size) fun j hj _ => hj)
  have HD1 := Lib.hid hd1
  clear ho1 hg1 hd1
  go_wp2_with fail
  refine (frameTake_any _ b w1 HO1.out.reads bb (by omega)).mono ?_
  rintro e w2 ⟨v2, t, s, c, rfl, hft, hat, hb2⟩
  obtain ⟨ao2, cap2, rfl, _, _, _⟩ := hat.reads.val
  have HF := Lib.hid hft
  have HT2 := Lib.hid hat
  have HD2 := Lib.hid hb2
  have htb := ft_byte hft bb
  clear hft hat hb2
  go_wp2_with fail
  refine (refFrTake_any _ b w2 _ ((HAB.out.old HD1.out).old HD2.out) bb).mono ?_
  rintro e w3 ⟨v3, t3, s3, c3, rfl, hft, hat, hb3⟩
  obtain ⟨rfl, rfl, rfl⟩ := HF.out.unique hft
  obtain ⟨ao3, cap3, rfl, _, _, _⟩ := hat.reads.val
  have HT3 := Lib.hid hat.reads
  have HD3 := Lib.hid hb3
  clear hft hat hb3
  go_wp2_with fail
  refine (numBytes_any _ _ t t w3 (HT2.out.reads.new HD3.out) HT3.out htb htb).mono ?_
  rw [decide_eq_true rfl]
  rintro e w' ⟨rfl, rfl⟩
  go_wp2_with fail
  refine (num_any c w3).mono ?_
  rintro e w' ⟨rfl, rfl⟩
  have HO3 := Lib.hid ((HO1.out.old HD2.out).old HD3.out)
  go_wp2_with fail
  refine (frameOne_any _ b w3 HO3.out.reads bb (by omega)).mono ?_
  rintro e w4 ⟨v4, t4, c4, rfl, hfo, hat, hb4⟩
  obtain ⟨ao4, cap4, rfl, _, _, _⟩ := hat.reads.val
  have HT4 := Lib.hid hat.reads
  have HD4 := Lib.hid hb4
  have hcase := fo_of HF.out hfo
  clear hat hb4 hfo
  have HN4 := Lib.hid (owns_nil w4 0 5 .u8).reads
  rcases hcase with ⟨rfl, hsl, rfl, rfl⟩ | ⟨rfl, hsl, rfl, rfl⟩ | ⟨hc, rfl, rfl⟩
  go_wp2_with fail
  refine (numBytes_any _ _ [] [] w4 HT4.out HN4.out (by simp) (by simp)).mono ?_
  rw [decide_eq_true rfl]
  rintro e w' ⟨rfl, rfl⟩
  go_wp2_with fail
  refine (num_any 2 w4).mono ?_
  rintro e w' ⟨rfl, rfl⟩
  rotate_left 1
  go_wp2_with fail
  refine (numBytes_any _ _ t t w4 HT4.out (HT3.out.new HD4.out) htb htb).mono ?_
  rw [decide_eq_true rfl]
  rintro e w' ⟨rfl, rfl⟩
  go_wp2_with fail
  refine (num_any 0 w4).mono ?_
  rintro e w' ⟨rfl, rfl⟩
  rotate_left 1
  have hci : ((c : Int) == 0) = false := by rw [beq_eq_false_iff_ne]; omega
  clear hc
  go_wp2_with fail
  refine (numBytes_any _ _ t t w4 HT4.out (HT3.out.new HD4.out) htb htb).mono ?_
  rw [decide_eq_true rfl]
  rintro e w' ⟨rfl, rfl⟩
  go_wp2_with fail
  refine (num_any c w4).mono ?_
  rintro e w' ⟨rfl, rfl⟩
  rotate_left 1
  all_goals
    have HO4 := Lib.hid (HO3.out.old HD4.out)
    go_wp2_with fail
    refine (framePrefix_any _ b w4 HO4.out.reads bb (by omega)).mono ?_
    rintro e w5 ⟨v5, ls, k, c5, rfl, hled, htx, hb5⟩
    have HLED := Lib.hid hled
    have HX5 := Lib.hid htx
    have HD5 := Lib.hid hb5
    have hlb := led_byte hled bb
    clear hled htx hb5
    have HO5 := Lib.hid (HO4.out.old HD5.out)
    go_wp2_with fail
    refine (frameAll_any _ b w5 HO5.out.reads bb (by omega)).mono ?_
    rintro e w6 ⟨v6, ls6, k6, c6, rfl, hled, htx, hb6⟩
    obtain ⟨rfl, rfl, rfl⟩ := HLED.out.unique hled
    obtain ⟨la, hla⟩ : ∃ la, la = if c5 = 0 then ls else [] := ⟨_, rfl⟩
    rw [← hla] at htx
    obtain ⟨ao6, cap6, rfl, _, _, _⟩ := htx.val
    have HLA := Lib.hid hla
    have HX6 := Lib.hid htx
    have HD6 := Lib.hid hb6
    clear hled htx hb6 hla
    have HA6 : Hid (At w6 (fun j => j < w0.heap.size) .u8 (.slice aob b.length capb) b) := Lib.hid ((((((HAB.out.old HD1.out).old HD2.out).old HD3.out).old HD4.out).old HD5.out).old HD6.out)
    go_wp2_with fail
    refine (refPrefix_any _ b w6 _ HA6.out bb (by omega)).mono ?_
    rintro e w7 ⟨v7, ls7, k7, c7, rfl, hled, htx, hb7⟩
    obtain ⟨rfl, rfl, rfl⟩ := HLED.out.unique hled
    have HX7 := Lib.hid htx
    have HD7 := Lib.hid hb7
    clear hled htx hb7
    go_wp2_with fail
    refine (lists_any _ _ ls ls w7 _ _ ((HX5.out.old HD6.out).old HD7.out) HX7.out hlb hlb).mono ?_
    rw [decide_eq_true rfl]
    rintro e w8 ⟨rfl, hb8⟩
    have HD8 := Lib.hid hb8
    clear hb8
    go_wp2_with fail
    refine (num_any c5 w8).mono ?_
    rintro e w' ⟨rfl, rfl⟩
    obtain ⟨D, hD⟩ : ∃ D : Nat → Prop, D = fun j => t ≠ [] ∧ ∃ off, ao2 = some ⟨j, off, none⟩ := ⟨_, rfl⟩
    have HDD : Hid (∀ j, D j → w1.heap.size ≤ j ∧ j < w2.heap.size) := Lib.hid (by
      subst hD
      rintro j ⟨h0, off, rfl⟩
      obtain ⟨g, off', cap', hv, hge, hM⟩ := mine_of HT2.out htb h0
      cases hv
      exact ⟨hge, hM.lt⟩)
    have HM8 : Hid (∀ g off, ao2 = some ⟨g, off, none⟩ → t ≠ [] → Mine w8 g off t.length) := Lib.hid (by
      rintro g off rfl h0
      obtain ⟨g, off', cap', hv, hge, hM⟩ := mine_of HT2.out htb h0
      cases hv
      exact (((((hM.keep HD3.out).keep HD4.out).keep HD5.out).keep HD6.out).keep HD7.out).keep HD8.out)
    have HIN : Hid (∀ g off, ao2 = some ⟨g, off, none⟩ → t ≠ [] → D g) := Lib.hid (by subst hD; exact fun g off h h0 => ⟨h0, off, h⟩)
    have HEX : Hid (t ≠ [] → ∃ g off, ao2 = some ⟨g, off, none⟩) := Lib.hid fun h0 => by
      obtain ⟨g, off', cap', hv, hge, hM⟩ := mine_of HT2.out htb h0
      cases hv
      exact ⟨g, off', rfl⟩
    have hs1 := HD1.out.size
    have hs2 := HD2.out.size
    have hs3 := HD3.out.size
    have hs4 := HD4.out.size
    have hs5 := HD5.out.size
    have hs6 := HD6.out.size
    have hs7 := HD7.out.size
    have hs8 := HD8.out.size
    have HS : Hid (w0.heap.size ≤ w1.heap.size ∧ w1.heap.size ≤ w2.heap.size ∧ w2.heap.size ≤ w5.heap.size ∧ w2.heap.size ≤ w6.heap.size ∧ w1.heap.size ≤ w8.heap.size ∧ w2.heap.size ≤ w8.heap.size) := Lib.hid (by omega)
    clear hD hs1 hs2 hs3 hs4 hs5 hs6 hs7 hs8
    have HLOW : Hid (∀ wr, Turned D w8 wr → Kept (fun j => j < w1.heap.size) w8 wr) := Lib.hid fun wr h => h.kept fun j _ hj hd => by have := (HDD.out j hd).1; omega
    have HMID : Hid (∀ wr, Turned D w8 wr → Kept (fun j => w5.heap.size ≤ j) w8 wr) := Lib.hid fun wr h => h.kept fun j _ hj hd => by have := (HDD.out j hd).2; have := HS.out; omega
    have HTOP : Hid (∀ wr, Turned D w8 wr → Kept (fun j => j < w0.heap.size ∨ w6.heap.size ≤ j) w8 wr) := Lib.hid fun wr h => h.kept fun j _ hj hd => by have := HDD.out j hd; have := HS.out; omega
    have HO8 : Hid (At w8 (fun j => j < w1.heap.size) .u8 v1 b) := Lib.hid (((HO5.out.old HD6.out).old HD7.out).old HD8.out)
    have HA8 : Hid (At w8 (fun j => j < w1.heap.size) .u8 (.slice aob b.length capb) b) := Lib.hid (((HA6.out.old HD7.out).old HD8.out).mono fun j _ hj => by have := HS.out; omega)
    have HX68 := Lib.hid ((HX6.out.old HD7.out).old HD8.out)
    have HX78 := Lib.hid (HX7.out.old HD8.out)
    have HFIN : Hid (∀ wr, Turned D w8 wr → Below w.heap.size w wr) := Lib.hid fun wr h => by
      have hz : Below w0.heap.size w0 w8 := HD1.out.trans (((((((HD2.out.trans (HD3.out.mono HD2.out.size)).trans (HD4.out.mono (by have := HD2.out.size; have := HD3.out.size; omega))).trans (HD5.out.mono (by have := HD2.out.size; have := HD3.out.size; have := HD4.out.size; omega))).trans (HD6.out.mono (by have := HD2.out.size; have := HD3.out.size; have := HD4.out.size; have := HD5.out.size; omega))).trans (HD7.out.mono (by have := HD2.out.size; have := HD3.out.size; have := HD4.out.size; have := HD5.out.size; have := HD6.out.size; omega))).trans (HD8.out.mono (by have := HD2.out.size; have := HD3.out.size; have := HD4.out.size; have := HD5.out.size; have := HD6.out.size; have := HD7.out.size; omega))).mono HD1.out.size)
      exact HB0.out.trans ((hz.trans (h.below hz.size (fun j hj => by have := (HDD.out j hj).1; have := HS.out; omega))).mono HB0.out.size)
    go_wp2
    go_loopw [16, 108] (fun _ i wr => ∃ k : Nat, k ≤ t.length ∧ i = .int .i64 (k : Int) ∧ Turned D w8 wr ∧ (∀ g off, ao2 = some ⟨g, off, none⟩ → t ≠ [] → Mine wr g off t.length))
      (fun _ i _ => t.length - (intOf i).toNat)
    case atStart => exact ⟨0, Nat.zero_le _, rfl, Turned.refl _ _, HM8.out⟩
    case round =>
      obtain ⟨k, hk, rfl, htu, hmi⟩ := hrel
      have HTU := Lib.hid htu
      have HMI := Lib.hid hmi
      clear htu hmi
      by_cases hlt : k < t.length
      · have h0 : t ≠ [] := fun h => by rw [h] at hlt; simp at hlt
        obtain ⟨g, off, rfl⟩ := HEX.out h0
        have hM := HMI.out g off rfl h0
        have hDg := HIN.out g off rfl h0
        obtain ⟨y, hcell, hy⟩ := hM.cell k hlt
        have hfr := hM.free (off + k)
        obtain ⟨hx, hx2⟩ := u8_turn y hy
        have HM9 := Lib.hid (hM.put hlt (y ^^^ 1) hx2)
        have HT9 := Lib.hid (HTU.out.set hDg (off + k) (.int .u8 ((y ^^^ 1 : Nat) : Int)))
        have hlti : (k : Int) < t.length := by omega
        have hkw : Hid (wrap64 ((k : Int) + 1) = (k : Int) + 1) := Lib.hid (IntWalk.wrap64_in _ (by have : maxLen = 9223372036854775807 := rfl; omega))
        clear hM hDg hy hx2 h0
        generalize y ^^^ 1 = z at hx HM9 HT9
        go_wp2
        go_roundw
        case rel => exact ⟨k + 1, by omega, by rw [hkw.out]; rfl, HT9.out, fun g' off' h _ => by cases h; exact HM9.out⟩
        case measure => rw [hkw.out]; simp [intOf]; omega
      · obtain rfl : k = t.length := by omega
        by_cases hc5 : c5 = 0
        · subst hc5
          have hla := HLA.out
          rw [if_pos rfl] at hla
          subst hla
          go_wp2_with fail
          refine (lists_any _ _ la la _ _ _ (HX68.out.keep (HMID.out _ HTU.out)) (HX78.out.keep (HTOP.out _ HTU.out)) hlb hlb).mono ?_
          rw [decide_eq_true rfl]
          rintro e w9 ⟨rfl, hb9⟩
          have HD9 := Lib.hid hb9
          clear hb9
          go_wp2_with fail
          refine (numBytes_any _ _ b b w9 ((HO8.out.keep (HLOW.out _ HTU.out)).reads.new HD9.out) ((HA8.out.keep (HLOW.out _ HTU.out)).reads.new HD9.out) bb bb).mono ?_
          rw [decide_eq_true rfl]
          rintro e w' ⟨rfl, rfl⟩
          go_wp2
          go_ret
          exact ⟨rfl, (HFIN.out _ HTU.out).trans (HD9.out.mono (HFIN.out _ HTU.out).size)⟩
        · have hla := HLA.out
          rw [if_neg hc5] at hla
          subst hla
          have hci5 : ((c5 : Int) != 0) = true := by rw [bne_iff_ne]; omega
          clear hc5
          go_wp2_with fail
          refine (numBytes_any _ _ b b _ (HO8.out.keep (HLOW.out _ HTU.out)).reads (HA8.out.keep (HLOW.out _ HTU.out)).reads bb bb).mono ?_
          rw [decide_eq_true rfl]
          rintro e w' ⟨rfl, rfl⟩
          go_wp2
          go_ret
          exact ⟨rfl, HFIN.out _ HTU.out⟩

end Go.Proofs.Ytlnmbgaicdlnmaa
