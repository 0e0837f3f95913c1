/- The contracts of package cell's dataItem, PutRun. -/
import Derived.Test.YtbihammpdjkonaaCelQ
namespace Go.Proofs.Ytbihammpdjkonaa
open Go.RowKit

/-- A data cell's item. -/
def ditem (last d : List Nat) : List Nat := enc 0 ++ (enc d.length ++ (enc (com d last) ++ d.drop (com d last)))

set_option maxHeartbeats 1000000 in
set_option maxRecDepth 100000 in
theorem dataItem_any (v1 v2 : Value) (last d : List Nat) (w : World) (h1 : Reads w .u8 v1 last) (h2 : Reads w .u8 v2 d) (hl1 : last.length ≤ 64) (hl2 : d.length ≤ 64) :
    Calls Try.prog 44 #[v1, v2] w fun e w' => ∃ v', e = .returned v' ∧ Owns w' w.heap.size 5 .u8 v' (ditem last d) ∧ Below w.heap.size w w' := by
  obtain ⟨ao1, cap1, rfl, _, _, _⟩ := h1.val
  obtain ⟨ao2, cap2, rfl, _, _, _⟩ := h2.val
  have H1 := Lib.hid h1; clear h1
  have H2 := Lib.hid h2; clear h2
  have hcl := com_le_left d last
  go_enter Try.func44, Try.ntmps44
  go_wp2_with fail
  refine (alikeBytes_any _ _ last d w H1.out H2.out (by omega)).mono ?_
  rintro e w1 ⟨rfl, hb1⟩
  obtain ⟨s, hs⟩ : ∃ s, s = com d last := ⟨_, rfl⟩
  rw [com_comm last d, ← hs]
  rw [← hs] at hcl
  have HDT : Hid (ditem last d = enc 0 ++ (enc d.length ++ (enc s ++ d.drop s))) := Lib.hid (by unfold ditem; rw [← hs])
  clear hs
  have HB1 := Lib.hid hb1
  have HD1 := Lib.hid (H2.out.new hb1)
  clear hb1 H1 H2
  have hw1 : IntKind.u64.wrap (d.length : Int) = (d.length : Int) := IntWalk.u64_in _ (by omega)
  have hw2 : IntKind.u64.wrap (s : Int) = (s : Int) := IntWalk.u64_in _ (by omega)
  have hun : ∀ x ∈ [0, d.length, s], U64 x := by
    intro x hx
    simp only [List.mem_cons, List.not_mem_nil, or_false] at hx
    unfold U64
    omega
  have HLIT := Lib.hid (reads_marked w1 75 .u64 [0, d.length, s] #[.int .u64 0, .int .u64 (d.length : Int), .int .u64 (s : Int)] (0, 0) rfl (by simp [maxLen]))
  have hal : Below w1.heap.size w1 (w1.alloc (.cells #[.int .u64 0, .int .u64 (d.length : Int), .int .u64 (s : Int)] 75)) := (Below.refl _ _).alloc (Nat.le_refl _) _
  have HAL := Lib.hid hal
  have HUN := Lib.hid hun
  clear hal hun
  go_wp2_with fail
  refine (put_any _ _ [] [0, d.length, s] _ (reads_none _ _) HLIT.out HUN.out (by simp)).mono ?_
  rintro e w2 ⟨v2, rfl, ho2, hb2⟩
  have hencs : encs [0, d.length, s] = enc 0 ++ (enc d.length ++ enc s) := by simp [encs]
  rw [hencs, List.nil_append] at ho2
  have hb12 := HAL.out.trans (hb2.mono HAL.out.size)
  have HB2 := Lib.hid (HB1.out.trans (hb12.mono HB1.out.size))
  have HO2 : Hid (Owns w2 w.heap.size 5 .u8 v2 (enc 0 ++ (enc d.length ++ enc s))) := Lib.hid (ho2.mono (Nat.le_trans HB1.out.size HAL.out.size))
  have HD2 := Lib.hid (HD1.out.new hb12)
  have hsl := fun W => slice_tail W ao2 d.length cap2 s hcl
  have HR2 : Hid (Reads w2 .u8 _ (d.drop s)) := Lib.hid (HD2.out.tail hcl)
  generalize (if cap2 = s then ao2 else ao2.map fun x => x.add s) = atl at hsl HR2
  have hen : (enc 0 ++ (enc d.length ++ enc s)).length ≤ 30 := by
    have e0 := enc_len10 (n := 0) (by unfold U64; omega)
    have e1 := enc_len10 (n := d.length) (by unfold U64; omega)
    have e2 := enc_len10 (n := s) (by unfold U64; omega)
    rw [List.length_append, List.length_append]; omega
  have hdl : (d.drop s).length ≤ 64 := by rw [List.length_drop]; omega
  clear hb2 hb12 ho2 HD1 HAL HLIT HUN HB1 hencs
  go_wp2_with (at_builtin; go_must (refine wpList_app _ rfl _ _ 22 rfl w.heap.size 5 (.int .u8 0) 1 Try.underlying22 Try.info5 rfl .u8 _ (enc 0 ++ (enc d.length ++ enc s)) rfl HO2.out _ (d.drop s) rfl HR2.out (by decide) ?c1 ?c3 ?_))
  case c1 => omega
  case c3 => exact HB2.out.size
  intro v3 w3 ho3 hg3
  have HO3 := Lib.hid ho3
  have HB3 := Lib.hid (HB2.out.grown hg3 HB2.out.size (fun j hj => (HO2.out.lt j hj).1))
  clear ho3 hg3
  go_wp2
  go_ret
  exact ⟨_, rfl, by rw [HDT.out]; simpa [List.append_assoc] using HO3.out, HB3.out⟩

set_option maxRecDepth 100000 in
/-- A slice of cells' tail. -/
theorem slice_tailC (w : World) (a : Option Addr) (n c m : Nat) (h : m ≤ n) : (Instr.slice 27 (.slice a n c) (some (.int .i64 (m : Int))) none none).run Try.prog w = .ok (.slice (if c = m then a else a.map fun x => x.add (m * 2)) (n - m) (c - m)) w := by
  rw [run_slice_l w 27 a n c (by kernel_rfl) .i64 (m : Int) (by omega) (by omega)]
  have hs : (sizeOf (Try.prog.elem 27)).run Try.prog w = .ok 2 w := by kernel_rfl
  rw [hs]
  simp only [Result.andThen, sliced, Int.toNat_natCast]

theorem ditem_len {last d : List Nat} (h1 : d.length ≤ 64) : (ditem last d).length ≤ 100 := by
  have hc := com_le_left d last
  have e0 := enc_len10 (n := 0) (by unfold U64; omega)
  have e1 := enc_len10 (n := d.length) (by unfold U64; omega)
  have e2 := enc_len10 (n := com d last) (by unfold U64; omega)
  unfold ditem
  rw [List.length_append, List.length_append, List.length_append, List.length_drop]
  omega
theorem items_len : ∀ (n : Nat) (run : List CC) (last : List Nat), run.length = n → n ≤ 64 → (∀ c ∈ run, okC c) → (items last run).length ≤ 100 * n := by
  intro n
  induction n using Nat.strongRecOn with
  | _ n ih =>
    intro run last hn h64 hok
    match run, hn, hok with
    | [], _, _ => rw [items_nil]; simp
    | (k, d) :: r, hn, hok =>
      rw [List.length_cons] at hn
      obtain ⟨hk3, hd64, _, _⟩ := hok (k, d) (by simp)
      simp only at hk3 hd64
      by_cases hk1 : k = 1
      · subst hk1
        rw [items_data]
        have h1 := ih (n - 1) (by omega) r d (by omega) (by omega) (fun c hc => hok c (by simp [hc]))
        have h2 := ditem_len (last := last) hd64
        unfold ditem at h2
        simp only [List.length_append] at h2 ⊢
        omega
      · rw [items_row _ _ _ _ hk1]
        have hle := lead_le k r
        have h1 := ih (n - (lead k r + 1)) (by omega) (r.drop (lead k r)) last (by rw [List.length_drop]; omega) (by omega) (fun c hc => hok c (by simp [List.mem_of_mem_drop hc]))
        have e1 := enc_len10 (n := lead k r + 1) (by unfold U64; omega)
        have e2 := enc_len10 (n := k) (by unfold U64; omega)
        rw [List.length_append, List.length_append]
        omega

theorem rbytes_pos (run : List CC) : 0 < (rbytes run).length := by
  unfold rbytes
  rw [List.length_append]
  have := enc_pos run.length
  omega

theorem chk_okC {c : CC} (h : okC c) : chk (c.1 : Int) c.2.length = 0 := by
  obtain ⟨a, b, n, _⟩ := h
  unfold chk
  rw [if_neg (by omega), if_neg (by omega), if_neg]
  rintro ⟨h1, h2⟩
  have := n (by omega)
  rw [this] at h2
  simp at h2
theorem chkRun_okC {run : List CC} (hl : run.length ≤ 64) (h : ∀ c ∈ run, okC c) : chkRun (run.map toIC) = 0 :=
  chkRun_good (by rw [List.length_map]; exact hl) fun c hc => by
    obtain ⟨x, hx, rfl⟩ := List.mem_map.1 hc
    exact chk_okC (h x hx)

end Go.Proofs.Ytbihammpdjkonaa
