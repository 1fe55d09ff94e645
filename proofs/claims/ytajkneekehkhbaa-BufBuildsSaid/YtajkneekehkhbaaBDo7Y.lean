/-
  Layer 3 (buf): a call of the builder beside the same of the reference: a number is replaced, and exists. By the verifier.
-/
import Derived.Test.YtajkneekehkhbaaBDo7
import Derived.IntWalk
import Derived.Test.YtajkneekehkhbaaMTail
set_option linter.unusedVariables false
namespace Go.Proofs.Ytajkneekehkhbaa
open Go.RowKit

theorem run_head (A : Option Addr) (L c k : Nat) (hk : k ≤ c) (W : World) : (Instr.slice 22 (.slice A L c) none (some (.int .i64 (k : Int))) none).run Try.prog W = .ok (.slice A k c) W := by
  rw [run_slice_h W 22 A L c Try.underlying22 .i64 k (by omega) (by omega), size_bytes0]
  have h0 : A.map (·.add 0) = A := by
    cases A with
    | none => rfl
    | some a =>
      obtain ⟨b, o, s⟩ := a
      simp only [Option.map_some, Addr.add]
      split <;> simp_all
  by_cases h : c = 0 <;> simp [Result.andThen, sliced, h, h0]

theorem run_tail (A : Option Addr) (L c k : Nat) (hk : k ≤ L) (W : World) : (Instr.slice 22 (.slice A L c) (some (.int .i64 (k : Int))) none none).run Try.prog W = .ok (.slice (pAt A c k) (L - k) (c - k)) W := by
  rw [run_slice_l W 22 A L c Try.underlying22 .i64 k (by omega) (by omega), size_bytes0]
  simp [Result.andThen, sliced, pAt]

theorem bys_head {w : World} {A : Option Addr} {l : List Nat} (hl : Bys w A l) (k : Nat) (h : k ≤ l.length) : Bys w A (l.take k) := by
  refine ⟨fun i hi => ?_, hl.2.1.take k, by have := hl.2.2; rw [List.length_take]; omega⟩
  rw [List.length_take] at hi
  obtain ⟨b, o, hA, hb, hc⟩ := hl.1 i (by omega)
  refine ⟨b, o, hA, hb, ?_⟩
  show w.cell? ⟨b, o + i, none⟩ = some (V8 ((l.take k).getD i 0))
  have e : (l.take k).getD i 0 = l.getD i 0 := by simp [List.getD, show i < k by omega]
  rw [e]
  exact hc

theorem bys_tail {w : World} {A : Option Addr} {l : List Nat} (hl : Bys w A l) (c k : Nat) (hc : l.length ≤ c) (h : k ≤ l.length) : Bys w (pAt A c k) (l.drop k) := by
  have := bys_part hl c k (l.length - k) hc (by omega)
  have e : sub l k (l.length - k) = l.drop k := by
    unfold sub
    exact List.take_of_length_le (by rw [List.length_drop]; exact Nat.le_refl _)
  rwa [e] at this

set_option maxHeartbeats 4000000 in
set_option maxRecDepth 100000 in
theorem do7_yes (N : Nat) (B P : Nat) (l : List Nat) (g : Option Nat) (A : Option Addr) (c : Nat) (k : Int) (hk : Else k) (n : Nat) (x : Nat) (hx : x < 18446744073709551616) (D : Value) (w : World)
    (hD : ∃ Ad nd cd, D = .slice Ad nd cd) (h : Inv N w B P l l g A c) (hA : ∀ a, A = some a → a.block < w.heap.size) (hlen : l.length ≤ 400000) (hex : n + 4 ≤ l.length) :
    Calls Try.prog 21 #[.pointer (some ⟨B, 0, none⟩), .pointer (some ⟨P, 0, none⟩), .agg #[.int .i64 k, .int .i64 (n : Int), .int .u64 (x : Int), D]] w fun e w' => DoRes N w B P l e w' := by
  obtain ⟨Ad, nd, cd, rfl⟩ := hD
  obtain ⟨k0, k1, k2, k3, k4, k5, k6⟩ := hk
  obtain ⟨z, hz⟩ : ∃ z : Int, z = (x : Int) := ⟨_, rfl⟩
  rw [← hz]
  have hA1 : Below w.heap.size w (w.alloc (.cells #[.int .i64 k, .int .i64 (n : Int), .int .u64 z, .slice Ad nd cd] 49)) := (Below.refl _ _).alloc (Nat.le_refl _) _
  obtain ⟨w1, hw1⟩ : ∃ w1, w1 = w.alloc (.cells #[.int .i64 k, .int .i64 (n : Int), .int .u64 z, .slice Ad nd cd] 49) := ⟨_, rfl⟩
  have hI := h.below hA1
  have hO1 := OpBlk.new w k n z (.slice Ad nd cd)
  rw [← hw1] at hA1 hI hO1
  have h0 := hO1.c0
  have h1 := hO1.c1
  have h2 := hO1.c2
  have hP : w1.cell? ⟨P, 0, none⟩ = some (.slice A l.length c) := hI.row.cell (i := 0) (by omega)
  have hI64 : I64 (n : Int) := by unfold I64; omega
  have hPO : P ≠ w.heap.size := fun e => by have := h.row.lt; omega
  have HE : Hid (∀ W, Calls Try.prog 17 #[.slice A l.length c, .int .i64 (n : Int), .int .i64 4] W fun e w' => e = .returned (.bool true) ∧ W = w') := Lib.hid fun W => by
    have := exists_ok A l c n 4 h.bys.2.2 hI64 (by unfold I64; omega) W
    rw [exB_yes (by unfold Ex; omega)] at this
    exact this
  obtain ⟨m, hm⟩ : ∃ m, m = setL l n (leB 4 x) := ⟨_, rfl⟩
  have hml : m.length = l.length := by rw [hm]; exact setL_len (by rw [leB_len]; exact hex)
  have hmb : Bs m := by rw [hm]; exact setL_bs h.bys.2.1 (leB_bs _ _)
  obtain ⟨Q, hQ⟩ : ∃ Q, Q = pAt A c (n + 4) := ⟨_, rfl⟩
  obtain ⟨q1, hq1⟩ : ∃ q1, q1 = l.length - (n + 4) := ⟨_, rfl⟩
  obtain ⟨q2, hq2⟩ : ∃ q2, q2 = c - (n + 4) := ⟨_, rfl⟩
  have HCC : Hid (∀ (W : World) (A5 : Option Addr) (c5 : Nat), Below w1.heap.size w1 W → Bys W A5 (leB 4 x) → Calls Try.prog 42 #[.slice (some ⟨W.heap.size, 0, none⟩) 3 3] (W.alloc (.cells #[.slice A n c, .slice A5 4 c5, .slice Q q1 q2] 22)) fun e w' => ∃ v, e = .returned v ∧ OwnB w' w1.heap.size v m ∧ Below w1.heap.size w1 w') := by
    refine Lib.hid fun W A5 c5 hW h5 => ?_
    subst hQ hq1 hq2
    have hb : Below W.heap.size W (W.alloc (.cells #[.slice A n c, .slice A5 4 c5, .slice (pAt A c (n + 4)) (l.length - (n + 4)) (c - (n + 4))] 22)) := (Below.refl _ _).alloc (Nat.le_refl _) _
    have hy := (hI.below hW).bys.below (Nat.le_refl _) hb
    have h5' := h5.below (Nat.le_refl _) hb
    have hpts : Pts (W.alloc (.cells #[.slice A n c, .slice A5 4 c5, .slice (pAt A c (n + 4)) (l.length - (n + 4)) (c - (n + 4))] 22)) (some ⟨W.heap.size, 0, none⟩) [l.take n, leB 4 x, l.drop (n + 4)] := by
      have hrow := heap_alloc_new W (.cells #[.slice A n c, .slice A5 4 c5, .slice (pAt A c (n + 4)) (l.length - (n + 4)) (c - (n + 4))] 22)
      refine ⟨fun i hi => ?_, by unfold maxLen; simp⟩
      have hi3 : i = 0 ∨ i = 1 ∨ i = 2 := by simp at hi; omega
      rcases hi3 with rfl | rfl | rfl
      · refine ⟨W.heap.size, 0, A, c, rfl, ?_, bys_head hy n (by omega)⟩
        rw [cell_of_row _ _ _ _ _ _ hrow]
        have e : (l.take n).length = n := by rw [List.length_take]; omega
        show some (Value.slice A n c) = some (.slice A (l.take n).length c)
        rw [e]
      · refine ⟨W.heap.size, 0, A5, c5, rfl, ?_, h5'⟩
        rw [cell_of_row _ _ _ _ _ _ hrow]
        show some (Value.slice A5 4 c5) = some (.slice A5 (leB 4 x).length c5)
        rw [leB_len]
      · refine ⟨W.heap.size, 0, pAt A c (n + 4), c - (n + 4), rfl, ?_, bys_tail hy c (n + 4) h.cap hex⟩
        rw [cell_of_row _ _ _ _ _ _ hrow]
        show some (Value.slice (pAt A c (n + 4)) (l.length - (n + 4)) (c - (n + 4))) = some (.slice (pAt A c (n + 4)) (l.drop (n + 4)).length (c - (n + 4)))
        rw [List.length_drop]
    have hfl : [l.take n, leB 4 x, l.drop (n + 4)].flatten = m := by
      rw [hm]
      unfold setL
      simp [leB_len]
    refine (concat_ok (some ⟨W.heap.size, 0, none⟩) [l.take n, leB 4 x, l.drop (n + 4)] 3 _ hpts (by rw [hfl, hml]; omega) (by simp)).mono ?_
    rintro e w' ⟨v, he, ho, hw'⟩
    rw [hfl] at ho
    have hWb := hW.trans (hb.mono hW.size)
    exact ⟨v, he, ho.base hWb.size, hWb.trans (hw'.mono hWb.size)⟩
  have HR : Hid (∀ W, Calls Try.prog 39 #[.slice none 0 0, .int .u64 z, .int .i64 4] W fun e w' => ∃ A5 c5, e = .returned (.slice A5 4 c5) ∧ Below W.heap.size W w' ∧ Bys w' A5 (leB 4 x)) := Lib.hid fun W => by
    rw [hz]
    refine (rappend_ok none [] 0 x hx 4 W ⟨fun i hi => absurd hi (by simp), fun y hy => (by cases hy), by simp⟩ (by simp) (by omega)).mono ?_
    rintro e w' ⟨v, rfl, ho, hb⟩
    rw [List.nil_append] at ho
    obtain ⟨A5, c5, rfl, hy5, -, -⟩ := ho.shape (leB_bs _ _) (by rw [leB_len]; unfold maxLen; omega)
    rw [leB_len]
    exact ⟨A5, c5, rfl, hb, hy5⟩
  have HX : Hid (∀ w3 v3, OwnB w3 w1.heap.size v3 m → Below w1.heap.size w1 w3 → ∃ A3 c3, v3 = .slice A3 m.length c3 ∧ w3.cell? ⟨P, 0, none⟩ = some (.slice A l.length c) ∧ w3.frozen? ⟨P, 0, none⟩ = false ∧ Hid (∀ W, w3.setCell ⟨P, 0, none⟩ (.slice A3 m.length c3) = W → W.cell? ⟨w.heap.size, 1, none⟩ = some (.int .i64 n) ∧ W.cell? ⟨w.heap.size, 2, none⟩ = some (.int .u64 z) ∧ Hid (Calls Try.prog 31 #[.pointer (some ⟨B, 0, none⟩), .int .i64 (n : Int), .int .u32 (z % 4294967296)] W fun e w' => e = .returned (.bool true) ∧ DoRes N w B P l (.returned (.bool true)) w'))) := Lib.hid fun w3 v3 ho3 hb3 => by
    obtain ⟨A3, c3, rfl, hy3, hc3, ha3⟩ := ho3.shape hmb (by unfold maxLen; omega)
    have hI3 := hI.below (w' := w3) hb3
    have ht : Turn (fun k => k = P) w3 (w3.setCell ⟨P, 0, none⟩ (.slice A3 m.length c3)) := (Turn.refl (fun k => k = P) w3).setCell rfl _
    have hO3 := (hO1.below hb3).turn ht (fun e => hPO e.symm)
    refine ⟨A3, c3, rfl, hI3.row.cell (i := 0) (by omega), hI3.row.free 0, Lib.hid fun W hW => ?_⟩
    subst hW
    refine ⟨hO3.c1, hO3.c2, Lib.hid ?_⟩
    have hS := hI.put hb3 ho3 hmb (by unfold maxLen; omega)
    have hs := set32_yes B g l n (x % 4294967296) (by omega) _ hS.bld (by omega) hex
    have e4 : leB 4 (x % 4294967296) = leB 4 x := leB_mod 4 4 x (Nat.le_refl _)
    rw [e4, ← hm] at hs
    rw [hz]
    refine hs.mono ?_
    rintro e w' ⟨he, g', hmv⟩
    have hAS : ∀ a, A3 = some a → a.block < (w3.setCell ⟨P, 0, none⟩ (.slice A3 m.length c3)).heap.size := fun a ha => by simpa using (ha3 a ha).1
    exact ⟨he, rfl, m, g', A3, c3, hS.moved hAS hmv, fun a ha => Nat.lt_of_lt_of_le (hAS a ha) hmv.turn.size, by omega, (((hA1.mono h.low).trans (hI.putBelow hb3))).trans (hS.movedBelow hmv)⟩
  have HSC : Hid (∀ W, Below w1.heap.size w1 W → W.cell? ⟨P, 0, none⟩ = some (.slice A l.length c) ∧ W.cell? ⟨w.heap.size, 1, none⟩ = some (.int .i64 n) ∧ W.cell? ⟨w.heap.size, 2, none⟩ = some (.int .u64 z)) := Lib.hid fun W hW => ⟨(hI.below hW).row.cell (i := 0) (by omega), (hO1.below hW).c1, (hO1.below hW).c2⟩
  have HAL : Hid (∀ (W : World) (o : Obj), Below w1.heap.size w1 W → (W.alloc o).cell? ⟨P, 0, none⟩ = some (.slice A l.length c) ∧ (W.alloc o).cell? ⟨w.heap.size, 1, none⟩ = some (.int .i64 n) ∧ (W.alloc o).cell? ⟨w.heap.size, 2, none⟩ = some (.int .u64 z)) := Lib.hid fun W o hW => HSC.out _ (hW.trans ((Below.refl W.heap.size W).alloc (Nat.le_refl _) o |>.mono hW.size))
  have hs1 := run_head A l.length c n (by have := h.cap; omega)
  have hs2 := run_tail A l.length c (n + 4) hex
  rw [← hQ, ← hq1, ← hq2] at hs2
  have hn4 : ((n + 4 : Nat) : Int) = (n : Int) + 4 := by omega
  rw [hn4] at hs2
  have hw4 : IntKind.i64.wrap ((n : Int) + 4) = (n : Int) + 4 := IntWalk.i64_in _ (by omega)
  clear h hA hlen hA1 hI hO1 hex hz hx hml hmb hm hQ hq1 hq2 hI64 hn4
  go_enter Try.func21, Try.ntmps21
  go_wp2_with fail
  rw [← hw1]
  clear hw1
  go_quiet ((go_at_call 17; exact quiet_left (HE.out _)))
  have hbq : Below w1.heap.size w1 (w1.drewN nq) := below_drewN (Below.refl _ _) _
  obtain ⟨w2, hw2⟩ : ∃ w2, w2 = w1.drewN nq := ⟨_, rfl⟩
  rw [← hw2] at hbq ⊢
  have hc2 := HSC.out w2 hbq
  obtain ⟨c20, c21, c22⟩ := hc2
  clear hw2 h0 h1 h2 hP
  go_wp2_with fail
  have hS0 : (w2.drew).cell? ⟨P, 0, none⟩ = some (.slice A l.length c) ∧ (w2.drew).cell? ⟨w.heap.size, 1, none⟩ = some (.int .i64 n) ∧ (w2.drew).cell? ⟨w.heap.size, 2, none⟩ = some (.int .u64 z) := ⟨c20, c21, c22⟩
  refine T_start 20 (fun W => W.cell? ⟨P, 0, none⟩ = some (.slice A l.length c) ∧ W.cell? ⟨w.heap.size, 1, none⟩ = some (.int .i64 n) ∧ W.cell? ⟨w.heap.size, 2, none⟩ = some (.int .u64 z)) (by kernel_rfl) (by decide) (fun inv0 => ?_)
  refine T_take 0 (oi := { dst := some 21, op := Op.move (Operand.tmp 1), type := 51, pos := "law.go:95", after := #[], guard := none }) (.pointer (some ⟨P, 0, none⟩)) rfl (by kernel_rfl) (by kernel_rfl) (by kernel_rfl) (fun _ _ _ h => h) ⟨by kernel_rfl, by kernel_rfl, by decide⟩ (by decide) inv0 hS0 ⟨by rfl, fun W hW => ?_⟩ (fun inv1 => ?_)
  · clear inv0
    obtain ⟨s1, s2, s3⟩ := hW
    go_simp
  clear inv0
  simp only [Act.put, List.setIfInBounds_toArray, List.set_cons_zero, List.set_cons_succ]
  refine T_take 1 (oi := { dst := some 22, op := Op.move (Operand.tmp 1), type := 51, pos := "law.go:95", after := #[], guard := none }) (.pointer (some ⟨P, 0, none⟩)) rfl (by kernel_rfl) (by kernel_rfl) (by kernel_rfl) (fun _ _ _ h => h) ⟨by kernel_rfl, by kernel_rfl, by decide⟩ (by decide) inv1 hS0 ⟨by rfl, fun W hW => ?_⟩ (fun inv2 => ?_)
  · clear inv1
    obtain ⟨s1, s2, s3⟩ := hW
    go_simp
  clear inv1
  simp only [Act.put, List.setIfInBounds_toArray, List.set_cons_zero, List.set_cons_succ]
  refine T_take 2 (oi := { dst := some 23, op := Op.nilCheck (Operand.tmp 22), type := 0, pos := "law.go:95", after := #[{ on := 1, ground := Ground.data }], guard := none }) (.pointer (some ⟨P, 0, none⟩)) rfl (by kernel_rfl) (by kernel_rfl) (by kernel_rfl) (fun _ _ _ h => h) ⟨by kernel_rfl, by kernel_rfl, by decide⟩ (by decide) inv2 hS0 ⟨by rfl, fun W hW => ?_⟩ (fun inv3 => ?_)
  · clear inv2
    obtain ⟨s1, s2, s3⟩ := hW
    go_simp
  clear inv2
  simp only [Act.put, List.setIfInBounds_toArray, List.set_cons_zero, List.set_cons_succ]
  refine T_take 3 (oi := { dst := some 24, op := Op.load 22 (Operand.tmp 23), type := 22, pos := "law.go:95", after := #[{ on := 2, ground := Ground.data }], guard := none }) (.slice A l.length c) rfl (by kernel_rfl) (by kernel_rfl) (by kernel_rfl) (fun _ _ _ h => h) ⟨by kernel_rfl, by kernel_rfl, by decide⟩ (by decide) inv3 hS0 ⟨by rfl, fun W hW => ?_⟩ (fun inv4 => ?_)
  · clear inv3
    obtain ⟨s1, s2, s3⟩ := hW
    go_simp
  clear inv3
  simp only [Act.put, List.setIfInBounds_toArray, List.set_cons_zero, List.set_cons_succ]
  refine T_take 4 (oi := { dst := some 25, op := Op.fieldAddr 49 (Operand.tmp 5) 1, type := 0, pos := "law.go:95", after := #[], guard := none }) (.pointer (some ⟨w.heap.size, 1, none⟩)) rfl (by kernel_rfl) (by kernel_rfl) (by kernel_rfl) (fun _ _ _ h => h) ⟨by kernel_rfl, by kernel_rfl, by decide⟩ (by decide) inv4 hS0 ⟨by rfl, fun W hW => ?_⟩ (fun inv5 => ?_)
  · clear inv4
    obtain ⟨s1, s2, s3⟩ := hW
    go_simp
  clear inv4
  simp only [Act.put, List.setIfInBounds_toArray, List.set_cons_zero, List.set_cons_succ]
  refine T_take 5 (oi := { dst := some 26, op := Op.load 3 (Operand.tmp 25), type := 3, pos := "law.go:95", after := #[{ on := 4, ground := Ground.data }], guard := none }) (.int .i64 (n : Int)) rfl (by kernel_rfl) (by kernel_rfl) (by kernel_rfl) (fun _ _ _ h => h) ⟨by kernel_rfl, by kernel_rfl, by decide⟩ (by decide) inv5 hS0 ⟨by rfl, fun W hW => ?_⟩ (fun inv6 => ?_)
  · clear inv5
    obtain ⟨s1, s2, s3⟩ := hW
    go_simp
  clear inv5
  simp only [Act.put, List.setIfInBounds_toArray, List.set_cons_zero, List.set_cons_succ]
  refine T_take 6 (oi := { dst := some 27, op := Op.slice 22 (Operand.tmp 24) none (some (Operand.tmp 26)) none, type := 22, pos := "law.go:95", after := #[{ on := 3, ground := Ground.data }, { on := 5, ground := Ground.data }], guard := none }) (.slice A n c) rfl (by kernel_rfl) (by kernel_rfl) (by kernel_rfl) (fun _ _ _ h => h) ⟨by kernel_rfl, by kernel_rfl, by decide⟩ (by decide) inv6 hS0 ⟨by rfl, fun W hW => ?_⟩ (fun inv7 => ?_)
  · clear inv6
    obtain ⟨s1, s2, s3⟩ := hW
    go_simp
  clear inv6
  simp only [Act.put, List.setIfInBounds_toArray, List.set_cons_zero, List.set_cons_succ]
  refine T_take 7 (oi := { dst := some 28, op := Op.fieldAddr 49 (Operand.tmp 5) 2, type := 0, pos := "law.go:95", after := #[], guard := none }) (.pointer (some ⟨w.heap.size, 2, none⟩)) rfl (by kernel_rfl) (by kernel_rfl) (by kernel_rfl) (fun _ _ _ h => h) ⟨by kernel_rfl, by kernel_rfl, by decide⟩ (by decide) inv7 hS0 ⟨by rfl, fun W hW => ?_⟩ (fun inv8 => ?_)
  · clear inv7
    obtain ⟨s1, s2, s3⟩ := hW
    go_simp
  clear inv7
  simp only [Act.put, List.setIfInBounds_toArray, List.set_cons_zero, List.set_cons_succ]
  refine T_take 8 (oi := { dst := some 29, op := Op.load 33 (Operand.tmp 28), type := 33, pos := "law.go:95", after := #[{ on := 7, ground := Ground.data }], guard := none }) (.int .u64 z) rfl (by kernel_rfl) (by kernel_rfl) (by kernel_rfl) (fun _ _ _ h => h) ⟨by kernel_rfl, by kernel_rfl, by decide⟩ (by decide) inv8 hS0 ⟨by rfl, fun W hW => ?_⟩ (fun inv9 => ?_)
  · clear inv8
    obtain ⟨s1, s2, s3⟩ := hW
    go_simp
  clear inv8
  simp only [Act.put, List.setIfInBounds_toArray, List.set_cons_zero, List.set_cons_succ]
  refine T_take 10 (oi := { dst := some 31, op := Op.move (Operand.tmp 1), type := 51, pos := "law.go:95", after := #[], guard := none }) (.pointer (some ⟨P, 0, none⟩)) rfl (by kernel_rfl) (by kernel_rfl) (by kernel_rfl) (fun _ _ _ h => h) ⟨by kernel_rfl, by kernel_rfl, by decide⟩ (by decide) inv9 hS0 ⟨by rfl, fun W hW => ?_⟩ (fun inv10 => ?_)
  · clear inv9
    obtain ⟨s1, s2, s3⟩ := hW
    go_simp
  clear inv9
  simp only [Act.put, List.setIfInBounds_toArray, List.set_cons_zero, List.set_cons_succ]
  refine T_take 11 (oi := { dst := some 32, op := Op.nilCheck (Operand.tmp 31), type := 0, pos := "law.go:95", after := #[{ on := 10, ground := Ground.data }], guard := none }) (.pointer (some ⟨P, 0, none⟩)) rfl (by kernel_rfl) (by kernel_rfl) (by kernel_rfl) (fun _ _ _ h => h) ⟨by kernel_rfl, by kernel_rfl, by decide⟩ (by decide) inv10 hS0 ⟨by rfl, fun W hW => ?_⟩ (fun inv11 => ?_)
  · clear inv10
    obtain ⟨s1, s2, s3⟩ := hW
    go_simp
  clear inv10
  simp only [Act.put, List.setIfInBounds_toArray, List.set_cons_zero, List.set_cons_succ]
  refine T_take 12 (oi := { dst := some 33, op := Op.load 22 (Operand.tmp 32), type := 22, pos := "law.go:95", after := #[{ on := 11, ground := Ground.data }], guard := none }) (.slice A l.length c) rfl (by kernel_rfl) (by kernel_rfl) (by kernel_rfl) (fun _ _ _ h => h) ⟨by kernel_rfl, by kernel_rfl, by decide⟩ (by decide) inv11 hS0 ⟨by rfl, fun W hW => ?_⟩ (fun inv12 => ?_)
  · clear inv11
    obtain ⟨s1, s2, s3⟩ := hW
    go_simp
  clear inv11
  simp only [Act.put, List.setIfInBounds_toArray, List.set_cons_zero, List.set_cons_succ]
  refine T_take 13 (oi := { dst := some 34, op := Op.fieldAddr 49 (Operand.tmp 5) 1, type := 0, pos := "law.go:95", after := #[], guard := none }) (.pointer (some ⟨w.heap.size, 1, none⟩)) rfl (by kernel_rfl) (by kernel_rfl) (by kernel_rfl) (fun _ _ _ h => h) ⟨by kernel_rfl, by kernel_rfl, by decide⟩ (by decide) inv12 hS0 ⟨by rfl, fun W hW => ?_⟩ (fun inv13 => ?_)
  · clear inv12
    obtain ⟨s1, s2, s3⟩ := hW
    go_simp
  clear inv12
  simp only [Act.put, List.setIfInBounds_toArray, List.set_cons_zero, List.set_cons_succ]
  refine T_take 14 (oi := { dst := some 35, op := Op.load 3 (Operand.tmp 34), type := 3, pos := "law.go:95", after := #[{ on := 13, ground := Ground.data }], guard := none }) (.int .i64 (n : Int)) rfl (by kernel_rfl) (by kernel_rfl) (by kernel_rfl) (fun _ _ _ h => h) ⟨by kernel_rfl, by kernel_rfl, by decide⟩ (by decide) inv13 hS0 ⟨by rfl, fun W hW => ?_⟩ (fun inv14 => ?_)
  · clear inv13
    obtain ⟨s1, s2, s3⟩ := hW
    go_simp
  clear inv13
  simp only [Act.put, List.setIfInBounds_toArray, List.set_cons_zero, List.set_cons_succ]
  refine T_take 15 (oi := { dst := some 36, op := Op.binOp BinOp.add 3 (Operand.tmp 35) (Operand.const (Value.int IntKind.i64 4)) 3, type := 3, pos := "law.go:95", after := #[{ on := 14, ground := Ground.data }], guard := none }) (.int .i64 ((n : Int) + 4)) rfl (by kernel_rfl) (by kernel_rfl) (by kernel_rfl) (fun _ _ _ h => h) ⟨by kernel_rfl, by kernel_rfl, by decide⟩ (by decide) inv14 hS0 ⟨by rfl, fun W hW => ?_⟩ (fun inv15 => ?_)
  · clear inv14
    obtain ⟨s1, s2, s3⟩ := hW
    go_simp
  clear inv14
  simp only [Act.put, List.setIfInBounds_toArray, List.set_cons_zero, List.set_cons_succ]
  refine T_take 16 (oi := { dst := some 37, op := Op.slice 22 (Operand.tmp 33) (some (Operand.tmp 36)) none none, type := 22, pos := "law.go:95", after := #[{ on := 12, ground := Ground.data }, { on := 15, ground := Ground.data }], guard := none }) (.slice Q q1 q2) rfl (by kernel_rfl) (by kernel_rfl) (by kernel_rfl) (fun _ _ _ h => h) ⟨by kernel_rfl, by kernel_rfl, by decide⟩ (by decide) inv15 hS0 ⟨by rfl, fun W hW => ?_⟩ (fun inv16 => ?_)
  · clear inv15
    obtain ⟨s1, s2, s3⟩ := hW
    go_simp
  clear inv15
  simp only [Act.put, List.setIfInBounds_toArray, List.set_cons_zero, List.set_cons_succ]
  refine T_only 9 (oi := { dst := some 30, op := Op.call { callee := Callee.value (Operand.func 39), args := #[Operand.const (Value.slice none 0 0), Operand.tmp 29, Operand.const (Value.int IntKind.i64 4)], argTypes := #[22, 33, 3] }, type := 22, pos := "law.go:95", after := #[{ on := 8, ground := Ground.data }], guard := none }) rfl rfl (by kernel_rfl) (by decide) inv16 (fun K hK => ?_)
  clear inv16
  refine wp_func 39 #[.slice none 0 0, .int .u64 z, .int .i64 4] (by clear hK; go_simp) (HR.out _) (fun e w5 he => ?_)
  obtain ⟨A5, c5, rfl, hb5, hy5⟩ := he
  have hB5 : Below w1.heap.size w1 w5 := hbq.drew.trans (hb5.mono hbq.size)
  have HY5 := Lib.hid hy5
  clear hb5 hy5 hS0
  refine ⟨_, rfl, ?_⟩
  refine hK _ _ (HSC.out w5 hB5) (fun inv17 => ?_)
  clear hK K
  simp only [Act.put, List.setIfInBounds_toArray, List.set_cons_zero, List.set_cons_succ]
  refine T_only 17 (oi := { dst := some 38, op := Op.buildSlice 84 3 #[(0, Operand.tmp 27), (1, Operand.tmp 30), (2, Operand.tmp 37)], type := 84, pos := "law.go:95", after := #[{ on := 6, ground := Ground.data }, { on := 9, ground := Ground.data }, { on := 16, ground := Ground.data }], guard := none }) rfl rfl (by kernel_rfl) (by decide) inv17 (fun K hK => ?_)
  clear inv17
  refine wp_value (w' := w5.alloc (.cells #[.slice A n c, .slice A5 4 c5, .slice Q q1 q2] 22)) (.slice (some ⟨w5.heap.size, 0, none⟩) 3 3) (by clear hK; go_simp) ?_
  refine hK _ _ (HAL.out w5 _ hB5) (fun inv18 => ?_)
  clear hK K
  simp only [Act.put, List.setIfInBounds_toArray, List.set_cons_zero, List.set_cons_succ]
  refine T_only 18 (oi := { dst := some 39, op := Op.call { callee := Callee.value (Operand.func 42), args := #[Operand.tmp 38], argTypes := #[84] }, type := 22, pos := "law.go:95", after := #[{ on := 17, ground := Ground.data }, { on := 9, ground := Ground.chain }], guard := none }) rfl rfl (by kernel_rfl) (by decide) inv18 (fun K hK => ?_)
  clear inv18
  refine wp_func 42 #[.slice (some ⟨w5.heap.size, 0, none⟩) 3 3] (by clear hK; go_simp) (HCC.out w5 A5 c5 hB5 HY5.out) (fun e w6 he => ?_)
  obtain ⟨v6, rfl, ho6, hb6⟩ := he
  have hh := HX.out w6 v6 ho6 hb6
  obtain ⟨A6, c6, hv6, hP6, hfP6, HM⟩ := hh
  refine ⟨.slice A6 m.length c6, by rw [hv6], ?_⟩
  have HP6 := Lib.hid (And.intro hP6 hfP6)
  clear hv6 hP6 hfP6 ho6
  refine hK _ _ (HSC.out w6 hb6) (fun inv19 => ?_)
  clear hK K
  simp only [Act.put, List.setIfInBounds_toArray, List.set_cons_zero, List.set_cons_succ]
  have hS0 := HSC.out w6 hb6
  clear hB5 HY5 hs1 hs2 c20 c21 c22 HCC HR HX HAL HSC
  refine T_take 19 (oi := { dst := some 40, op := Op.nilCheck (Operand.tmp 21), type := 0, pos := "law.go:95", after := #[{ on := 0, ground := Ground.data }, { on := 0, ground := Ground.phase }, { on := 1, ground := Ground.phase }, { on := 2, ground := Ground.phase }, { on := 3, ground := Ground.phase }, { on := 4, ground := Ground.phase }, { on := 5, ground := Ground.phase }, { on := 6, ground := Ground.phase }, { on := 7, ground := Ground.phase }, { on := 8, ground := Ground.phase }, { on := 9, ground := Ground.phase }, { on := 10, ground := Ground.phase }, { on := 11, ground := Ground.phase }, { on := 12, ground := Ground.phase }, { on := 13, ground := Ground.phase }, { on := 14, ground := Ground.phase }, { on := 15, ground := Ground.phase }, { on := 16, ground := Ground.phase }, { on := 17, ground := Ground.phase }, { on := 18, ground := Ground.phase }], guard := none }) (.pointer (some ⟨P, 0, none⟩)) rfl (by kernel_rfl) (by kernel_rfl) (by kernel_rfl) (fun _ _ _ h => h) ⟨by kernel_rfl, by kernel_rfl, by decide⟩ (by decide) inv19 hS0 ⟨by rfl, fun W hW => ?_⟩ (fun inv20 => ?_)
  · clear inv19
    obtain ⟨s1, s2, s3⟩ := hW
    go_simp
  clear inv19
  simp only [Act.put, List.setIfInBounds_toArray, List.set_cons_zero, List.set_cons_succ]
  clear inv20 hS0
  have hP6 := HP6.out.1
  have hfP6 := HP6.out.2
  refine T_last 20 (oi := { dst := none, op := Op.store 22 (Operand.tmp 40) (Operand.tmp 39), type := 0, pos := "law.go:95", after := #[{ on := 19, ground := Ground.data }, { on := 18, ground := Ground.data }, { on := 18, ground := Ground.chain }, { on := 0, ground := Ground.phase }, { on := 1, ground := Ground.phase }, { on := 2, ground := Ground.phase }, { on := 3, ground := Ground.phase }, { on := 4, ground := Ground.phase }, { on := 5, ground := Ground.phase }, { on := 6, ground := Ground.phase }, { on := 7, ground := Ground.phase }, { on := 8, ground := Ground.phase }, { on := 9, ground := Ground.phase }, { on := 10, ground := Ground.phase }, { on := 11, ground := Ground.phase }, { on := 12, ground := Ground.phase }, { on := 13, ground := Ground.phase }, { on := 14, ground := Ground.phase }, { on := 15, ground := Ground.phase }, { on := 16, ground := Ground.phase }, { on := 17, ground := Ground.phase }, { on := 18, ground := Ground.phase }], guard := none }) rfl rfl (by kernel_rfl) (by kernel_rfl) (by decide) ?_
  refine wp_skip (w' := w6.setCell ⟨P, 0, none⟩ (.slice A6 m.length c6)) (by go_simp) ?_
  simp only [Act.put]
  have hM := HM.out _ rfl
  have m1 := hM.1
  have m2 := hM.2.1
  have HMM := hM.2.2
  clear hM
  go_wp2_with fail
  refine HMM.out.mono ?_
  rintro e w7 ⟨rfl, hd⟩
  have HDO := Lib.hid hd
  clear hd
  go_wp2_with fail
  go_ret
  exact HDO.out

end Go.Proofs.Ytajkneekehkhbaa
