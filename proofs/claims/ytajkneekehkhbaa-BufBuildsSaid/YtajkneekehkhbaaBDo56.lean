/-
  Layer 3 (buf): a call of the builder beside the same of the reference: Zeros and Align. By the verifier.
-/
import Derived.Test.YtajkneekehkhbaaBDo
set_option linter.unusedVariables false
namespace Go.Proofs.Ytajkneekehkhbaa
open Go.RowKit

theorem Inv.same {N : Nat} {w : World} {B P : Nat} {lb l : List Nat} {g : Option Nat} {A : Option Addr} {c : Nat} (h : Inv N w B P lb l g A c) : Inv N (w.setCell ⟨P, 0, none⟩ (.slice A l.length c)) B P lb l g A c := by
  have ht : Turn (fun k => k = P) w (w.setCell ⟨P, 0, none⟩ (.slice A l.length c)) := (Turn.refl (fun k => k = P) w).setCell rfl _
  exact ⟨h.bld.turn ht (fun e => h.apP (.inl e.symm)) (fun k hk e => h.apP (.inr (by rw [hk, e]))), (h.row.set (i := 0) (by omega) _).congr fun i hi => by rw [if_pos (by omega)], ht.bys h.bys (fun a ha => (h.apA a ha).2), h.cap, h.apA, h.apP, h.loB, h.loP, h.log, Nat.le_trans h.low ht.size⟩

set_option maxHeartbeats 4000000 in
set_option maxRecDepth 100000 in
theorem do5_same (N : Nat) (B P : Nat) (l : List Nat) (g : Option Nat) (A : Option Addr) (c : Nat) (n : Int) (z : Int) (D : Value) (w : World) (b : Bool)
    (hD : ∃ Ad nd cd, D = .slice Ad nd cd) (h : Inv N w B P l l g A c) (hA : ∀ a, A = some a → a.block < w.heap.size) (hlen : l.length ≤ 400000)
    (hR : ∀ W, Calls Try.prog 40 #[.slice A l.length c, .int .i64 n] W fun e w' => e = .returned (.tuple #[.slice A l.length c, .bool b]) ∧ W = w')
    (hB : ∀ W, Bld W B g l → Calls Try.prog 29 #[.pointer (some ⟨B, 0, none⟩), .int .i64 n] W fun e w' => BoolRes W B g l b e w') :
    Calls Try.prog 21 #[.pointer (some ⟨B, 0, none⟩), .pointer (some ⟨P, 0, none⟩), .agg #[.int .i64 5, .int .i64 n, .int .u64 z, D]] w fun e w' => DoRes N w B P l e w' := by
  obtain ⟨Ad, nd, cd, rfl⟩ := hD
  have hA1 : Below w.heap.size w (w.alloc (.cells #[.int .i64 5, .int .i64 n, .int .u64 z, .slice Ad nd cd] 49)) := (Below.refl _ _).alloc (Nat.le_refl _) _
  obtain ⟨w1, hw1⟩ : ∃ w1, w1 = w.alloc (.cells #[.int .i64 5, .int .i64 n, .int .u64 z, .slice Ad nd cd] 49) := ⟨_, rfl⟩
  have hI := h.below hA1
  have hO1 := OpBlk.new w 5 n z (.slice Ad nd cd)
  have hOF := h.bld.off
  rw [← hw1] at hA1 hI hO1
  have HI := Lib.hid hI
  have HOB := Lib.hid hO1
  have HA : Hid (∀ a, A = some a → a.block < w1.heap.size) := Lib.hid fun a ha => Nat.lt_of_lt_of_le (hA a ha) hA1.size
  have HW := Lib.hid (hA1.mono h.low)
  have hPO : P ≠ w.heap.size := fun e => by have := h.row.lt; omega
  have h1 := hO1.c0
  have h2 := hO1.c1
  have hP : w1.cell? ⟨P, 0, none⟩ = some (.slice A l.length c) := hI.row.cell (i := 0) (by omega)
  have hfP : w1.frozen? ⟨P, 0, none⟩ = false := hI.row.free 0
  have HS := Lib.hid hI.same
  have ht : Turn (fun k => k = P) w1 (w1.setCell ⟨P, 0, none⟩ (.slice A l.length c)) := (Turn.refl (fun k => k = P) w1).setCell rfl _
  have hO2 := hO1.turn ht (fun e => hPO e.symm)
  have h21 := hO2.c1
  have HB1 : Hid (Below N w1 (w1.setCell ⟨P, 0, none⟩ (.slice A l.length c))) := Lib.hid ((Below.refl _ _).setCell h.loP _)
  have HX : Hid (∀ W, w1.drew.setCell ⟨P, 0, none⟩ (.slice A l.length c) = W → Calls Try.prog 29 #[.pointer (some ⟨B, 0, none⟩), .int .i64 n] W fun e w' => e = .returned (.bool b) ∧ DoRes N w B P l (.returned (.bool true)) w') := by
    refine Lib.hid fun W hW => ?_
    subst hW
    have hd : Below w1.heap.size w1 w1.drew := (Below.refl _ _).drew
    have hS : Inv N (w1.drew.setCell ⟨P, 0, none⟩ (.slice A l.length c)) B P l l g A c := (hI.below hd).same
    refine (hB _ hS.bld).mono ?_
    rintro e w' ⟨he, g', hm⟩
    have hAS : ∀ a, A = some a → a.block < (w1.drew.setCell ⟨P, 0, none⟩ (.slice A l.length c)).heap.size := fun a ha => by simpa using HA.out a ha
    refine ⟨he, rfl, l, g', A, c, hS.moved hAS hm, fun a ha => Nat.lt_of_lt_of_le (hAS a ha) hm.turn.size, by omega, HW.out.trans ?_⟩
    exact ((Below.refl N w1).drew.setCell h.loP _).trans (hS.movedBelow hm)
  have HRR := Lib.hid hR
  clear h hA hlen hA1 hI hO1 hOF hR hB ht hO2
  go_enter Try.func21, Try.ntmps21
  go_wp2_with fail
  rw [← hw1]
  clear hw1
  go_region_with (go_at_call 40; (refine (HRR.out _).mono ?_); rintro e w3 ⟨rfl, rfl⟩)
  all_goals go_wp2_with fail
  all_goals (refine (HX.out _ (by first | rfl | skip)).mono ?_)
  all_goals rintro e w4 ⟨rfl, hd⟩
  all_goals have HDO := Lib.hid hd
  all_goals clear hd
  all_goals go_wp2_with fail
  all_goals go_ret
  all_goals exact HDO.out

set_option maxHeartbeats 4000000 in
set_option maxRecDepth 100000 in
theorem do5_new (N : Nat) (B P : Nat) (l : List Nat) (g : Option Nat) (A : Option Addr) (c : Nat) (n : Int) (z : Int) (D : Value) (w : World) (m : List Nat)
    (hD : ∃ Ad nd cd, D = .slice Ad nd cd) (h : Inv N w B P l l g A c) (hA : ∀ a, A = some a → a.block < w.heap.size) (hlen : l.length ≤ 400000) (hm : Bs m) (hml : m.length ≤ l.length + 1000)
    (hR : ∀ W, Bys W A l → Calls Try.prog 40 #[.slice A l.length c, .int .i64 n] W fun e w' => PartRes W m e w')
    (hB : ∀ W, Bld W B g l → Calls Try.prog 29 #[.pointer (some ⟨B, 0, none⟩), .int .i64 n] W fun e w' => BoolRes W B g m true e w') :
    Calls Try.prog 21 #[.pointer (some ⟨B, 0, none⟩), .pointer (some ⟨P, 0, none⟩), .agg #[.int .i64 5, .int .i64 n, .int .u64 z, D]] w fun e w' => DoRes N w B P l e w' := by
  obtain ⟨Ad, nd, cd, rfl⟩ := hD
  have hA1 : Below w.heap.size w (w.alloc (.cells #[.int .i64 5, .int .i64 n, .int .u64 z, .slice Ad nd cd] 49)) := (Below.refl _ _).alloc (Nat.le_refl _) _
  obtain ⟨w1, hw1⟩ : ∃ w1, w1 = w.alloc (.cells #[.int .i64 5, .int .i64 n, .int .u64 z, .slice Ad nd cd] 49) := ⟨_, rfl⟩
  have hI := h.below hA1
  have hO1 := OpBlk.new w 5 n z (.slice Ad nd cd)
  rw [← hw1] at hA1 hI hO1
  have HW := Lib.hid (hA1.mono h.low)
  have hPO : P ≠ w.heap.size := fun e => by have := h.row.lt; omega
  have h1 := hO1.c0
  have h2 := hO1.c1
  have hP : w1.cell? ⟨P, 0, none⟩ = some (.slice A l.length c) := hI.row.cell (i := 0) (by omega)
  have HX : Hid (∀ w3 v3, OwnB w3 w1.heap.size v3 m → Below w1.heap.size w1 w3 → ∃ A3 c3, v3 = .slice A3 m.length c3 ∧ w3.cell? ⟨P, 0, none⟩ = some (.slice A l.length c) ∧ w3.frozen? ⟨P, 0, none⟩ = false ∧ (w3.setCell ⟨P, 0, none⟩ (.slice A3 m.length c3)).cell? ⟨w.heap.size, 1, none⟩ = some (.int .i64 n) ∧ Hid (Calls Try.prog 29 #[.pointer (some ⟨B, 0, none⟩), .int .i64 n] (w3.setCell ⟨P, 0, none⟩ (.slice A3 m.length c3)) fun e w' => e = .returned (.bool true) ∧ DoRes N w B P l (.returned (.bool true)) w')) := Lib.hid fun w3 v3 ho3 hb3 => by
    obtain ⟨A3, c3, rfl, hy3, hc3, ha3⟩ := ho3.shape hm (by unfold maxLen; omega)
    have hI3 := hI.below (w' := w3) hb3
    have ht : Turn (fun k => k = P) w3 (w3.setCell ⟨P, 0, none⟩ (.slice A3 m.length c3)) := (Turn.refl (fun k => k = P) w3).setCell rfl _
    refine ⟨A3, c3, rfl, hI3.row.cell (i := 0) (by omega), hI3.row.free 0, ((hO1.below hb3).turn ht (fun e => hPO e.symm)).c1, Lib.hid ?_⟩
    have hS := hI.put hb3 ho3 hm (by unfold maxLen; omega)
    refine (hB _ hS.bld).mono ?_
    rintro e w' ⟨he, g', hmv⟩
    have hAS : ∀ a, A3 = some a → a.block < (w3.setCell ⟨P, 0, none⟩ (.slice A3 m.length c3)).heap.size := fun a ha => by simpa using (ha3 a ha).1
    exact ⟨he, rfl, m, g', A3, c3, hS.moved hAS hmv, fun a ha => Nat.lt_of_lt_of_le (hAS a ha) hmv.turn.size, hml, (HW.out.trans (hI.putBelow hb3)).trans (hS.movedBelow hmv)⟩
  have HRR : Hid (Calls Try.prog 40 #[.slice A l.length c, .int .i64 n] w1.drew fun e w' => PartRes w1.drew m e w') := Lib.hid (hR _ (hI.below (Below.refl _ _).drew).bys)
  clear h hA hlen hA1 hI hO1 hR hB hm hml
  go_enter Try.func21, Try.ntmps21
  go_wp2_with fail
  rw [← hw1]
  clear hw1
  go_region_with (go_at_call 40; (refine HRR.out.mono ?_); rintro e w3 ⟨v3, rfl, ho3, hb3⟩; obtain ⟨A3, c3, rfl, hP3, hfP3, h31, HM⟩ := HX.out w3 v3 ho3 ((Below.refl w1.heap.size w1).drew.trans hb3); clear ho3 hb3)
  all_goals go_wp2_with fail
  all_goals (refine HM.out.mono ?_)
  all_goals rintro e w4 ⟨rfl, hd⟩
  all_goals have HDO := Lib.hid hd
  all_goals clear hd
  all_goals go_wp2_with fail
  all_goals go_ret
  all_goals exact HDO.out

set_option maxHeartbeats 4000000 in
set_option maxRecDepth 100000 in
theorem do6_same (N : Nat) (B P : Nat) (l : List Nat) (g : Option Nat) (A : Option Addr) (c : Nat) (n : Int) (z : Int) (D : Value) (w : World) (b : Bool)
    (hD : ∃ Ad nd cd, D = .slice Ad nd cd) (h : Inv N w B P l l g A c) (hA : ∀ a, A = some a → a.block < w.heap.size) (hlen : l.length ≤ 400000)
    (hR : ∀ W, Calls Try.prog 41 #[.slice A l.length c, .int .i64 n] W fun e w' => e = .returned (.tuple #[.slice A l.length c, .bool b]) ∧ W = w')
    (hB : ∀ W, Bld W B g l → Calls Try.prog 30 #[.pointer (some ⟨B, 0, none⟩), .int .i64 n] W fun e w' => BoolRes W B g l b e w') :
    Calls Try.prog 21 #[.pointer (some ⟨B, 0, none⟩), .pointer (some ⟨P, 0, none⟩), .agg #[.int .i64 6, .int .i64 n, .int .u64 z, D]] w fun e w' => DoRes N w B P l e w' := by
  obtain ⟨Ad, nd, cd, rfl⟩ := hD
  have hA1 : Below w.heap.size w (w.alloc (.cells #[.int .i64 6, .int .i64 n, .int .u64 z, .slice Ad nd cd] 49)) := (Below.refl _ _).alloc (Nat.le_refl _) _
  obtain ⟨w1, hw1⟩ : ∃ w1, w1 = w.alloc (.cells #[.int .i64 6, .int .i64 n, .int .u64 z, .slice Ad nd cd] 49) := ⟨_, rfl⟩
  have hI := h.below hA1
  have hO1 := OpBlk.new w 6 n z (.slice Ad nd cd)
  have hOF := h.bld.off
  rw [← hw1] at hA1 hI hO1
  have HI := Lib.hid hI
  have HOB := Lib.hid hO1
  have HA : Hid (∀ a, A = some a → a.block < w1.heap.size) := Lib.hid fun a ha => Nat.lt_of_lt_of_le (hA a ha) hA1.size
  have HW := Lib.hid (hA1.mono h.low)
  have hPO : P ≠ w.heap.size := fun e => by have := h.row.lt; omega
  have h1 := hO1.c0
  have h2 := hO1.c1
  have hP : w1.cell? ⟨P, 0, none⟩ = some (.slice A l.length c) := hI.row.cell (i := 0) (by omega)
  have hfP : w1.frozen? ⟨P, 0, none⟩ = false := hI.row.free 0
  have HS := Lib.hid hI.same
  have ht : Turn (fun k => k = P) w1 (w1.setCell ⟨P, 0, none⟩ (.slice A l.length c)) := (Turn.refl (fun k => k = P) w1).setCell rfl _
  have hO2 := hO1.turn ht (fun e => hPO e.symm)
  have h21 := hO2.c1
  have HB1 : Hid (Below N w1 (w1.setCell ⟨P, 0, none⟩ (.slice A l.length c))) := Lib.hid ((Below.refl _ _).setCell h.loP _)
  have HX : Hid (∀ W, w1.drew.setCell ⟨P, 0, none⟩ (.slice A l.length c) = W → Calls Try.prog 30 #[.pointer (some ⟨B, 0, none⟩), .int .i64 n] W fun e w' => e = .returned (.bool b) ∧ DoRes N w B P l (.returned (.bool true)) w') := by
    refine Lib.hid fun W hW => ?_
    subst hW
    have hd : Below w1.heap.size w1 w1.drew := (Below.refl _ _).drew
    have hS : Inv N (w1.drew.setCell ⟨P, 0, none⟩ (.slice A l.length c)) B P l l g A c := (hI.below hd).same
    refine (hB _ hS.bld).mono ?_
    rintro e w' ⟨he, g', hm⟩
    have hAS : ∀ a, A = some a → a.block < (w1.drew.setCell ⟨P, 0, none⟩ (.slice A l.length c)).heap.size := fun a ha => by simpa using HA.out a ha
    refine ⟨he, rfl, l, g', A, c, hS.moved hAS hm, fun a ha => Nat.lt_of_lt_of_le (hAS a ha) hm.turn.size, by omega, HW.out.trans ?_⟩
    exact ((Below.refl N w1).drew.setCell h.loP _).trans (hS.movedBelow hm)
  have HRR := Lib.hid hR
  clear h hA hlen hA1 hI hO1 hOF hR hB ht hO2
  go_enter Try.func21, Try.ntmps21
  go_wp2_with fail
  rw [← hw1]
  clear hw1
  go_region_with (go_at_call 41; (refine (HRR.out _).mono ?_); rintro e w3 ⟨rfl, rfl⟩)
  all_goals go_wp2_with fail
  all_goals (refine (HX.out _ (by first | rfl | skip)).mono ?_)
  all_goals rintro e w4 ⟨rfl, hd⟩
  all_goals have HDO := Lib.hid hd
  all_goals clear hd
  all_goals go_wp2_with fail
  all_goals go_ret
  all_goals exact HDO.out

set_option maxHeartbeats 4000000 in
set_option maxRecDepth 100000 in
theorem do6_new (N : Nat) (B P : Nat) (l : List Nat) (g : Option Nat) (A : Option Addr) (c : Nat) (n : Int) (z : Int) (D : Value) (w : World) (m : List Nat)
    (hD : ∃ Ad nd cd, D = .slice Ad nd cd) (h : Inv N w B P l l g A c) (hA : ∀ a, A = some a → a.block < w.heap.size) (hlen : l.length ≤ 400000) (hm : Bs m) (hml : m.length ≤ l.length + 1000)
    (hR : ∀ W, Bys W A l → Calls Try.prog 41 #[.slice A l.length c, .int .i64 n] W fun e w' => PartRes W m e w')
    (hB : ∀ W, Bld W B g l → Calls Try.prog 30 #[.pointer (some ⟨B, 0, none⟩), .int .i64 n] W fun e w' => BoolRes W B g m true e w') :
    Calls Try.prog 21 #[.pointer (some ⟨B, 0, none⟩), .pointer (some ⟨P, 0, none⟩), .agg #[.int .i64 6, .int .i64 n, .int .u64 z, D]] w fun e w' => DoRes N w B P l e w' := by
  obtain ⟨Ad, nd, cd, rfl⟩ := hD
  have hA1 : Below w.heap.size w (w.alloc (.cells #[.int .i64 6, .int .i64 n, .int .u64 z, .slice Ad nd cd] 49)) := (Below.refl _ _).alloc (Nat.le_refl _) _
  obtain ⟨w1, hw1⟩ : ∃ w1, w1 = w.alloc (.cells #[.int .i64 6, .int .i64 n, .int .u64 z, .slice Ad nd cd] 49) := ⟨_, rfl⟩
  have hI := h.below hA1
  have hO1 := OpBlk.new w 6 n z (.slice Ad nd cd)
  rw [← hw1] at hA1 hI hO1
  have HW := Lib.hid (hA1.mono h.low)
  have hPO : P ≠ w.heap.size := fun e => by have := h.row.lt; omega
  have h1 := hO1.c0
  have h2 := hO1.c1
  have hP : w1.cell? ⟨P, 0, none⟩ = some (.slice A l.length c) := hI.row.cell (i := 0) (by omega)
  have HX : Hid (∀ w3 v3, OwnB w3 w1.heap.size v3 m → Below w1.heap.size w1 w3 → ∃ A3 c3, v3 = .slice A3 m.length c3 ∧ w3.cell? ⟨P, 0, none⟩ = some (.slice A l.length c) ∧ w3.frozen? ⟨P, 0, none⟩ = false ∧ (w3.setCell ⟨P, 0, none⟩ (.slice A3 m.length c3)).cell? ⟨w.heap.size, 1, none⟩ = some (.int .i64 n) ∧ Hid (Calls Try.prog 30 #[.pointer (some ⟨B, 0, none⟩), .int .i64 n] (w3.setCell ⟨P, 0, none⟩ (.slice A3 m.length c3)) fun e w' => e = .returned (.bool true) ∧ DoRes N w B P l (.returned (.bool true)) w')) := Lib.hid fun w3 v3 ho3 hb3 => by
    obtain ⟨A3, c3, rfl, hy3, hc3, ha3⟩ := ho3.shape hm (by unfold maxLen; omega)
    have hI3 := hI.below (w' := w3) hb3
    have ht : Turn (fun k => k = P) w3 (w3.setCell ⟨P, 0, none⟩ (.slice A3 m.length c3)) := (Turn.refl (fun k => k = P) w3).setCell rfl _
    refine ⟨A3, c3, rfl, hI3.row.cell (i := 0) (by omega), hI3.row.free 0, ((hO1.below hb3).turn ht (fun e => hPO e.symm)).c1, Lib.hid ?_⟩
    have hS := hI.put hb3 ho3 hm (by unfold maxLen; omega)
    refine (hB _ hS.bld).mono ?_
    rintro e w' ⟨he, g', hmv⟩
    have hAS : ∀ a, A3 = some a → a.block < (w3.setCell ⟨P, 0, none⟩ (.slice A3 m.length c3)).heap.size := fun a ha => by simpa using (ha3 a ha).1
    exact ⟨he, rfl, m, g', A3, c3, hS.moved hAS hmv, fun a ha => Nat.lt_of_lt_of_le (hAS a ha) hmv.turn.size, hml, (HW.out.trans (hI.putBelow hb3)).trans (hS.movedBelow hmv)⟩
  have HRR : Hid (Calls Try.prog 41 #[.slice A l.length c, .int .i64 n] w1.drew fun e w' => PartRes w1.drew m e w') := Lib.hid (hR _ (hI.below (Below.refl _ _).drew).bys)
  clear h hA hlen hA1 hI hO1 hR hB hm hml
  go_enter Try.func21, Try.ntmps21
  go_wp2_with fail
  rw [← hw1]
  clear hw1
  go_region_with (go_at_call 41; (refine HRR.out.mono ?_); rintro e w3 ⟨v3, rfl, ho3, hb3⟩; obtain ⟨A3, c3, rfl, hP3, hfP3, h31, HM⟩ := HX.out w3 v3 ho3 ((Below.refl w1.heap.size w1).drew.trans hb3); clear ho3 hb3)
  all_goals go_wp2_with fail
  all_goals (refine HM.out.mono ?_)
  all_goals rintro e w4 ⟨rfl, hd⟩
  all_goals have HDO := Lib.hid hd
  all_goals clear hd
  all_goals go_wp2_with fail
  all_goals go_ret
  all_goals exact HDO.out

end Go.Proofs.Ytajkneekehkhbaa
