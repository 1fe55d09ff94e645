/-
  Layer 3 (buf): a call of the builder beside the same of the reference. By the verifier.
-/
import Derived.Test.YtajkneekehkhbaaBInv
import Derived.Deep.RegionWith
import Derived.Deep.RegionHeld3
set_option linter.unusedVariables false
namespace Go.Proofs.Ytajkneekehkhbaa
open Go.RowKit

/-- What a call leaves. -/
def DoRes (N : Nat) (w : World) (B P : Nat) (l : List Nat) (e : Ending) (w' : World) : Prop :=
  e = .returned (.bool true) ∧ ∃ l' g' A' c', Inv N w' B P l' l' g' A' c' ∧ (∀ a, A' = some a → a.block < w'.heap.size) ∧ l'.length ≤ l.length + 1000 ∧ Below N w w'

/-- The call's own copy of an operation. -/
structure OpBlk (w : World) (O : Nat) (k n z : Int) (D : Value) : Prop where
  lt : O < w.heap.size
  c0 : w.cell? ⟨O, 0, none⟩ = some (.int .i64 k)
  c1 : w.cell? ⟨O, 1, none⟩ = some (.int .i64 n)
  c2 : w.cell? ⟨O, 2, none⟩ = some (.int .u64 z)
  c3 : w.cell? ⟨O, 3, none⟩ = some D

theorem OpBlk.new (w : World) (k n z : Int) (D : Value) : OpBlk (w.alloc (.cells #[.int .i64 k, .int .i64 n, .int .u64 z, D] 49)) w.heap.size k n z D := by
  have h := heap_alloc_new w (.cells #[.int .i64 k, .int .i64 n, .int .u64 z, D] 49)
  refine ⟨by simp, ?_, ?_, ?_, ?_⟩ <;> (rw [cell_of_row _ _ _ _ _ _ h]; rfl)
theorem OpBlk.turn {S : Nat → Prop} {w w' : World} {O : Nat} {k n z : Int} {D : Value} (h : OpBlk w O k n z D) (ht : Turn S w w') (hS : ¬ S O) : OpBlk w' O k n z D := by
  have e := ht.block O h.lt hS
  exact ⟨Nat.lt_of_lt_of_le h.lt ht.size, (World.cell?_of_block (w := w) (a := ⟨O, 0, none⟩) e).trans h.c0, (World.cell?_of_block (w := w) (a := ⟨O, 1, none⟩) e).trans h.c1, (World.cell?_of_block (w := w) (a := ⟨O, 2, none⟩) e).trans h.c2, (World.cell?_of_block (w := w) (a := ⟨O, 3, none⟩) e).trans h.c3⟩
theorem OpBlk.below {w w' : World} {O : Nat} {k n z : Int} {D : Value} (h : OpBlk w O k n z D) (hb : Below w.heap.size w w') : OpBlk w' O k n z D := h.turn (S := fun _ => False) (Turn.of_below hb) id
theorem Bld.off {w : World} {B : Nat} {g : Option Nat} {l : List Nat} (h : Bld w B g l) : ¬ SB B g w.heap.size := by
  rintro (e | e)
  · have := h.lt.1; omega
  · have := h.lt.2 _ e; omega

set_option maxHeartbeats 4000000 in
set_option maxRecDepth 100000 in
theorem do0_ok (N : Nat) (B P : Nat) (l : List Nat) (g : Option Nat) (A : Option Addr) (c : Nat) (n : Int) (x : Nat) (hx : x < 18446744073709551616) (D : Value) (w : World)
    (hD : ∃ Ad nd cd, D = .slice Ad nd cd) (h : Inv N w B P l l g A c) (hA : ∀ a, A = some a → a.block < w.heap.size) (hlen : l.length ≤ 400000) :
    Calls Try.prog 21 #[.pointer (some ⟨B, 0, none⟩), .pointer (some ⟨P, 0, none⟩), .agg #[.int .i64 0, .int .i64 n, .int .u64 (x : Int), D]] w fun e w' => DoRes N w B P l e w' := by
  obtain ⟨Ad, nd, cd, rfl⟩ := hD
  obtain ⟨z, hz⟩ : ∃ z : Int, z = (x : Int) := ⟨_, rfl⟩
  have hz0 : 0 ≤ z := by omega
  have hz1 : z < 18446744073709551616 := by omega
  have hA1 : Below w.heap.size w (w.alloc (.cells #[.int .i64 0, .int .i64 n, .int .u64 z, .slice Ad nd cd] 49)) := (Below.refl _ _).alloc (Nat.le_refl _) _
  have HI := Lib.hid (h.below hA1)
  have HOB := Lib.hid (OpBlk.new w 0 n z (.slice Ad nd cd))
  have HOF : Hid (¬ SB B g w.heap.size) := Lib.hid h.bld.off
  have HA : Hid (∀ a, A = some a → a.block < (w.alloc (.cells #[.int .i64 0, .int .i64 n, .int .u64 z, .slice Ad nd cd] 49)).heap.size) := Lib.hid fun a ha => Nat.lt_of_lt_of_le (hA a ha) hA1.size
  have HL := Lib.hid hlen
  have HW := Lib.hid (hA1.mono h.low)
  have hle : leB 1 (x % 256) = leB 1 x := leB_mod 1 1 x (Nat.le_refl _)
  have HC : Hid (∀ W, Bld W B g l → Calls Try.prog 27 #[.pointer (some ⟨B, 0, none⟩), .int .u8 (z % 256)] W fun e w' => AddRes W B g (l ++ leB 1 x) e w') := Lib.hid fun W hb => by
    have := u8_ok B g l (x % 256) (by omega) W hb (by omega)
    rw [hle] at this
    rw [hz]
    exact this
  have HR : Hid (∀ W, Bys W A l → Calls Try.prog 39 #[.slice A l.length c, .int .u64 z, .int .i64 1] W fun e w' => NewO W (l ++ leB 1 x) e w') := Lib.hid fun W hy => by
    rw [hz]
    exact rappend_ok A l c x hx 1 W hy (by omega) (by omega)
  have HBS : Hid (Bs (l ++ leB 1 x) ∧ (l ++ leB 1 x).length ≤ maxLen ∧ (l ++ leB 1 x).length ≤ l.length + 1000) := Lib.hid ⟨h.bys.2.1.append (leB_bs _ _), by rw [List.length_append, leB_len]; unfold maxLen; omega, by rw [List.length_append, leB_len]; omega⟩
  rw [← hz]
  generalize l ++ leB 1 x = m at HC HR HBS
  clear h hA hlen hz hle hA1 hx
  go_enter Try.func21, Try.ntmps21
  go_wp2_with fail
  refine (HC.out _ HI.out.bld).mono ?_
  rintro e w2 ⟨rfl, g2, hm⟩
  have HI2 := Lib.hid (HI.out.moved HA.out hm)
  have hO2 := HOB.out.turn hm.turn HOF.out
  have h1 := hO2.c0
  have h2 := hO2.c1
  have h3 := hO2.c2
  have h4 := hO2.c3
  have hP : w2.cell? ⟨P, 0, none⟩ = some (.slice A l.length c) := HI2.out.row.cell (i := 0) (by omega)
  have hfP : w2.frozen? ⟨P, 0, none⟩ = false := HI2.out.row.free 0
  have HW2 := Lib.hid (HW.out.trans (HI.out.movedBelow hm))
  clear hm hO2 HI HA HOF HOB
  go_wp2_with fail
  have HX : Hid (∀ w3 v3, OwnB w3 w2.heap.size v3 m → Below w2.heap.size w2 w3 → ∃ A3 c3, v3 = .slice A3 m.length c3 ∧ w3.cell? ⟨P, 0, none⟩ = some (.slice A l.length c) ∧ w3.frozen? ⟨P, 0, none⟩ = false ∧ Hid (∀ W, Below w3.heap.size w3 W → DoRes N w B P l (.returned (.bool true)) (W.setCell ⟨P, 0, none⟩ (.slice A3 m.length c3)))) := Lib.hid fun w3 v3 ho3 hb3 => by
    obtain ⟨A3, c3, rfl, hy3, hc3, ha3⟩ := ho3.shape HBS.out.1 HBS.out.2.1
    have hI3 := HI2.out.below (w' := w3) hb3
    refine ⟨A3, c3, rfl, hI3.row.cell (i := 0) (by omega), hI3.row.free 0, Lib.hid fun W hW => ⟨rfl, m, g2, A3, c3, HI2.out.put (hb3.trans (hW.mono hb3.size)) (ho3.below hW) HBS.out.1 HBS.out.2.1, fun a ha => Nat.lt_of_lt_of_le (ha3 a ha).1 (by simpa using hW.size), HBS.out.2.2, HW2.out.trans (HI2.out.putBelow (hb3.trans (hW.mono hb3.size)))⟩⟩
  go_region_with (go_at_call 39; (refine (HR.out _ (HI2.out.below (Below.refl _ _).drew).bys).mono ?_); rintro e w3 ⟨v3, rfl, ho3, hb3⟩; obtain ⟨A3, c3, rfl, hP3, hfP3, HE⟩ := HX.out w3 v3 ho3 ((Below.refl w2.heap.size w2).drew.trans hb3); clear ho3 hb3)
  all_goals go_wp2_with fail
  all_goals go_ret
  all_goals exact HE.out _ (Below.refl _ _)

set_option maxHeartbeats 4000000 in
set_option maxRecDepth 100000 in
theorem do1_ok (N : Nat) (B P : Nat) (l : List Nat) (g : Option Nat) (A : Option Addr) (c : Nat) (n : Int) (x : Nat) (hx : x < 18446744073709551616) (D : Value) (w : World)
    (hD : ∃ Ad nd cd, D = .slice Ad nd cd) (h : Inv N w B P l l g A c) (hA : ∀ a, A = some a → a.block < w.heap.size) (hlen : l.length ≤ 400000) :
    Calls Try.prog 21 #[.pointer (some ⟨B, 0, none⟩), .pointer (some ⟨P, 0, none⟩), .agg #[.int .i64 1, .int .i64 n, .int .u64 (x : Int), D]] w fun e w' => DoRes N w B P l e w' := by
  obtain ⟨Ad, nd, cd, rfl⟩ := hD
  obtain ⟨z, hz⟩ : ∃ z : Int, z = (x : Int) := ⟨_, rfl⟩
  have hz0 : 0 ≤ z := by omega
  have hz1 : z < 18446744073709551616 := by omega
  have hA1 : Below w.heap.size w (w.alloc (.cells #[.int .i64 1, .int .i64 n, .int .u64 z, .slice Ad nd cd] 49)) := (Below.refl _ _).alloc (Nat.le_refl _) _
  have HI := Lib.hid (h.below hA1)
  have HOB := Lib.hid (OpBlk.new w 1 n z (.slice Ad nd cd))
  have HOF : Hid (¬ SB B g w.heap.size) := Lib.hid h.bld.off
  have HA : Hid (∀ a, A = some a → a.block < (w.alloc (.cells #[.int .i64 1, .int .i64 n, .int .u64 z, .slice Ad nd cd] 49)).heap.size) := Lib.hid fun a ha => Nat.lt_of_lt_of_le (hA a ha) hA1.size
  have HL := Lib.hid hlen
  have HW := Lib.hid (hA1.mono h.low)
  have hle : leB 2 (x % 65536) = leB 2 x := leB_mod 2 2 x (Nat.le_refl _)
  have HC : Hid (∀ W, Bld W B g l → Calls Try.prog 26 #[.pointer (some ⟨B, 0, none⟩), .int .u16 (z % 65536)] W fun e w' => AddRes W B g (l ++ leB 2 x) e w') := Lib.hid fun W hb => by
    have := u16_ok B g l (x % 65536) (by omega) W hb (by omega)
    rw [hle] at this
    rw [hz]
    exact this
  have HR : Hid (∀ W, Bys W A l → Calls Try.prog 39 #[.slice A l.length c, .int .u64 z, .int .i64 2] W fun e w' => NewO W (l ++ leB 2 x) e w') := Lib.hid fun W hy => by
    rw [hz]
    exact rappend_ok A l c x hx 2 W hy (by omega) (by omega)
  have HBS : Hid (Bs (l ++ leB 2 x) ∧ (l ++ leB 2 x).length ≤ maxLen ∧ (l ++ leB 2 x).length ≤ l.length + 1000) := Lib.hid ⟨h.bys.2.1.append (leB_bs _ _), by rw [List.length_append, leB_len]; unfold maxLen; omega, by rw [List.length_append, leB_len]; omega⟩
  rw [← hz]
  generalize l ++ leB 2 x = m at HC HR HBS
  clear h hA hlen hz hle hA1 hx
  go_enter Try.func21, Try.ntmps21
  go_wp2_with fail
  refine (HC.out _ HI.out.bld).mono ?_
  rintro e w2 ⟨rfl, g2, hm⟩
  have HI2 := Lib.hid (HI.out.moved HA.out hm)
  have hO2 := HOB.out.turn hm.turn HOF.out
  have h1 := hO2.c0
  have h2 := hO2.c1
  have h3 := hO2.c2
  have h4 := hO2.c3
  have hP : w2.cell? ⟨P, 0, none⟩ = some (.slice A l.length c) := HI2.out.row.cell (i := 0) (by omega)
  have hfP : w2.frozen? ⟨P, 0, none⟩ = false := HI2.out.row.free 0
  have HW2 := Lib.hid (HW.out.trans (HI.out.movedBelow hm))
  clear hm hO2 HI HA HOF HOB
  go_wp2_with fail
  have HX : Hid (∀ w3 v3, OwnB w3 w2.heap.size v3 m → Below w2.heap.size w2 w3 → ∃ A3 c3, v3 = .slice A3 m.length c3 ∧ w3.cell? ⟨P, 0, none⟩ = some (.slice A l.length c) ∧ w3.frozen? ⟨P, 0, none⟩ = false ∧ Hid (∀ W, Below w3.heap.size w3 W → DoRes N w B P l (.returned (.bool true)) (W.setCell ⟨P, 0, none⟩ (.slice A3 m.length c3)))) := Lib.hid fun w3 v3 ho3 hb3 => by
    obtain ⟨A3, c3, rfl, hy3, hc3, ha3⟩ := ho3.shape HBS.out.1 HBS.out.2.1
    have hI3 := HI2.out.below (w' := w3) hb3
    refine ⟨A3, c3, rfl, hI3.row.cell (i := 0) (by omega), hI3.row.free 0, Lib.hid fun W hW => ⟨rfl, m, g2, A3, c3, HI2.out.put (hb3.trans (hW.mono hb3.size)) (ho3.below hW) HBS.out.1 HBS.out.2.1, fun a ha => Nat.lt_of_lt_of_le (ha3 a ha).1 (by simpa using hW.size), HBS.out.2.2, HW2.out.trans (HI2.out.putBelow (hb3.trans (hW.mono hb3.size)))⟩⟩
  go_region_with (go_at_call 39; (refine (HR.out _ (HI2.out.below (Below.refl _ _).drew).bys).mono ?_); rintro e w3 ⟨v3, rfl, ho3, hb3⟩; obtain ⟨A3, c3, rfl, hP3, hfP3, HE⟩ := HX.out w3 v3 ho3 ((Below.refl w2.heap.size w2).drew.trans hb3); clear ho3 hb3)
  all_goals go_wp2_with fail
  all_goals go_ret
  all_goals exact HE.out _ (Below.refl _ _)

set_option maxHeartbeats 4000000 in
set_option maxRecDepth 100000 in
theorem do2_ok (N : Nat) (B P : Nat) (l : List Nat) (g : Option Nat) (A : Option Addr) (c : Nat) (n : Int) (x : Nat) (hx : x < 18446744073709551616) (D : Value) (w : World)
    (hD : ∃ Ad nd cd, D = .slice Ad nd cd) (h : Inv N w B P l l g A c) (hA : ∀ a, A = some a → a.block < w.heap.size) (hlen : l.length ≤ 400000) :
    Calls Try.prog 21 #[.pointer (some ⟨B, 0, none⟩), .pointer (some ⟨P, 0, none⟩), .agg #[.int .i64 2, .int .i64 n, .int .u64 (x : Int), D]] w fun e w' => DoRes N w B P l e w' := by
  obtain ⟨Ad, nd, cd, rfl⟩ := hD
  obtain ⟨z, hz⟩ : ∃ z : Int, z = (x : Int) := ⟨_, rfl⟩
  have hz0 : 0 ≤ z := by omega
  have hz1 : z < 18446744073709551616 := by omega
  have hA1 : Below w.heap.size w (w.alloc (.cells #[.int .i64 2, .int .i64 n, .int .u64 z, .slice Ad nd cd] 49)) := (Below.refl _ _).alloc (Nat.le_refl _) _
  have HI := Lib.hid (h.below hA1)
  have HOB := Lib.hid (OpBlk.new w 2 n z (.slice Ad nd cd))
  have HOF : Hid (¬ SB B g w.heap.size) := Lib.hid h.bld.off
  have HA : Hid (∀ a, A = some a → a.block < (w.alloc (.cells #[.int .i64 2, .int .i64 n, .int .u64 z, .slice Ad nd cd] 49)).heap.size) := Lib.hid fun a ha => Nat.lt_of_lt_of_le (hA a ha) hA1.size
  have HL := Lib.hid hlen
  have HW := Lib.hid (hA1.mono h.low)
  have hle : leB 4 (x % 4294967296) = leB 4 x := leB_mod 4 4 x (Nat.le_refl _)
  have HC : Hid (∀ W, Bld W B g l → Calls Try.prog 25 #[.pointer (some ⟨B, 0, none⟩), .int .u32 (z % 4294967296)] W fun e w' => AddRes W B g (l ++ leB 4 x) e w') := Lib.hid fun W hb => by
    have := u32_ok B g l (x % 4294967296) (by omega) W hb (by omega)
    rw [hle] at this
    rw [hz]
    exact this
  have HR : Hid (∀ W, Bys W A l → Calls Try.prog 39 #[.slice A l.length c, .int .u64 z, .int .i64 4] W fun e w' => NewO W (l ++ leB 4 x) e w') := Lib.hid fun W hy => by
    rw [hz]
    exact rappend_ok A l c x hx 4 W hy (by omega) (by omega)
  have HBS : Hid (Bs (l ++ leB 4 x) ∧ (l ++ leB 4 x).length ≤ maxLen ∧ (l ++ leB 4 x).length ≤ l.length + 1000) := Lib.hid ⟨h.bys.2.1.append (leB_bs _ _), by rw [List.length_append, leB_len]; unfold maxLen; omega, by rw [List.length_append, leB_len]; omega⟩
  rw [← hz]
  generalize l ++ leB 4 x = m at HC HR HBS
  clear h hA hlen hz hle hA1 hx
  go_enter Try.func21, Try.ntmps21
  go_wp2_with fail
  refine (HC.out _ HI.out.bld).mono ?_
  rintro e w2 ⟨rfl, g2, hm⟩
  have HI2 := Lib.hid (HI.out.moved HA.out hm)
  have hO2 := HOB.out.turn hm.turn HOF.out
  have h1 := hO2.c0
  have h2 := hO2.c1
  have h3 := hO2.c2
  have h4 := hO2.c3
  have hP : w2.cell? ⟨P, 0, none⟩ = some (.slice A l.length c) := HI2.out.row.cell (i := 0) (by omega)
  have hfP : w2.frozen? ⟨P, 0, none⟩ = false := HI2.out.row.free 0
  have HW2 := Lib.hid (HW.out.trans (HI.out.movedBelow hm))
  clear hm hO2 HI HA HOF HOB
  go_wp2_with fail
  have HX : Hid (∀ w3 v3, OwnB w3 w2.heap.size v3 m → Below w2.heap.size w2 w3 → ∃ A3 c3, v3 = .slice A3 m.length c3 ∧ w3.cell? ⟨P, 0, none⟩ = some (.slice A l.length c) ∧ w3.frozen? ⟨P, 0, none⟩ = false ∧ Hid (∀ W, Below w3.heap.size w3 W → DoRes N w B P l (.returned (.bool true)) (W.setCell ⟨P, 0, none⟩ (.slice A3 m.length c3)))) := Lib.hid fun w3 v3 ho3 hb3 => by
    obtain ⟨A3, c3, rfl, hy3, hc3, ha3⟩ := ho3.shape HBS.out.1 HBS.out.2.1
    have hI3 := HI2.out.below (w' := w3) hb3
    refine ⟨A3, c3, rfl, hI3.row.cell (i := 0) (by omega), hI3.row.free 0, Lib.hid fun W hW => ⟨rfl, m, g2, A3, c3, HI2.out.put (hb3.trans (hW.mono hb3.size)) (ho3.below hW) HBS.out.1 HBS.out.2.1, fun a ha => Nat.lt_of_lt_of_le (ha3 a ha).1 (by simpa using hW.size), HBS.out.2.2, HW2.out.trans (HI2.out.putBelow (hb3.trans (hW.mono hb3.size)))⟩⟩
  go_region_with (go_at_call 39; (refine (HR.out _ (HI2.out.below (Below.refl _ _).drew).bys).mono ?_); rintro e w3 ⟨v3, rfl, ho3, hb3⟩; obtain ⟨A3, c3, rfl, hP3, hfP3, HE⟩ := HX.out w3 v3 ho3 ((Below.refl w2.heap.size w2).drew.trans hb3); clear ho3 hb3)
  all_goals go_wp2_with fail
  all_goals go_ret
  all_goals exact HE.out _ (Below.refl _ _)

set_option maxHeartbeats 4000000 in
set_option maxRecDepth 100000 in
theorem do3_ok (N : Nat) (B P : Nat) (l : List Nat) (g : Option Nat) (A : Option Addr) (c : Nat) (n : Int) (x : Nat) (hx : x < 18446744073709551616) (D : Value) (w : World)
    (hD : ∃ Ad nd cd, D = .slice Ad nd cd) (h : Inv N w B P l l g A c) (hA : ∀ a, A = some a → a.block < w.heap.size) (hlen : l.length ≤ 400000) :
    Calls Try.prog 21 #[.pointer (some ⟨B, 0, none⟩), .pointer (some ⟨P, 0, none⟩), .agg #[.int .i64 3, .int .i64 n, .int .u64 (x : Int), D]] w fun e w' => DoRes N w B P l e w' := by
  obtain ⟨Ad, nd, cd, rfl⟩ := hD
  obtain ⟨z, hz⟩ : ∃ z : Int, z = (x : Int) := ⟨_, rfl⟩
  have hz0 : 0 ≤ z := by omega
  have hz1 : z < 18446744073709551616 := by omega
  have hA1 : Below w.heap.size w (w.alloc (.cells #[.int .i64 3, .int .i64 n, .int .u64 z, .slice Ad nd cd] 49)) := (Below.refl _ _).alloc (Nat.le_refl _) _
  have HI := Lib.hid (h.below hA1)
  have HOB := Lib.hid (OpBlk.new w 3 n z (.slice Ad nd cd))
  have HOF : Hid (¬ SB B g w.heap.size) := Lib.hid h.bld.off
  have HA : Hid (∀ a, A = some a → a.block < (w.alloc (.cells #[.int .i64 3, .int .i64 n, .int .u64 z, .slice Ad nd cd] 49)).heap.size) := Lib.hid fun a ha => Nat.lt_of_lt_of_le (hA a ha) hA1.size
  have HL := Lib.hid hlen
  have HW := Lib.hid (hA1.mono h.low)
  have hle : leB 8 (x) = leB 8 x := rfl
  have HC : Hid (∀ W, Bld W B g l → Calls Try.prog 24 #[.pointer (some ⟨B, 0, none⟩), .int .u64 (z)] W fun e w' => AddRes W B g (l ++ leB 8 x) e w') := Lib.hid fun W hb => by
    have := u64_ok B g l (x) (by omega) W hb (by omega)
    rw [hle] at this
    rw [hz]
    exact this
  have HR : Hid (∀ W, Bys W A l → Calls Try.prog 39 #[.slice A l.length c, .int .u64 z, .int .i64 8] W fun e w' => NewO W (l ++ leB 8 x) e w') := Lib.hid fun W hy => by
    rw [hz]
    exact rappend_ok A l c x hx 8 W hy (by omega) (by omega)
  have HBS : Hid (Bs (l ++ leB 8 x) ∧ (l ++ leB 8 x).length ≤ maxLen ∧ (l ++ leB 8 x).length ≤ l.length + 1000) := Lib.hid ⟨h.bys.2.1.append (leB_bs _ _), by rw [List.length_append, leB_len]; unfold maxLen; omega, by rw [List.length_append, leB_len]; omega⟩
  rw [← hz]
  generalize l ++ leB 8 x = m at HC HR HBS
  clear h hA hlen hz hle hA1 hx
  go_enter Try.func21, Try.ntmps21
  go_wp2_with fail
  refine (HC.out _ HI.out.bld).mono ?_
  rintro e w2 ⟨rfl, g2, hm⟩
  have HI2 := Lib.hid (HI.out.moved HA.out hm)
  have hO2 := HOB.out.turn hm.turn HOF.out
  have h1 := hO2.c0
  have h2 := hO2.c1
  have h3 := hO2.c2
  have h4 := hO2.c3
  have hP : w2.cell? ⟨P, 0, none⟩ = some (.slice A l.length c) := HI2.out.row.cell (i := 0) (by omega)
  have hfP : w2.frozen? ⟨P, 0, none⟩ = false := HI2.out.row.free 0
  have HW2 := Lib.hid (HW.out.trans (HI.out.movedBelow hm))
  clear hm hO2 HI HA HOF HOB
  go_wp2_with fail
  have HX : Hid (∀ w3 v3, OwnB w3 w2.heap.size v3 m → Below w2.heap.size w2 w3 → ∃ A3 c3, v3 = .slice A3 m.length c3 ∧ w3.cell? ⟨P, 0, none⟩ = some (.slice A l.length c) ∧ w3.frozen? ⟨P, 0, none⟩ = false ∧ Hid (∀ W, Below w3.heap.size w3 W → DoRes N w B P l (.returned (.bool true)) (W.setCell ⟨P, 0, none⟩ (.slice A3 m.length c3)))) := Lib.hid fun w3 v3 ho3 hb3 => by
    obtain ⟨A3, c3, rfl, hy3, hc3, ha3⟩ := ho3.shape HBS.out.1 HBS.out.2.1
    have hI3 := HI2.out.below (w' := w3) hb3
    refine ⟨A3, c3, rfl, hI3.row.cell (i := 0) (by omega), hI3.row.free 0, Lib.hid fun W hW => ⟨rfl, m, g2, A3, c3, HI2.out.put (hb3.trans (hW.mono hb3.size)) (ho3.below hW) HBS.out.1 HBS.out.2.1, fun a ha => Nat.lt_of_lt_of_le (ha3 a ha).1 (by simpa using hW.size), HBS.out.2.2, HW2.out.trans (HI2.out.putBelow (hb3.trans (hW.mono hb3.size)))⟩⟩
  go_region_with (go_at_call 39; (refine (HR.out _ (HI2.out.below (Below.refl _ _).drew).bys).mono ?_); rintro e w3 ⟨v3, rfl, ho3, hb3⟩; obtain ⟨A3, c3, rfl, hP3, hfP3, HE⟩ := HX.out w3 v3 ho3 ((Below.refl w2.heap.size w2).drew.trans hb3); clear ho3 hb3)
  all_goals go_wp2_with fail
  all_goals go_ret
  all_goals exact HE.out _ (Below.refl _ _)

end Go.Proofs.Ytajkneekehkhbaa
