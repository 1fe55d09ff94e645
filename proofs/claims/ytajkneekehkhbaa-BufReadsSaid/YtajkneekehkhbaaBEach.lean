/-
  Layer 3 (buf): numbers appended to a builder. By the verifier.
-/
import Derived.Test.YtajkneekehkhbaaBAdd
import Derived.Deep.LoopGhost
set_option linter.unusedVariables false
namespace Go.Proofs.Ytajkneekehkhbaa
open Go.RowKit

theorem AddRes.mono {w : World} {B : Nat} {g : Option Nat} {l l' : List Nat} (h : l = l') {e : Ending} {w' : World} (ha : AddRes w B g l e w') : AddRes w B g l' e w' := by rw [← h]; exact ha
theorem AddRes.pre {a b : World} {B : Nat} {g : Option Nat} {l : List Nat} (h : Below a.heap.size a b) {e : Ending} {w' : World} (ha : AddRes b B g l e w') : AddRes a B g l e w' := by
  obtain ⟨he, g', hm⟩ := ha
  exact ⟨he, g', hm.pre h⟩

theorem u8_ok (B : Nat) (g : Option Nat) (l : List Nat) (x : Nat) (hx : x < 256) (w : World) (hb : Bld w B g l) (hlen : l.length ≤ 900000) :
    Calls Try.prog 27 #[.pointer (some ⟨B, 0, none⟩), .int .u8 (x : Int)] w fun e w' => AddRes w B g (l ++ leB 1 x) e w' := by
  have he : leB 1 x = [x] := by rw [leB_succ, Nat.mod_eq_of_lt hx]; rfl
  have hA : Below w.heap.size w (w.alloc (.cells #[.int .u8 (x : Int)] 5)) := (Below.refl _ _).alloc (Nat.le_refl _) _
  have hy : Bys (w.alloc (.cells #[.int .u8 (x : Int)] 5)) (some ⟨w.heap.size, 0, none⟩) [x] := bys_lit w _ _ _ rfl (by intro y hy; simp at hy; omega) (by unfold maxLen; simp)
  have HC := Lib.hid (add_ok B g l (some ⟨w.heap.size, 0, none⟩) [x] 1 _ (hb.below hA) hy (by simp; omega))
  have HA := Lib.hid hA
  rw [he]
  clear hb hlen hA hy he
  obtain ⟨y, hye⟩ : ∃ y : Int, y = (x : Int) := ⟨_, rfl⟩
  rw [← hye] at HC HA ⊢
  clear hye hx
  go_enter Try.func27, Try.ntmps27
  go_wp2_with fail
  refine HC.out.mono ?_
  rintro e w1 ⟨rfl, hm⟩
  go_wp2_with fail
  go_end0
  exact AddRes.pre HA.out ⟨rfl, hm⟩

set_option maxHeartbeats 1000000 in
theorem each8_ok (B : Nat) (g : Option Nat) (l : List Nat) (x y : Nat) (hx : x < 256) (hy : y < 256) (w : World) (hb : Bld w B g l) (hlen : l.length ≤ 890000)
    (b : Nat) (h0 : w.cell? ⟨b, 0, none⟩ = some (.int .u8 (x : Int))) (h1 : w.cell? ⟨b, 1, none⟩ = some (.int .u8 (y : Int))) (hbl : b < w.heap.size) (hne : ¬ SB B g b) :
    Calls Try.prog 45 #[.pointer (some ⟨B, 0, none⟩), .func (.func 27) #[] #[], .slice (some ⟨b, 0, none⟩) 2 2] w fun e w' => AddRes w B g (l ++ leB 1 x ++ leB 1 y) e w' := by
  have HB := Lib.hid hb
  have H0 : Hid (∀ (w' : World) (g' : Option Nat) (l' : List Nat), Moved w w' B g g' l' → w'.cell? ⟨b, 0, none⟩ = some (.int .u8 (x : Int)) ∧ w'.cell? ⟨b, 1, none⟩ = some (.int .u8 (y : Int))) := Lib.hid fun w' g' l' hm => by
    have hbk := hm.turn.block b hbl hne
    exact ⟨(World.cell?_of_block (w := w) (a := ⟨b, 0, none⟩) hbk).trans h0, (World.cell?_of_block (w := w) (a := ⟨b, 1, none⟩) hbk).trans h1⟩
  have HX := Lib.hid (And.intro hx hy)
  clear hb h0 h1 hx hy hne
  go_enter Try.func45, Try.ntmps45
  go_wp2_with fail
  go_loopw [10] (fun i wr => (i = .int .i64 0 ∧ wr = w) ∨ (i = .int .i64 1 ∧ Hid (∃ g', Moved w wr B g g' (l ++ leB 1 x))) ∨ (i = .int .i64 2 ∧ Hid (∃ g', Moved w wr B g g' (l ++ leB 1 x ++ leB 1 y)))) (fun i _ => 2 - (intOf i).toNat)
  case atStart => exact .inl ⟨rfl, rfl⟩
  case round =>
    rcases hrel with ⟨rfl, rfl⟩ | ⟨rfl, hm⟩ | ⟨rfl, hm⟩
    · obtain ⟨c0, c1⟩ := H0.out _ _ _ (Moved.refl HB.out)
      go_wp2_with fail
      refine (u8_ok B g l x HX.out.1 _ HB.out (by omega)).mono ?_
      rintro e w1 ⟨rfl, hm⟩
      have HM := Lib.hid hm
      clear hm c0 c1
      go_wp2_with fail
      go_roundw
      case rel => exact .inr (.inl ⟨rfl, HM⟩)
      case measure => simp [intOf]
    · obtain ⟨g1, hm⟩ := hm.out
      obtain ⟨c0, c1⟩ := H0.out _ _ _ hm
      have HM := Lib.hid hm
      clear hm
      go_wp2_with fail
      refine (u8_ok B g1 _ y HX.out.2 _ HM.out.bld (by rw [List.length_append, leB_len]; omega)).mono ?_
      rintro e w1 ⟨rfl, g2, hm2⟩
      have HM2 := Lib.hid (HM.out.trans hm2)
      clear hm2 c0 c1
      go_wp2_with fail
      go_roundw
      case rel => exact .inr (.inr ⟨rfl, Lib.hid ⟨_, HM2.out⟩⟩)
      case measure => simp [intOf]
    · go_wp2_with fail
      go_end0
      exact ⟨rfl, hm.out⟩

set_option maxHeartbeats 1000000 in
theorem u16_ok (B : Nat) (g : Option Nat) (l : List Nat) (x : Nat) (hx : x < 65536) (w : World) (hb : Bld w B g l) (hlen : l.length ≤ 880000) :
    Calls Try.prog 26 #[.pointer (some ⟨B, 0, none⟩), .int .u16 (x : Int)] w fun e w' => AddRes w B g (l ++ leB 2 x) e w' := by
  have he : leB 2 x = leB 1 (x % 256) ++ leB 1 (x / 256 % 256) := by
    have e1 := leB_add 1 1 x
    have e2 := leB_mod 1 1 x (Nat.le_refl _)
    have e3 := leB_mod 1 1 (x / 256) (Nat.le_refl _)
    have hp : 256 ^ 1 = 256 := by decide
    rw [hp] at e1 e2 e3
    rw [e2, e3]
    exact e1
  have hq : x / 256 % 256 = x / 256 := Nat.mod_eq_of_lt (by omega)
  have HC : Hid (∀ z0 z1 : Int, z0 = ((x % 256 : Nat) : Int) → z1 = ((x / 256 : Nat) : Int) → Calls Try.prog 45 #[.pointer (some ⟨B, 0, none⟩), .func (.func 27) #[] #[], .slice (some ⟨w.heap.size, 0, none⟩) 2 2] (w.alloc (.cells #[.int .u8 z0, .int .u8 z1] 5)) (AddRes w B g (l ++ leB 2 x))) := Lib.hid fun z0 z1 h0 h1 => by
    subst h0 h1
    have hA : Below w.heap.size w (w.alloc (.cells #[.int .u8 ((x % 256 : Nat) : Int), .int .u8 ((x / 256 : Nat) : Int)] 5)) := (Below.refl _ _).alloc (Nat.le_refl _) _
    have hn : ¬ SB B g w.heap.size := by
      rintro (h | h)
      · have := hb.lt.1; omega
      · have := hb.lt.2 _ h; omega
    rw [he, hq, ← List.append_assoc]
    refine (each8_ok B g l (x % 256) (x / 256) (Nat.mod_lt _ (by omega)) (by omega) _ (hb.below hA) (by omega) w.heap.size ?_ ?_ (by simp) hn).mono fun e w' h => AddRes.pre hA h
    · rw [cell_of_row _ _ _ _ _ _ (heap_alloc_new w _)]; rfl
    · rw [cell_of_row _ _ _ _ _ _ (heap_alloc_new w _)]; rfl
  obtain ⟨y, hye⟩ : ∃ y : Int, y = (x : Int) := ⟨_, rfl⟩
  have HC2 := Lib.hid (HC.out (y % 256) (y / 256) (by rw [hye]; rfl) (by rw [hye]; rfl))
  have hy0 : 0 ≤ y := by omega
  have hy1 : y < 65536 := by omega
  rw [← hye]
  clear hb hlen he hq HC hx hye
  go_enter Try.func26, Try.ntmps26
  go_wp2_with fail
  refine HC2.out.mono ?_
  rintro e w1 ⟨rfl, hm⟩
  go_wp2_with fail
  go_end0
  exact ⟨rfl, hm⟩

set_option maxHeartbeats 1000000 in
theorem each16_ok (B : Nat) (g : Option Nat) (l : List Nat) (x y : Nat) (hx : x < 65536) (hy : y < 65536) (w : World) (hb : Bld w B g l) (hlen : l.length ≤ 870000)
    (b : Nat) (h0 : w.cell? ⟨b, 0, none⟩ = some (.int .u16 (x : Int))) (h1 : w.cell? ⟨b, 1, none⟩ = some (.int .u16 (y : Int))) (hbl : b < w.heap.size) (hne : ¬ SB B g b) :
    Calls Try.prog 44 #[.pointer (some ⟨B, 0, none⟩), .func (.func 26) #[] #[], .slice (some ⟨b, 0, none⟩) 2 2] w fun e w' => AddRes w B g (l ++ leB 2 x ++ leB 2 y) e w' := by
  have HB := Lib.hid hb
  have H0 : Hid (∀ (w' : World) (g' : Option Nat) (l' : List Nat), Moved w w' B g g' l' → w'.cell? ⟨b, 0, none⟩ = some (.int .u16 (x : Int)) ∧ w'.cell? ⟨b, 1, none⟩ = some (.int .u16 (y : Int))) := Lib.hid fun w' g' l' hm => by
    have hbk := hm.turn.block b hbl hne
    exact ⟨(World.cell?_of_block (w := w) (a := ⟨b, 0, none⟩) hbk).trans h0, (World.cell?_of_block (w := w) (a := ⟨b, 1, none⟩) hbk).trans h1⟩
  have HX := Lib.hid (And.intro hx hy)
  clear hb h0 h1 hx hy hne
  go_enter Try.func44, Try.ntmps44
  go_wp2_with fail
  go_loopw [10] (fun i wr => (i = .int .i64 0 ∧ wr = w) ∨ (i = .int .i64 1 ∧ Hid (∃ g', Moved w wr B g g' (l ++ leB 2 x))) ∨ (i = .int .i64 2 ∧ Hid (∃ g', Moved w wr B g g' (l ++ leB 2 x ++ leB 2 y)))) (fun i _ => 2 - (intOf i).toNat)
  case atStart => exact .inl ⟨rfl, rfl⟩
  case round =>
    rcases hrel with ⟨rfl, rfl⟩ | ⟨rfl, hm⟩ | ⟨rfl, hm⟩
    · obtain ⟨c0, c1⟩ := H0.out _ _ _ (Moved.refl HB.out)
      go_wp2_with fail
      refine (u16_ok B g l x HX.out.1 _ HB.out (by omega)).mono ?_
      rintro e w1 ⟨rfl, hm⟩
      have HM := Lib.hid hm
      clear hm c0 c1
      go_wp2_with fail
      go_roundw
      case rel => exact .inr (.inl ⟨rfl, HM⟩)
      case measure => simp [intOf]
    · obtain ⟨g1, hm⟩ := hm.out
      obtain ⟨c0, c1⟩ := H0.out _ _ _ hm
      have HM := Lib.hid hm
      clear hm
      go_wp2_with fail
      refine (u16_ok B g1 _ y HX.out.2 _ HM.out.bld (by rw [List.length_append, leB_len]; omega)).mono ?_
      rintro e w1 ⟨rfl, g2, hm2⟩
      have HM2 := Lib.hid (HM.out.trans hm2)
      clear hm2 c0 c1
      go_wp2_with fail
      go_roundw
      case rel => exact .inr (.inr ⟨rfl, Lib.hid ⟨_, HM2.out⟩⟩)
      case measure => simp [intOf]
    · go_wp2_with fail
      go_end0
      exact ⟨rfl, hm.out⟩

set_option maxHeartbeats 1000000 in
theorem u32_ok (B : Nat) (g : Option Nat) (l : List Nat) (x : Nat) (hx : x < 4294967296) (w : World) (hb : Bld w B g l) (hlen : l.length ≤ 860000) :
    Calls Try.prog 25 #[.pointer (some ⟨B, 0, none⟩), .int .u32 (x : Int)] w fun e w' => AddRes w B g (l ++ leB 4 x) e w' := by
  have he : leB 4 x = leB 2 (x % 65536) ++ leB 2 (x / 65536 % 65536) := by
    have e1 := leB_add 2 2 x
    have e2 := leB_mod 2 2 x (Nat.le_refl _)
    have e3 := leB_mod 2 2 (x / 65536) (Nat.le_refl _)
    have hp : 256 ^ 2 = 65536 := by decide
    rw [hp] at e1 e2 e3
    rw [e2, e3]
    exact e1
  have hq : x / 65536 % 65536 = x / 65536 := Nat.mod_eq_of_lt (by omega)
  have HC : Hid (∀ z0 z1 : Int, z0 = ((x % 65536 : Nat) : Int) → z1 = ((x / 65536 : Nat) : Int) → Calls Try.prog 44 #[.pointer (some ⟨B, 0, none⟩), .func (.func 26) #[] #[], .slice (some ⟨w.heap.size, 0, none⟩) 2 2] (w.alloc (.cells #[.int .u16 z0, .int .u16 z1] 27)) (AddRes w B g (l ++ leB 4 x))) := Lib.hid fun z0 z1 h0 h1 => by
    subst h0 h1
    have hA : Below w.heap.size w (w.alloc (.cells #[.int .u16 ((x % 65536 : Nat) : Int), .int .u16 ((x / 65536 : Nat) : Int)] 27)) := (Below.refl _ _).alloc (Nat.le_refl _) _
    have hn : ¬ SB B g w.heap.size := by
      rintro (h | h)
      · have := hb.lt.1; omega
      · have := hb.lt.2 _ h; omega
    rw [he, hq, ← List.append_assoc]
    refine (each16_ok B g l (x % 65536) (x / 65536) (Nat.mod_lt _ (by omega)) (by omega) _ (hb.below hA) (by omega) w.heap.size ?_ ?_ (by simp) hn).mono fun e w' h => AddRes.pre hA h
    · rw [cell_of_row _ _ _ _ _ _ (heap_alloc_new w _)]; rfl
    · rw [cell_of_row _ _ _ _ _ _ (heap_alloc_new w _)]; rfl
  obtain ⟨y, hye⟩ : ∃ y : Int, y = (x : Int) := ⟨_, rfl⟩
  have HC2 := Lib.hid (HC.out (y % 65536) (y / 65536) (by rw [hye]; rfl) (by rw [hye]; rfl))
  have hy0 : 0 ≤ y := by omega
  have hy1 : y < 4294967296 := by omega
  rw [← hye]
  clear hb hlen he hq HC hx hye
  go_enter Try.func25, Try.ntmps25
  go_wp2_with fail
  refine HC2.out.mono ?_
  rintro e w1 ⟨rfl, hm⟩
  go_wp2_with fail
  go_end0
  exact ⟨rfl, hm⟩

set_option maxHeartbeats 1000000 in
theorem each32_ok (B : Nat) (g : Option Nat) (l : List Nat) (x y : Nat) (hx : x < 4294967296) (hy : y < 4294967296) (w : World) (hb : Bld w B g l) (hlen : l.length ≤ 850000)
    (b : Nat) (h0 : w.cell? ⟨b, 0, none⟩ = some (.int .u32 (x : Int))) (h1 : w.cell? ⟨b, 1, none⟩ = some (.int .u32 (y : Int))) (hbl : b < w.heap.size) (hne : ¬ SB B g b) :
    Calls Try.prog 43 #[.pointer (some ⟨B, 0, none⟩), .func (.func 25) #[] #[], .slice (some ⟨b, 0, none⟩) 2 2] w fun e w' => AddRes w B g (l ++ leB 4 x ++ leB 4 y) e w' := by
  have HB := Lib.hid hb
  have H0 : Hid (∀ (w' : World) (g' : Option Nat) (l' : List Nat), Moved w w' B g g' l' → w'.cell? ⟨b, 0, none⟩ = some (.int .u32 (x : Int)) ∧ w'.cell? ⟨b, 1, none⟩ = some (.int .u32 (y : Int))) := Lib.hid fun w' g' l' hm => by
    have hbk := hm.turn.block b hbl hne
    exact ⟨(World.cell?_of_block (w := w) (a := ⟨b, 0, none⟩) hbk).trans h0, (World.cell?_of_block (w := w) (a := ⟨b, 1, none⟩) hbk).trans h1⟩
  have HX := Lib.hid (And.intro hx hy)
  clear hb h0 h1 hx hy hne
  go_enter Try.func43, Try.ntmps43
  go_wp2_with fail
  go_loopw [10] (fun i wr => (i = .int .i64 0 ∧ wr = w) ∨ (i = .int .i64 1 ∧ Hid (∃ g', Moved w wr B g g' (l ++ leB 4 x))) ∨ (i = .int .i64 2 ∧ Hid (∃ g', Moved w wr B g g' (l ++ leB 4 x ++ leB 4 y)))) (fun i _ => 2 - (intOf i).toNat)
  case atStart => exact .inl ⟨rfl, rfl⟩
  case round =>
    rcases hrel with ⟨rfl, rfl⟩ | ⟨rfl, hm⟩ | ⟨rfl, hm⟩
    · obtain ⟨c0, c1⟩ := H0.out _ _ _ (Moved.refl HB.out)
      go_wp2_with fail
      refine (u32_ok B g l x HX.out.1 _ HB.out (by omega)).mono ?_
      rintro e w1 ⟨rfl, hm⟩
      have HM := Lib.hid hm
      clear hm c0 c1
      go_wp2_with fail
      go_roundw
      case rel => exact .inr (.inl ⟨rfl, HM⟩)
      case measure => simp [intOf]
    · obtain ⟨g1, hm⟩ := hm.out
      obtain ⟨c0, c1⟩ := H0.out _ _ _ hm
      have HM := Lib.hid hm
      clear hm
      go_wp2_with fail
      refine (u32_ok B g1 _ y HX.out.2 _ HM.out.bld (by rw [List.length_append, leB_len]; omega)).mono ?_
      rintro e w1 ⟨rfl, g2, hm2⟩
      have HM2 := Lib.hid (HM.out.trans hm2)
      clear hm2 c0 c1
      go_wp2_with fail
      go_roundw
      case rel => exact .inr (.inr ⟨rfl, Lib.hid ⟨_, HM2.out⟩⟩)
      case measure => simp [intOf]
    · go_wp2_with fail
      go_end0
      exact ⟨rfl, hm.out⟩

set_option maxHeartbeats 1000000 in
theorem u64_ok (B : Nat) (g : Option Nat) (l : List Nat) (x : Nat) (hx : x < 18446744073709551616) (w : World) (hb : Bld w B g l) (hlen : l.length ≤ 840000) :
    Calls Try.prog 24 #[.pointer (some ⟨B, 0, none⟩), .int .u64 (x : Int)] w fun e w' => AddRes w B g (l ++ leB 8 x) e w' := by
  have he : leB 8 x = leB 4 (x % 4294967296) ++ leB 4 (x / 4294967296 % 4294967296) := by
    have e1 := leB_add 4 4 x
    have e2 := leB_mod 4 4 x (Nat.le_refl _)
    have e3 := leB_mod 4 4 (x / 4294967296) (Nat.le_refl _)
    have hp : 256 ^ 4 = 4294967296 := by decide
    rw [hp] at e1 e2 e3
    rw [e2, e3]
    exact e1
  have hq : x / 4294967296 % 4294967296 = x / 4294967296 := Nat.mod_eq_of_lt (by omega)
  have HC : Hid (∀ z0 z1 : Int, z0 = ((x % 4294967296 : Nat) : Int) → z1 = ((x / 4294967296 : Nat) : Int) → Calls Try.prog 43 #[.pointer (some ⟨B, 0, none⟩), .func (.func 25) #[] #[], .slice (some ⟨w.heap.size, 0, none⟩) 2 2] (w.alloc (.cells #[.int .u32 z0, .int .u32 z1] 30)) (AddRes w B g (l ++ leB 8 x))) := Lib.hid fun z0 z1 h0 h1 => by
    subst h0 h1
    have hA : Below w.heap.size w (w.alloc (.cells #[.int .u32 ((x % 4294967296 : Nat) : Int), .int .u32 ((x / 4294967296 : Nat) : Int)] 30)) := (Below.refl _ _).alloc (Nat.le_refl _) _
    have hn : ¬ SB B g w.heap.size := by
      rintro (h | h)
      · have := hb.lt.1; omega
      · have := hb.lt.2 _ h; omega
    rw [he, hq, ← List.append_assoc]
    refine (each32_ok B g l (x % 4294967296) (x / 4294967296) (Nat.mod_lt _ (by omega)) (by omega) _ (hb.below hA) (by omega) w.heap.size ?_ ?_ (by simp) hn).mono fun e w' h => AddRes.pre hA h
    · rw [cell_of_row _ _ _ _ _ _ (heap_alloc_new w _)]; rfl
    · rw [cell_of_row _ _ _ _ _ _ (heap_alloc_new w _)]; rfl
  obtain ⟨y, hye⟩ : ∃ y : Int, y = (x : Int) := ⟨_, rfl⟩
  have HC2 := Lib.hid (HC.out (y % 4294967296) (y / 4294967296) (by rw [hye]; rfl) (by rw [hye]; rfl))
  have hy0 : 0 ≤ y := by omega
  have hy1 : y < 18446744073709551616 := by omega
  rw [← hye]
  clear hb hlen he hq HC hx hye
  go_enter Try.func24, Try.ntmps24
  go_wp2_with fail
  refine HC2.out.mono ?_
  rintro e w1 ⟨rfl, hm⟩
  go_wp2_with fail
  go_end0
  exact ⟨rfl, hm⟩

end Go.Proofs.Ytajkneekehkhbaa
