/-
  Layer 3 (buf): the methods of a nil builder that append; what bytes written over leave. By the verifier.
-/
import Derived.Test.YtajkneekehkhbaaBSpoil
import Derived.Deep.LoopGhost
set_option linter.unusedVariables false
namespace Go.Proofs.Ytajkneekehkhbaa
open Go.RowKit

theorem Spoil.own {w0 wr : World} {v v' : Value} {n base : Nat} {l : List Nat} (hs : Spoil w0 wr v n) (h : OwnB w0 base v' l) (hne : ∀ k, v'.ownBlock = some k → v.ownBlock ≠ some k) : OwnB wr base v' l := by
  obtain ⟨S, -, -, -, ht⟩ := hs
  exact ht.own h hne
theorem Spoil.bld {w0 wr : World} {v : Value} {n B : Nat} {g : Option Nat} {l : List Nat} (hs : Spoil w0 wr v n) (h : Bld w0 B g l) (h1 : v.ownBlock ≠ some B) (h2 : ∀ k, g = some k → v.ownBlock ≠ some k) : Bld wr B g l := by
  obtain ⟨S, -, -, -, ht⟩ := hs
  exact h.turn ht h1 h2
theorem Spoil.below {w0 wr : World} {v : Value} {n N : Nat} (hs : Spoil w0 wr v n) (hN : ∀ k, v.ownBlock = some k → N ≤ k) (h : N ≤ w0.heap.size) : Below N w0 wr := by
  obtain ⟨S, -, -, -, ht⟩ := hs
  exact ht.below hN h

set_option maxHeartbeats 1000000 in
theorem each8_nil (x y : Int) (w : World) (b : Nat) (h0 : w.cell? ⟨b, 0, none⟩ = some (.int .u8 x)) (h1 : w.cell? ⟨b, 1, none⟩ = some (.int .u8 y)) (hbl : b < w.heap.size) :
    Calls Try.prog 45 #[.pointer none, .func (.func 27) #[] #[], .slice (some ⟨b, 0, none⟩) 2 2] w fun e w' => e = .returned (.tuple #[]) ∧ Below w.heap.size w w' := by
  have H0 : Hid (∀ (w' : World), Below w.heap.size w w' → w'.cell? ⟨b, 0, none⟩ = some (.int .u8 x) ∧ w'.cell? ⟨b, 1, none⟩ = some (.int .u8 y)) := Lib.hid fun w' hm => by
    exact ⟨(bcell hm b 0 hbl).trans h0, (bcell hm b 1 hbl).trans h1⟩
  clear h0 h1
  go_enter Try.func45, Try.ntmps45
  go_wp2_with fail
  go_loopw [10] (fun i wr => (i = .int .i64 0 ∨ i = .int .i64 1 ∨ i = .int .i64 2) ∧ Below w.heap.size w wr) (fun i _ => 2 - (intOf i).toNat)
  case atStart => exact ⟨.inl rfl, Below.refl _ _⟩
  case round =>
    obtain ⟨hi, hb⟩ := hrel
    obtain ⟨c0, c1⟩ := H0.out _ hb
    rcases hi with rfl | rfl | rfl
    · go_wp2_with fail
      refine (u8_nil x _).mono ?_
      rintro e w1 ⟨rfl, hm⟩
      have HM := Lib.hid (hb.trans (hm.mono hb.size))
      clear hm c0 c1 hb
      go_wp2_with fail
      go_roundw
      case rel => exact ⟨.inr (.inl rfl), HM.out⟩
      case measure => simp [intOf]
    · go_wp2_with fail
      refine (u8_nil y _).mono ?_
      rintro e w1 ⟨rfl, hm⟩
      have HM := Lib.hid (hb.trans (hm.mono hb.size))
      clear hm c0 c1 hb
      go_wp2_with fail
      go_roundw
      case rel => exact ⟨.inr (.inr rfl), HM.out⟩
      case measure => simp [intOf]
    · go_wp2_with fail
      go_end0
      exact ⟨rfl, hb⟩

set_option maxHeartbeats 1000000 in
theorem u16_nil (x : Int) (w : World) :
    Calls Try.prog 26 #[.pointer none, .int .u16 x] w fun e w' => e = .returned (.tuple #[]) ∧ Below w.heap.size w w' := by
  have HC : Hid (∀ z0 z1 : Int, Calls Try.prog 45 #[.pointer none, .func (.func 27) #[] #[], .slice (some ⟨w.heap.size, 0, none⟩) 2 2] (w.alloc (.cells #[.int .u8 z0, .int .u8 z1] 5)) (fun e w' => e = .returned (.tuple #[]) ∧ Below w.heap.size w w')) := Lib.hid fun z0 z1 => by
    have hA : Below w.heap.size w (w.alloc (.cells #[.int .u8 z0, .int .u8 z1] 5)) := (Below.refl _ _).alloc (Nat.le_refl _) _
    refine (each8_nil z0 z1 _ w.heap.size ?_ ?_ (by simp)).mono fun e w' h => ⟨h.1, hA.trans (h.2.mono hA.size)⟩
    · rw [cell_of_row _ _ _ _ _ _ (heap_alloc_new w _)]; rfl
    · rw [cell_of_row _ _ _ _ _ _ (heap_alloc_new w _)]; rfl
  go_enter Try.func26, Try.ntmps26
  go_wp2_with fail
  refine (HC.out _ _).mono ?_
  rintro e w1 ⟨rfl, hm⟩
  go_wp2_with fail
  go_end0
  exact ⟨rfl, hm⟩

set_option maxHeartbeats 1000000 in
theorem each16_nil (x y : Int) (w : World) (b : Nat) (h0 : w.cell? ⟨b, 0, none⟩ = some (.int .u16 x)) (h1 : w.cell? ⟨b, 1, none⟩ = some (.int .u16 y)) (hbl : b < w.heap.size) :
    Calls Try.prog 44 #[.pointer none, .func (.func 26) #[] #[], .slice (some ⟨b, 0, none⟩) 2 2] w fun e w' => e = .returned (.tuple #[]) ∧ Below w.heap.size w w' := by
  have H0 : Hid (∀ (w' : World), Below w.heap.size w w' → w'.cell? ⟨b, 0, none⟩ = some (.int .u16 x) ∧ w'.cell? ⟨b, 1, none⟩ = some (.int .u16 y)) := Lib.hid fun w' hm => by
    exact ⟨(bcell hm b 0 hbl).trans h0, (bcell hm b 1 hbl).trans h1⟩
  clear h0 h1
  go_enter Try.func44, Try.ntmps44
  go_wp2_with fail
  go_loopw [10] (fun i wr => (i = .int .i64 0 ∨ i = .int .i64 1 ∨ i = .int .i64 2) ∧ Below w.heap.size w wr) (fun i _ => 2 - (intOf i).toNat)
  case atStart => exact ⟨.inl rfl, Below.refl _ _⟩
  case round =>
    obtain ⟨hi, hb⟩ := hrel
    obtain ⟨c0, c1⟩ := H0.out _ hb
    rcases hi with rfl | rfl | rfl
    · go_wp2_with fail
      refine (u16_nil x _).mono ?_
      rintro e w1 ⟨rfl, hm⟩
      have HM := Lib.hid (hb.trans (hm.mono hb.size))
      clear hm c0 c1 hb
      go_wp2_with fail
      go_roundw
      case rel => exact ⟨.inr (.inl rfl), HM.out⟩
      case measure => simp [intOf]
    · go_wp2_with fail
      refine (u16_nil y _).mono ?_
      rintro e w1 ⟨rfl, hm⟩
      have HM := Lib.hid (hb.trans (hm.mono hb.size))
      clear hm c0 c1 hb
      go_wp2_with fail
      go_roundw
      case rel => exact ⟨.inr (.inr rfl), HM.out⟩
      case measure => simp [intOf]
    · go_wp2_with fail
      go_end0
      exact ⟨rfl, hb⟩

set_option maxHeartbeats 1000000 in
theorem u32_nil (x : Int) (w : World) :
    Calls Try.prog 25 #[.pointer none, .int .u32 x] w fun e w' => e = .returned (.tuple #[]) ∧ Below w.heap.size w w' := by
  have HC : Hid (∀ z0 z1 : Int, Calls Try.prog 44 #[.pointer none, .func (.func 26) #[] #[], .slice (some ⟨w.heap.size, 0, none⟩) 2 2] (w.alloc (.cells #[.int .u16 z0, .int .u16 z1] 27)) (fun e w' => e = .returned (.tuple #[]) ∧ Below w.heap.size w w')) := Lib.hid fun z0 z1 => by
    have hA : Below w.heap.size w (w.alloc (.cells #[.int .u16 z0, .int .u16 z1] 27)) := (Below.refl _ _).alloc (Nat.le_refl _) _
    refine (each16_nil z0 z1 _ w.heap.size ?_ ?_ (by simp)).mono fun e w' h => ⟨h.1, hA.trans (h.2.mono hA.size)⟩
    · rw [cell_of_row _ _ _ _ _ _ (heap_alloc_new w _)]; rfl
    · rw [cell_of_row _ _ _ _ _ _ (heap_alloc_new w _)]; rfl
  go_enter Try.func25, Try.ntmps25
  go_wp2_with fail
  refine (HC.out _ _).mono ?_
  rintro e w1 ⟨rfl, hm⟩
  go_wp2_with fail
  go_end0
  exact ⟨rfl, hm⟩

set_option maxHeartbeats 1000000 in
theorem each32_nil (x y : Int) (w : World) (b : Nat) (h0 : w.cell? ⟨b, 0, none⟩ = some (.int .u32 x)) (h1 : w.cell? ⟨b, 1, none⟩ = some (.int .u32 y)) (hbl : b < w.heap.size) :
    Calls Try.prog 43 #[.pointer none, .func (.func 25) #[] #[], .slice (some ⟨b, 0, none⟩) 2 2] w fun e w' => e = .returned (.tuple #[]) ∧ Below w.heap.size w w' := by
  have H0 : Hid (∀ (w' : World), Below w.heap.size w w' → w'.cell? ⟨b, 0, none⟩ = some (.int .u32 x) ∧ w'.cell? ⟨b, 1, none⟩ = some (.int .u32 y)) := Lib.hid fun w' hm => by
    exact ⟨(bcell hm b 0 hbl).trans h0, (bcell hm b 1 hbl).trans h1⟩
  clear h0 h1
  go_enter Try.func43, Try.ntmps43
  go_wp2_with fail
  go_loopw [10] (fun i wr => (i = .int .i64 0 ∨ i = .int .i64 1 ∨ i = .int .i64 2) ∧ Below w.heap.size w wr) (fun i _ => 2 - (intOf i).toNat)
  case atStart => exact ⟨.inl rfl, Below.refl _ _⟩
  case round =>
    obtain ⟨hi, hb⟩ := hrel
    obtain ⟨c0, c1⟩ := H0.out _ hb
    rcases hi with rfl | rfl | rfl
    · go_wp2_with fail
      refine (u32_nil x _).mono ?_
      rintro e w1 ⟨rfl, hm⟩
      have HM := Lib.hid (hb.trans (hm.mono hb.size))
      clear hm c0 c1 hb
      go_wp2_with fail
      go_roundw
      case rel => exact ⟨.inr (.inl rfl), HM.out⟩
      case measure => simp [intOf]
    · go_wp2_with fail
      refine (u32_nil y _).mono ?_
      rintro e w1 ⟨rfl, hm⟩
      have HM := Lib.hid (hb.trans (hm.mono hb.size))
      clear hm c0 c1 hb
      go_wp2_with fail
      go_roundw
      case rel => exact ⟨.inr (.inr rfl), HM.out⟩
      case measure => simp [intOf]
    · go_wp2_with fail
      go_end0
      exact ⟨rfl, hb⟩

set_option maxHeartbeats 1000000 in
theorem u64_nil (x : Int) (w : World) :
    Calls Try.prog 24 #[.pointer none, .int .u64 x] w fun e w' => e = .returned (.tuple #[]) ∧ Below w.heap.size w w' := by
  have HC : Hid (∀ z0 z1 : Int, Calls Try.prog 43 #[.pointer none, .func (.func 25) #[] #[], .slice (some ⟨w.heap.size, 0, none⟩) 2 2] (w.alloc (.cells #[.int .u32 z0, .int .u32 z1] 30)) (fun e w' => e = .returned (.tuple #[]) ∧ Below w.heap.size w w')) := Lib.hid fun z0 z1 => by
    have hA : Below w.heap.size w (w.alloc (.cells #[.int .u32 z0, .int .u32 z1] 30)) := (Below.refl _ _).alloc (Nat.le_refl _) _
    refine (each32_nil z0 z1 _ w.heap.size ?_ ?_ (by simp)).mono fun e w' h => ⟨h.1, hA.trans (h.2.mono hA.size)⟩
    · rw [cell_of_row _ _ _ _ _ _ (heap_alloc_new w _)]; rfl
    · rw [cell_of_row _ _ _ _ _ _ (heap_alloc_new w _)]; rfl
  go_enter Try.func24, Try.ntmps24
  go_wp2_with fail
  refine (HC.out _ _).mono ?_
  rintro e w1 ⟨rfl, hm⟩
  go_wp2_with fail
  go_end0
  exact ⟨rfl, hm⟩

end Go.Proofs.Ytajkneekehkhbaa
