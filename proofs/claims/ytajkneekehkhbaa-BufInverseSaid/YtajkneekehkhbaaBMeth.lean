/-
  Layer 3 (buf): Len, Bytes, the methods of a nil builder, and Part. By the verifier.
-/
import Derived.Test.YtajkneekehkhbaaBEach
import Derived.Deep.LoopGhost
set_option linter.unusedVariables false
namespace Go.Proofs.Ytajkneekehkhbaa
open Go.RowKit

theorem len_ok (B : Nat) (g : Option Nat) (l : List Nat) (w : World) (hb : Bld w B g l) (hlen : l.length ≤ 1000000) :
    Calls Try.prog 22 #[.pointer (some ⟨B, 0, none⟩)] w fun e w' => e = .returned (.int .i64 (l.length : Int)) ∧ w = w' := by
  obtain ⟨A, c, -, -, hcell, -⟩ := hb.cell (by unfold maxLen; omega)
  clear hb
  go_enter Try.func22, Try.ntmps22
  go_wp2_with fail
  go_ret
  exact ⟨rfl, rfl⟩

theorem len_nil (w : World) :
    Calls Try.prog 22 #[.pointer none] w fun e w' => e = .returned (.int .i64 0) ∧ w = w' := by
  go_enter Try.func22, Try.ntmps22
  go_wp2_with fail
  go_ret
  exact ⟨rfl, rfl⟩

theorem bytes_ok (B : Nat) (g : Option Nat) (l : List Nat) (w : World) (hb : Bld w B g l) (hlen : l.length ≤ 100000) :
    Calls Try.prog 23 #[.pointer (some ⟨B, 0, none⟩)] w fun e w' => NewO w l e w' := by
  obtain ⟨A, c, -, -, hcell, -, hy, -⟩ := hb.cell (by unfold maxLen; omega)
  have HC := Lib.hid (cloneb_ok A l c w hy hlen)
  clear hb hy
  go_enter Try.func23, Try.ntmps23
  go_wp2_with fail
  refine HC.out.mono ?_
  rintro e w1 ⟨v, rfl, h⟩
  have H := Lib.hid h
  clear h
  go_wp2_with fail
  go_ret
  exact ⟨v, rfl, H.out⟩

theorem bytes_nil (w : World) :
    Calls Try.prog 23 #[.pointer none] w fun e w' => e = .returned (.slice none 0 0) ∧ w = w' := by
  go_enter Try.func23, Try.ntmps23
  go_wp2_with fail
  go_ret
  exact ⟨rfl, rfl⟩

theorem zeros_nil (n : Int) (w : World) :
    Calls Try.prog 29 #[.pointer none, .int .i64 n] w fun e w' => e = .returned (.bool false) ∧ w = w' := by
  go_enter Try.func29, Try.ntmps29
  go_wp2_with fail
  go_ret
  exact ⟨rfl, rfl⟩

theorem align_nil (n : Int) (w : World) :
    Calls Try.prog 30 #[.pointer none, .int .i64 n] w fun e w' => e = .returned (.bool false) ∧ w = w' := by
  go_enter Try.func30, Try.ntmps30
  go_wp2_with fail
  go_ret
  exact ⟨rfl, rfl⟩

theorem set32_nil (n x : Int) (w : World) :
    Calls Try.prog 31 #[.pointer none, .int .i64 n, .int .u32 x] w fun e w' => e = .returned (.bool false) ∧ w = w' := by
  go_enter Try.func31, Try.ntmps31
  go_wp2_with fail
  go_ret
  exact ⟨rfl, rfl⟩

theorem u8_nil (x : Int) (w : World) :
    Calls Try.prog 27 #[.pointer none, .int .u8 x] w fun e w' => e = .returned (.tuple #[]) ∧ Below w.heap.size w w' := by
  go_enter Try.func27, Try.ntmps27
  go_wp2_with fail
  refine (add_nil _ _ _ _).mono ?_
  rintro e w1 ⟨rfl, rfl⟩
  go_wp2_with fail
  go_end0
  exact ⟨rfl, (Below.refl _ _).alloc (Nat.le_refl _) _⟩

/-- The part that Part returns: new bytes, or none. -/
def PartRes (w : World) (l : List Nat) (e : Ending) (w' : World) : Prop := ∃ v, e = .returned (.tuple #[v, .bool true]) ∧ OwnB w' w.heap.size v l ∧ Below w.heap.size w w'

theorem part_ok (A : Option Addr) (l : List Nat) (c x n : Nat) (w : World) (hl : Bys w A l) (hc : l.length ≤ c) (h : x + n ≤ l.length) (hn : l.length ≤ 100000) :
    Calls Try.prog 14 #[.slice A l.length c, .int .i64 (x : Int), .int .i64 (n : Int)] w fun e w' => PartRes w (sub l x n) e w' := by
  have HP : Hid (Calls Try.prog 36 #[.slice A l.length c, .int .i64 (x : Int), .int .i64 (n : Int)] w fun e w' => e = .returned (.tuple #[.slice (pAt A c x) n (c - x), .bool true]) ∧ w = w') := Lib.hid (part_yes A l.length c x n hc hl.2.2 h w)
  have HC := Lib.hid (clonev_ok (pAt A c x) (sub l x n) (c - x) w (bys_part hl c x n hc h) (by rw [sub_len h]; omega))
  rw [sub_len h] at HC
  generalize sub l x n = S at HC ⊢
  generalize pAt A c x = P at HC HP ⊢
  generalize c - x = d at HC HP ⊢
  clear hl hc h hn
  go_enter Try.func14, Try.ntmps14
  go_wp2_with fail
  refine HP.out.mono ?_
  rintro e w' ⟨rfl, rfl⟩
  go_wp2_with fail
  refine HC.out.mono ?_
  rintro e w1 ⟨v, rfl, h⟩
  have H := Lib.hid h
  clear h
  go_wp2_with fail
  go_ret2
  exact ⟨v, rfl, H.out⟩

theorem part_none (A : Option Addr) (l : List Nat) (c : Nat) (x y : Int) (w : World) (hl : Bys w A l) (hx : I64 x) (hy : I64 y) (h : ¬ Ex l.length x y) :
    Calls Try.prog 14 #[.slice A l.length c, .int .i64 x, .int .i64 y] w fun e w' => e = .returned (.tuple #[.slice none 0 0, .bool false]) ∧ Below w.heap.size w w' := by
  have HP := Lib.hid (part_no A l.length c x y hx hy hl.2.2 h w)
  have HC := Lib.hid (clonev_ok none [] 0 w ⟨fun i hi => absurd hi (by simp), fun y hy => (by cases hy), by simp⟩ (by simp))
  have HN : Hid (∀ w' v, OwnB w' w.heap.size v [] → True) := Lib.hid fun _ _ _ => trivial
  clear hl hx hy h
  go_enter Try.func14, Try.ntmps14
  go_wp2_with fail
  refine HP.out.mono ?_
  rintro e w' ⟨rfl, rfl⟩
  go_wp2_with fail
  refine (clonev_nil w).mono ?_
  rintro e w1 ⟨rfl, rfl⟩
  go_wp2_with fail
  go_ret2
  exact ⟨rfl, Below.refl _ _⟩

end Go.Proofs.Ytajkneekehkhbaa
