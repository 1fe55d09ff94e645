/-
  Layer 6 (lex): the program's Place, Tokens and Next. By the verifier.
-/
import Derived.Test.YtmgohahjocdeeaaDoorTNx3
import Derived.Test.YtmgohahjocdeeaaDoorMRowN
set_option linter.unusedVariables false
namespace Go.Proofs.YtmgohahjocdeeaaDoor
open Go.RowKit

/-- A token's cells. -/
def tokV (t : Tok) : List Value := (tokA t).toList
theorem tokV_len (t : Tok) : (tokV t).length = 5 := rfl
theorem flat5 (l : List Tok) : (l.flatMap tokV).length = l.length * 5 := by
  induction l with
  | nil => rfl
  | cons t l ih => rw [List.flatMap_cons, List.length_append, ih, tokV_len, List.length_cons]; omega

theorem elemTk : ElemT 23 39 (.agg #[.int .i64 0, .string ⟨#[]⟩, .int .u64 0, .int .i64 0, .int .i64 0]) 5 48 := ⟨Tryd.underlying23, by kernel_rfl, rfl, by omega, by omega⟩

/-- A new cursor. -/
theorem new_cur (W : World) (s : ByteArray) (a b k : Nat) : Cur (W.alloc (.cells #[.int .i64 (a : Int), .int .i64 (b : Int), .string s, .int .i64 (k : Int)] 61)) W.heap.size (a, b) s k := by
  unfold Cur Row
  rw [heap_alloc_new]
  rfl

theorem first_ok (s : ByteArray) (W : World) :
    Calls Tryd.prog 20 #[.string s] W fun e w' => e = .returned (.pointer (some ⟨W.heap.size, 0, none⟩)) ∧ Cur w' W.heap.size (1, 1) s 0 ∧ Below W.heap.size W w' := by
  have HC := Lib.hid (new_cur W s 1 1 0)
  go_enter Tryd.func20, Tryd.ntmps20
  go_wp2_with fail
  go_ret
  exact ⟨rfl, HC.out, (Below.refl _ _).alloc (Nat.le_refl _) _⟩

theorem pplace_ok (s : ByteArray) (l : List Nat) (hs : Str s l) (hm : l.length ≤ 2000000) (k : Nat) (hk : k ≤ l.length) (W : World) :
    Calls Tryd.prog 13 #[.string s, .int .i64 (k : Int)] W fun e w' => e = .returned (.tuple #[.int .i64 ((placeV l k).1 : Int), .int .i64 ((placeV l k).2 : Int)]) ∧ Below W.heap.size W w' := by
  have hsz : (s.size : Int) = (l.length : Int) := by have := hs.size; omega
  have c1 : ¬ (s.size : Int) < (k : Int) := by omega
  have HF := Lib.hid (first_ok s W)
  have HG : Hid (∀ X, Cur X W.heap.size (1, 1) s 0 → Calls Tryd.prog 22 #[.pointer (some ⟨W.heap.size, 0, none⟩), .int .i64 (k : Int)] X fun e w' => e = .returned (.tuple #[]) ∧ MoveP X W.heap.size (placeV l k) s k w') :=
    Lib.hid fun X hX => goTo_ok s l hs hm 0 k W.heap.size (by omega) hk X hX
  generalize placeV l k = p at *
  obtain ⟨pa, pb⟩ := p
  clear hs hm hk hsz
  go_enter Tryd.func13, Tryd.ntmps13
  go_wp2_with fail
  refine HF.out.mono ?_
  rintro e w1 ⟨rfl, hc, hb⟩
  have HC := Lib.hid (And.intro hc hb)
  clear hc hb
  go_wp2_with fail
  refine (HG.out w1 HC.out.1).mono ?_
  rintro e w2 ⟨rfl, hc, hs⟩
  have HB := Lib.hid (HC.out.2.trans (hs.below (N := W.heap.size) (Nat.le_refl _) HC.out.2.size))
  have hl := hc.lt
  have c0 : w2.cell? ⟨W.heap.size, 0, none⟩ = some (.int .i64 (pa : Int)) := hc.c0
  have c1 : w2.cell? ⟨W.heap.size, 1, none⟩ = some (.int .i64 (pb : Int)) := hc.c1
  clear hc hs
  go_wp2_with fail
  go_quiet (fail)
  go_wp2_with fail
  go_ret2
  exact ⟨rfl, below_drewN HB.out _⟩

theorem pplace_no (s : ByteArray) (l : List Nat) (hs : Str s l) (x : Int) (hx : x < 0 ∨ (l.length : Int) < x) (w : World) :
    Calls Tryd.prog 13 #[.string s, .int .i64 x] w fun e w' => e = .returned (.tuple #[.int .i64 0, .int .i64 0]) ∧ w = w' := by
  have hsz : (s.size : Int) = (l.length : Int) := by have := hs.size; omega
  by_cases h0 : x < 0
  · clear hs hsz hx
    go_enter Tryd.func13, Tryd.ntmps13
    go_wp2_with fail
    go_ret2
    exact ⟨rfl, rfl⟩
  · have c1 : (s.size : Int) < x := by omega
    clear hs hsz hx
    go_enter Tryd.func13, Tryd.ntmps13
    go_wp2_with fail
    go_ret2
    exact ⟨rfl, rfl⟩

end Go.Proofs.YtmgohahjocdeeaaDoor
