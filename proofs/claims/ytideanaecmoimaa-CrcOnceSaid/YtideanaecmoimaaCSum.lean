/-
  Layer 2 (crc): each, Sum. By the verifier.
-/
import Derived.Test.YtideanaecmoimaaCReg
import Derived.Shelf.Abstract
set_option linter.unusedVariables false
namespace Go.Proofs.Ytideanaecmoimaa
open Go.RowKit

/-- Of the blocks that there were, one alone may have turned. -/
structure Sole (B : Nat) (w w' : World) : Prop where
  os : w'.os = w.os
  tape : w'.tape = w.tape
  output : w'.output = w.output
  size : w.heap.size ≤ w'.heap.size
  block : ∀ k, k < w.heap.size → k ≠ B → w'.heap[k]? = w.heap[k]?

theorem Sole.refl (B : Nat) (w : World) : Sole B w w := ⟨rfl, rfl, rfl, Nat.le_refl _, fun _ _ _ => rfl⟩
theorem Sole.trans {B : Nat} {a b c : World} (h : Sole B a b) (k : Sole B b c) : Sole B a c :=
  ⟨k.os.trans h.os, k.tape.trans h.tape, k.output.trans h.output, Nat.le_trans h.size k.size, fun i hi hB => (k.block i (Nat.lt_of_lt_of_le hi h.size) hB).trans (h.block i hi hB)⟩
theorem Sole.setCell (B : Nat) (w : World) (i : Nat) (v : Value) : Sole B w (w.setCell ⟨B, i, none⟩ v) :=
  ⟨rfl, rfl, rfl, by simp, fun k _ hk => heap_setCell_other w _ k v hk⟩
theorem Sole.of_below {B N : Nat} {w w' : World} (h : Below w.heap.size w w') : Sole B w w' := ⟨h.os, h.tape, h.output, h.size, fun k hk _ => h.block k hk⟩
theorem Sole.below {B : Nat} {N : Nat} {w w' : World} (h : Sole B w w') (hN : N ≤ B) (hs : N ≤ w.heap.size) : Below N w w' :=
  ⟨h.os, h.tape, h.output, h.size, fun k hk => h.block k (by omega) (by omega)⟩
theorem Sole.row {B : Nat} {w w' : World} (h : Sole B w w') {g : Nat} {T : TypeId} {n : Nat} {f : Nat → Value} (hr : Row w g T n f) (hg : g ≠ B) : Row w' g T n f := by
  unfold Row
  rw [h.block g hr.lt hg]
  exact hr

/-- The parts that a slice of slices holds. -/
def Pts (w : World) (A : Option Addr) (ps : List (List Nat)) : Prop :=
  (∀ i, i < ps.length → ∃ b o Ai ci, A = some ⟨b, o, none⟩ ∧ w.cell? ⟨b, o + i, none⟩ = some (.slice Ai (ps.getD i []).length ci) ∧ Bys w Ai (ps.getD i [])) ∧ ps.length ≤ maxLen

/-- A move of the register over parts. -/
def moves (mv : Nat → List Nat → Nat) (v : Nat) (ps : List (List Nat)) : Nat := ps.foldl mv v
theorem moves_snoc (mv : Nat → List Nat → Nat) (v : Nat) (ps : List (List Nat)) (k : Nat) (h : k < ps.length) : moves mv v (ps.take (k + 1)) = mv (moves mv v (ps.take k)) (ps.getD k []) := by
  rw [List.take_succ_eq_append_getElem h]
  unfold moves
  rw [List.foldl_append]
  simp [List.getD, h]
theorem moves_fo (v : Nat) (ps : List (List Nat)) : moves fo v ps = fo v ps.flatten := by
  induction ps generalizing v with
  | nil => rfl
  | cons p ps ih => rw [List.flatten_cons, fo_append]; exact ih _

/-- What a call leaves that moves a register. -/
def Moved (B v : Nat) (w : World) (e : Ending) (w' : World) : Prop := e = .returned (.tuple #[]) ∧ Reg w' B v ∧ Sole B w w'

structure Move (f : FuncId) (mv : Nat → List Nat → Nat) : Prop where
  enters : ∀ args w, (callFunc f args).run Try.prog w = .ok (.enter f args) w
  step : ∀ B v A l c w, v < 4294967296 → Reg w B v → Bys w A l → Calls Try.prog f #[.pointer (some ⟨B, 0, none⟩), .slice A l.length c] w fun e w' => Moved B (mv v l) w e w'
  keeps : ∀ v l, v < 4294967296 → Bs l → mv v l < 4294967296

theorem take_move : Move 24 fo where
  enters := enters_of Try.func24 (by kernel_rfl) rfl
  step := fun B v A l c w hv hr hl => (take_ok B v A l c hv w hr hl).mono fun e w' ⟨he, hw⟩ => ⟨he, by subst hw; exact reg_set hr _, by subst hw; exact Sole.setCell _ _ _ _⟩
  keeps := fun v l hv hl => fo_lt hv hl

set_option maxHeartbeats 400000 in
theorem each_ok (f : FuncId) (mv : Nat → List Nat → Nat) (hs : Move f mv) (B v : Nat) (hv : v < 4294967296) (A : Option Addr) (ps : List (List Nat)) (c : Nat) (w : World) (hr : Reg w B v)
    (hp : ∀ W, Sole B w W → Pts W A ps) :
    Calls Try.prog 23 #[.func (.func f) #[.pointer (some ⟨B, 0, none⟩)] #[], .slice A ps.length c] w fun e w' => Moved B (moves mv v ps) w e w' := by
  have HS := Lib.hid hs
  have hen := hs.enters
  have HP := Lib.hid hp
  have hlen := (hp w (Sole.refl _ _)).2
  unfold maxLen at hlen
  have HR := Lib.hid hr
  clear hs hp hr
  go_enter Try.func23, Try.ntmps23
  go_wp2_with fail
  go_loopw [8] (fun i wr => ∃ (k : Nat), k ≤ ps.length ∧ i = .int .i64 (k : Int) ∧ Hid (Reg wr B (moves mv v (ps.take k)) ∧ moves mv v (ps.take k) < 4294967296 ∧ Sole B w wr)) (fun i _ => ps.length - (intOf i).toNat)
  case atStart => exact ⟨0, by omega, rfl, Lib.hid ⟨HR.out, hv, Sole.refl _ _⟩⟩
  case round =>
    obtain ⟨k, hk, rfl, hst⟩ := hrel
    by_cases hlt : k < ps.length
    · obtain ⟨b, o, Ai, ci, rfl, hc, hby⟩ := (HP.out wr hst.out.2.2).1 k hlt
      have hkl : (k : Int) < ps.length := by omega
      have hms := moves_snoc mv v ps k hlt
      have hnx := HS.out.keeps (moves mv v (ps.take k)) (ps.getD k []) hst.out.2.1 hby.2.1
      have HC := Lib.hid (HS.out.step B (moves mv v (ps.take k)) Ai (ps.getD k []) ci wr hst.out.2.1 hst.out.1 hby)
      rw [← hms] at HC hnx
      have HN := Lib.hid hnx
      clear hms hnx hby
      generalize ps.getD k [] = l at *
      generalize hg : moves mv v (ps.take (k + 1)) = g at *
      have HG := Lib.hid hg
      clear hg
      go_wp2_with ((with_reducible refine HC.out.mono ?_); rintro e w1 ⟨rfl, hr1, hs1⟩)
      go_roundw
      case rel => exact ⟨k + 1, by omega, by go_num, Lib.hid (by rw [HG.out]; exact ⟨hr1, HN.out, hst.out.2.2.trans hs1⟩)⟩
      case measure => simp [intOf]; omega
    · have hkk : k = ps.length := by omega
      have hkl : ¬ (k : Int) < ps.length := by omega
      have hf := hst.out
      rw [hkk, List.take_length] at hf
      have HF := Lib.hid hf
      clear hf hkk hst
      go_wp2_with fail
      go_end0
      exact ⟨rfl, HF.out.1, HF.out.2.2⟩

theorem sum_parts (A : Option Addr) (ps : List (List Nat)) (c : Nat) (w : World) (hp : ∀ W, Below w.heap.size w W → Pts W A ps) (hb : Bs ps.flatten) :
    Calls Try.prog 11 #[.slice A ps.length c] w fun e w' => e = .returned (.int .u32 ((crc ps.flatten : Nat) : Int)) ∧ Below w.heap.size w w' := by
  have HP := Lib.hid hp
  have HL := Lib.hid hb
  clear hp hb
  go_enter Try.func11, Try.ntmps11
  go_wp2_with fail
  refine (opened_ok _).mono ?_
  rintro e w1 ⟨B, rfl, hr, hB, hb⟩
  have HR := Lib.hid hr
  clear hr
  go_wp2_with fail
  refine (each_ok _ _ take_move B 4294967295 (by omega) A ps c w1 HR.out (fun W hW => HP.out W (hb.trans (hW.below hB hb.size)))).mono ?_
  rintro e w2 ⟨rfl, hr2, hs2⟩
  rw [moves_fo] at hr2
  have HR2 := Lib.hid hr2
  clear hr2
  go_wp2_with fail
  refine (sum_ok B _ (fo_lt (by omega) HL.out) w2 HR2.out).mono ?_
  rintro e w3 ⟨rfl, rfl⟩
  go_wp2_with fail
  go_ret
  exact ⟨rfl, hb.trans (hs2.below hB hb.size)⟩
end Go.Proofs.Ytideanaecmoimaa
