/-
  Layer 3 (buf): are calls few, with few bytes? By the verifier.
-/
import Derived.Test.YtajkneekehkhbaaBOps
set_option linter.unusedVariables false
namespace Go.Proofs.Ytajkneekehkhbaa
open Go.RowKit

/-- A call with few bytes. -/
def Small (o : OpV) : Prop := o.d.length ≤ 100 ∧ ((o.k = 5 ∨ o.k = 6) → o.n ≤ 1000 ∨ 33554432 ≤ o.n)

def FewRes (w : World) (l : List OpV) (e : Ending) (w' : World) : Prop := ∃ b : Bool, e = .returned (.bool b) ∧ Below w.heap.size w w' ∧ (b = true → l.length ≤ 60 ∧ ∀ i (h : i < l.length), Small l[i])

set_option maxHeartbeats 2000000 in
theorem few_ok (A : Option Addr) (l : List OpV) (c : Nat) (w : World) (hl : Ops w A l) :
    Calls Try.prog 19 #[.slice A l.length c] w fun e w' => FewRes w l e w' := by
  have HL := Lib.hid hl
  have hm := hl.2
  unfold maxLen at hm
  clear hl
  go_enter Try.func19, Try.ntmps19
  go_wp2_with fail
  go_loopw [7] (fun i wr => ∃ k : Nat, k ≤ l.length ∧ i = .int .i64 (k : Int) ∧ Hid (Below w.heap.size w wr ∧ ∀ j (h : j < l.length), j < k → Small l[j])) (fun i _ => l.length - (intOf i).toNat)
  case atStart => exact ⟨0, by omega, rfl, Lib.hid ⟨Below.refl _ _, fun j _ hj => absurd hj (by omega)⟩⟩
  case round =>
    obtain ⟨k, hk, rfl, hr⟩ := hrel
    by_cases hlt : k < l.length
    · obtain ⟨b, f, Ad, cd, rfl, ho⟩ := (HL.out.below hr.out.1).1 k hlt
      have hkl : (k : Int) < (l.length : Int) := by omega
      have c0 := ho.c0
      have c1 := ho.c1
      have c2 := ho.c2
      have c3 := ho.c3
      have HB := Lib.hid hr.out.1
      have HS := Lib.hid hr.out.2
      have hdm := ho.bys.2.2
      unfold maxLen at hdm
      obtain ⟨o, hoe⟩ : ∃ o, o = l[k] := ⟨_, rfl⟩
      have HO := Lib.hid hoe
      have hkn := ho.hk
      have hnn := ho.hn
      rw [← hoe] at c0 c1 c2 c3 hdm hkn hnn
      unfold I64 at hkn hnn
      have HN : Hid (Small o → ∀ j (h : j < l.length), j < k + 1 → Small l[j]) := Lib.hid fun hs j h hj => by
        by_cases hjk : j = k
        · subst hjk; rw [← hoe]; exact hs
        · exact hr.out.2 j h (by omega)
      have HBA : Hid (∀ ob, Below w.heap.size w (wr.alloc ob)) := Lib.hid fun ob => hr.out.1.alloc hr.out.1.size ob
      clear hr ho hoe
      go_wp2_with fail
      all_goals (first
        | (go_ret; exact ⟨false, rfl, HBA.out _, fun hb => by cases hb⟩)
        | (go_roundw
           case rel => exact ⟨k + 1, by omega, by go_num, Lib.hid ⟨HBA.out _, HN.out ⟨by omega, fun hh => by omega⟩⟩⟩
           case measure => simp [intOf]; omega))
    · have hkl : ¬ (k : Int) < (l.length : Int) := by omega
      have hall : ∀ i (h : i < l.length), Small l[i] := fun i h => hr.out.2 i h (by omega)
      have HB := Lib.hid hr.out.1
      have HA := Lib.hid hall
      clear hr hall
      go_wp2_with fail
      go_ret
      refine ⟨_, rfl, HB.out, fun hb => ⟨?_, HA.out⟩⟩
      have hb2 : (l.length : Int) ≤ 60 := by simpa using hb
      omega

end Go.Proofs.Ytajkneekehkhbaa
