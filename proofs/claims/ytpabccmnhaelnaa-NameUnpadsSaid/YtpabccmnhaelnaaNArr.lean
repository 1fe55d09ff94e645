/-
  An array of thirty bytes that came in by value. By the verifier.
-/
import Derived.Test.YtpabccmnhaelnaaNPlain
import Derived.OpenShut
set_option linter.unusedVariables false
namespace Go.Proofs.Ytpabccmnhaelnaa
open Go.RowKit Go.ChangeShapes Go.WideShapes

/-- The number in a cell. -/
def numIn (v : Value) : Nat := match v with | .int _ n => n.toNat | _ => 0

theorem open_arr30 {H : Type} {enc : TypeId × Value → H} {P : Program} {t e : TypeId} {W : World} {v : Value} {d : DataW H} {p : List MemPlace} (ht : P.underlying t = some (.array 30 e)) (he : P.underlying e = some (.int .u8)) (hce : P.cellsOf e = 1) (hct : P.cellsOf t = 30)
    (hv : Value.okWide P W .any 0 t v) (h : DataW.Trod enc P W 0 (fun _ => true) true t v d p) : ∃ b : List Nat, b.length = 30 ∧ Bs b ∧ v = .agg (arr30 b) := by
  simp only [Value.okWide, ht] at hv
  obtain ⟨cs, rfl, hs, -⟩ := hv
  rw [hct] at hs
  obtain ⟨fuel, hf⟩ := h
  obtain ⟨xs, m, rfl, hx, hl, hxl, hi⟩ := DataW.trod_array ht hf
  have hcell : ∀ i, i < 30 → ∃ z : Nat, z < 256 ∧ cs[i]? = some (V8 z) := by
    intro i hi30
    have h1 := hi i hi30
    rw [hce, Nat.mul_one, List.getElem?_eq_getElem (by omega)] at h1
    obtain ⟨n, hc, -, hw⟩ := DataW.trod_int he h1
    simp [Lit.wf, IntKind.min, IntKind.max, IntKind.signed, IntKind.bits] at hw
    refine ⟨n.toNat, by omega, ?_⟩
    have h2 : cs.toList.drop i = cs.toList[i]'(by simp; omega) :: cs.toList.drop (i + 1) := List.drop_eq_getElem_cons (by simp; omega)
    have hc' : (cs.toList.drop i).take 1 = [.int .u8 n] := hc
    rw [h2, List.take_succ_cons, List.take_zero] at hc'
    injection hc' with hc' _
    have hn : ((n.toNat : Nat) : Int) = n := by omega
    unfold V8
    rw [hn, ← hc']
    simp
  refine ⟨cs.toList.map numIn, by simp [hs], ?_, ?_⟩
  · intro x hx
    obtain ⟨u, hu, rfl⟩ := List.mem_map.1 hx
    obtain ⟨i, hi2, rfl⟩ := List.mem_iff_getElem.1 hu
    obtain ⟨z, hz, hc⟩ := hcell i (by simpa [hs] using hi2)
    have : cs.toList[i] = V8 z := by
      have h3 : cs.toList[i]? = some (V8 z) := by simpa using hc
      rw [List.getElem?_eq_getElem hi2] at h3
      injection h3
    rw [this]
    show (((z : Int)).toNat) < 256
    omega
  · congr 1
    apply Array.ext_getElem?
    intro j
    by_cases hj : j < 30
    · obtain ⟨z, hz, hc⟩ := hcell j hj
      rw [hc, show arr30 (cs.toList.map numIn) = rowOf 30 (fun i => V8 ((cs.toList.map numIn).getD i 0)) from rfl, rowOf_get _ hj]
      have h3 : cs.toList[j]? = some (V8 z) := by simpa using hc
      have h4 : (cs.toList.map numIn).getD j 0 = z := by
        rw [List.getD, List.getElem?_map, h3]
        show ((z : Int)).toNat = z
        omega
      rw [h4]
    · rw [Array.getElem?_eq_none (by omega), Array.getElem?_eq_none (by rw [arr30_size]; omega)]

end Go.Proofs.Ytpabccmnhaelnaa
