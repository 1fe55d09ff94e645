/-
  Layer 3 (buf): a call of the builder beside the same of the reference: bytes are appended. By the verifier.
-/
import Derived.Test.YtajkneekehkhbaaBDo
import Derived.Deep.RegionLaw
set_option linter.unusedVariables false
namespace Go.Proofs.Ytajkneekehkhbaa
open Go.RowKit

/-- append, as one step of a region that draws. -/
theorem step_append_t {P : Program} (hP : P = Try.prog) (t : TypeId) (ht : Try.prog.underlying t = some (.slice 5)) {ops : Array Oper} {o : Oper} {a : Act} {w : World} {K : Act → World → Prop} {Q : Exit → Act → World → Prop} {E : Prop} (hgd : o.guard = none) (s x : Operand)
    (hop : o.op = .call { callee := .builtin .append, args := #[s, x], argTypes := #[t, t] })
    (base : Nat) (v : Value) (l : List Nat) (hs : a.eval s = v) (ho : OwnB w base v l) (A : Option Addr) (m : List Nat) (k c : Nat) (hk : m.length = k) (hx : a.eval x = .slice A k c) (hm : Bys w A m) (hlen : l.length + k ≤ 1000000) (hbase : base ≤ w.heap.size)
    (h : ∀ v' w', OwnB w' base v' (l ++ m) → w.grownBy w' v.ownBlock → K (a.put o.dst v') w') :
    if Region.wanted o (yielded ops a.tmps) = true then Oper.wp P o a w K Q else E := by
  subst hP
  subst hk
  have hw : Region.wanted o (yielded ops a.tmps) = true := by simp [Region.wanted, hgd]
  rw [if_pos hw]
  obtain ⟨v', w', hrun, h1, h2, -⟩ := append_runs_t t o.type ht base v l ho A m c hm hlen hbase
  unfold Oper.wp
  simp [execOp, hop, resolve, invoke, builtin, hs, hx, hrun, Result.andThen]
  exact h v' w' h1 h2

set_option maxHeartbeats 4000000 in
set_option maxRecDepth 100000 in
theorem do4_ok (N : Nat) (B P : Nat) (l : List Nat) (g : Option Nat) (A : Option Addr) (c : Nat) (n : Int) (z : Int) (Ad : Option Addr) (d : List Nat) (cd : Nat) (w : World)
    (hd : Bys w Ad d) (hdl : d.length ≤ 100) (hAd : ∀ a, Ad = some a → a.block < N ∨ d = []) (h : Inv N w B P l l g A c) (hA : ∀ a, A = some a → a.block < w.heap.size) (hlen : l.length ≤ 400000) :
    Calls Try.prog 21 #[.pointer (some ⟨B, 0, none⟩), .pointer (some ⟨P, 0, none⟩), .agg #[.int .i64 4, .int .i64 n, .int .u64 z, .slice Ad d.length cd]] w fun e w' => DoRes N w B P l e w' := by
  have hA1 : Below w.heap.size w (w.alloc (.cells #[.int .i64 4, .int .i64 n, .int .u64 z, .slice Ad d.length cd] 49)) := (Below.refl _ _).alloc (Nat.le_refl _) _
  have HI := Lib.hid (h.below hA1)
  have HOB := Lib.hid (OpBlk.new w 4 n z (.slice Ad d.length cd))
  have HOF : Hid (¬ SB B g w.heap.size) := Lib.hid h.bld.off
  have HA : Hid (∀ a, A = some a → a.block < (w.alloc (.cells #[.int .i64 4, .int .i64 n, .int .u64 z, .slice Ad d.length cd] 49)).heap.size) := Lib.hid fun a ha => Nat.lt_of_lt_of_le (hA a ha) hA1.size
  have HL := Lib.hid (And.intro hlen hdl)
  have HW := Lib.hid (hA1.mono h.low)
  have HD := Lib.hid (hd.below (Nat.le_refl _) hA1)
  have HC : Hid (∀ W, Bld W B g l → Bys W Ad d → Calls Try.prog 28 #[.pointer (some ⟨B, 0, none⟩), .slice Ad d.length cd] W fun e w' => AddRes W B g (l ++ d) e w') := Lib.hid fun W hb hy => add_ok B g l Ad d cd W hb hy (by omega)
  have HBS : Hid (Bs (l ++ d) ∧ (l ++ d).length ≤ maxLen ∧ (l ++ d).length ≤ l.length + 1000) := Lib.hid ⟨h.bys.2.1.append hd.2.1, by rw [List.length_append]; unfold maxLen; omega, by rw [List.length_append]; omega⟩
  have HAD := Lib.hid hAd
  clear h hA hlen hA1 hd hdl hAd
  go_enter Try.func21, Try.ntmps21
  go_wp2_with fail
  refine (HC.out _ HI.out.bld HD.out).mono ?_
  rintro e w2 ⟨rfl, g2, hm⟩
  have HI2 := Lib.hid (HI.out.moved HA.out hm)
  have hO2 := HOB.out.turn hm.turn HOF.out
  have h1 := hO2.c0
  have h4 := hO2.c3
  have hP : w2.cell? ⟨P, 0, none⟩ = some (.slice A l.length c) := HI2.out.row.cell (i := 0) (by omega)
  have HD2 : Hid (Bys w2 Ad d) := Lib.hid (by
    by_cases h0 : d = []
    · rw [h0]
      exact ⟨fun i hi => absurd hi (by simp), (fun y hy => by cases hy), by simp⟩
    · refine hm.bys HD.out (fun a ha hs => ?_)
      rcases HAD.out a ha with h5 | h5
      · rcases hs with hs | hs
        · have := HI.out.loB; omega
        · have := HI.out.log _ hs; omega
      · exact h0 h5)
  have HW2 := Lib.hid (HW.out.trans (HI.out.movedBelow hm))
  have hb2 : Below w2.heap.size w2 (w2.alloc (.cells #[] 5)).drew := ((Below.refl w2.heap.size w2).alloc (Nat.le_refl _) _).drew
  have hI2a := HI2.out.below hb2
  have hP2 : (w2.alloc (.cells #[] 5)).cell? ⟨P, 0, none⟩ = some (.slice A l.length c) := hI2a.row.cell (i := 0) (by omega)
  have h42 : (w2.alloc (.cells #[] 5)).cell? ⟨w.heap.size, 3, none⟩ = some (.slice Ad d.length cd) := (hO2.below hb2).c3
  have HO : Hid (OwnB (w2.alloc (.cells #[] 5)).drew w2.heap.size (.slice (some ⟨w2.heap.size, 0, none⟩) 0 0) []) := Lib.hid (own_lit w2)
  have HB2 := Lib.hid hb2
  have HY2 := Lib.hid hI2a.bys
  have HDa := Lib.hid (HD2.out.below (Nat.le_refl _) hb2)
  have HX1 : Hid (∀ w3 v3, OwnB w3 w2.heap.size v3 ([] ++ l) → (w2.alloc (.cells #[] 5)).drew.grownBy w3 (Value.ownBlock (.slice (some ⟨w2.heap.size, 0, none⟩) 0 0)) → Hid (OwnB w3 w2.heap.size v3 l ∧ Below w2.heap.size w2 w3 ∧ Bys w3 Ad d) ∧ w3.cell? ⟨P, 0, none⟩ = some (.slice A l.length c) ∧ w3.cell? ⟨w.heap.size, 3, none⟩ = some (.slice Ad d.length cd)) := Lib.hid fun w3 v3 ho3 hg3 => by
    have hb3 := grown_below HB2.out HO.out hg3 HB2.out.size
    rw [List.nil_append] at ho3
    have hI3 := HI2.out.below hb3
    exact ⟨Lib.hid ⟨ho3, hb3, HD2.out.below (Nat.le_refl _) hb3⟩, hI3.row.cell (i := 0) (by omega), (hO2.below hb3).c3⟩
  have HX : Hid (∀ w3 v3, OwnB w3 w2.heap.size v3 (l ++ d) → Below w2.heap.size w2 w3 → ∃ A3 c3, v3 = .slice A3 (l ++ d).length c3 ∧ w3.cell? ⟨P, 0, none⟩ = some (.slice A l.length c) ∧ w3.frozen? ⟨P, 0, none⟩ = false ∧ Hid (∀ W, Below w3.heap.size w3 W → DoRes N w B P l (.returned (.bool true)) (W.setCell ⟨P, 0, none⟩ (.slice A3 (l ++ d).length c3)))) := Lib.hid fun w3 v3 ho3 hb3 => by
    obtain ⟨A3, c3, rfl, hy3, hc3, ha3⟩ := ho3.shape HBS.out.1 HBS.out.2.1
    have hI3 := HI2.out.below (w' := w3) hb3
    refine ⟨A3, c3, rfl, hI3.row.cell (i := 0) (by omega), hI3.row.free 0, Lib.hid fun W hW => ⟨rfl, l ++ d, g2, A3, c3, HI2.out.put (hb3.trans (hW.mono hb3.size)) (ho3.below hW) HBS.out.1 HBS.out.2.1, fun a ha => Nat.lt_of_lt_of_le (ha3 a ha).1 (by simpa using hW.size), HBS.out.2.2, HW2.out.trans (HI2.out.putBelow (hb3.trans (hW.mono hb3.size)))⟩⟩
  clear hm hO2 HI HA HOF HOB hb2 hI2a
  go_wp2_with fail
  go_region_law (first
    | ((with_reducible refine step_append_t rfl 22 Try.underlying22 rfl (.tmp 116) (.tmp 119) rfl w2.heap.size (.slice (some ⟨w2.heap.size, 0, none⟩) 0 0) [] rfl HO.out A l l.length c rfl rfl HY2.out (by have := HL.out; simp; omega) HB2.out.size ?_); intro v3 w3 ho3 hg3; obtain ⟨HQ, hP3, h43⟩ := HX1.out w3 v3 ho3 hg3; clear ho3 hg3)
    | ((with_reducible refine step_append_t rfl 22 Try.underlying22 rfl (.tmp 120) (.tmp 122) rfl w2.heap.size v3 l rfl HQ.out.1 Ad d d.length cd rfl rfl HQ.out.2.2 (by have := HL.out; omega) HQ.out.2.1.size ?_); intro v4 w4 ho4 hg4; obtain ⟨A3, c3, rfl, hP4, hfP4, HE⟩ := HX.out w4 v4 ho4 (grown_below HQ.out.2.1 HQ.out.1 hg4 HQ.out.2.1.size); clear ho4 hg4))
  all_goals go_wp2_with fail
  all_goals go_ret
  all_goals (have hE := HE.out w4 (Below.refl _ _); rw [List.length_append] at hE; exact hE)

end Go.Proofs.Ytajkneekehkhbaa
