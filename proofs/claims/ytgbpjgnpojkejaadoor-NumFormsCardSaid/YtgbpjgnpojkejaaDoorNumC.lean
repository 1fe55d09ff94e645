/-
  Layer 1 (num), the fold and what is made of it. By the verifier.
-/
import Derived.Test.YtgbpjgnpojkejaaDoorNumB
set_option linter.unusedVariables false
namespace Go.Proofs.YtgbpjgnpojkejaaDoor
open Go.RowKit

/-- The fold: it stops at the first step without a result. -/
def foldO (st : Int → Int → Option Int) (a : Int) : List Int → Option Int
  | [] => some a
  | z :: zs => match st a z with
    | none => none
    | some c => foldO st c zs

theorem foldO_append (st : Int → Int → Option Int) (a : Int) (xs ys : List Int) :
    foldO st a (xs ++ ys) = (foldO st a xs).bind fun c => foldO st c ys := by
  induction xs generalizing a with
  | nil => rfl
  | cons z zs ih =>
    simp only [List.cons_append, foldO]
    cases st a z with
    | none => rfl
    | some c => exact ih c

theorem foldO_snoc (st : Int → Int → Option Int) (a b : Int) (zs : List Int) (k : Nat) (hk : k < zs.length) (h : foldO st a (zs.take k) = some b) :
    foldO st a (zs.take (k + 1)) = st b (zs.getD k 0) := by
  rw [List.take_succ_eq_append_getElem hk, foldO_append, h]
  have : zs[k] = zs.getD k 0 := by simp [List.getD, hk]
  rw [this]
  simp only [Option.bind, foldO]
  cases st b (zs.getD k 0) <;> rfl

theorem foldO_none (st : Int → Int → Option Int) (a : Int) (zs : List Int) (k : Nat) (h : foldO st a (zs.take k) = none) : foldO st a zs = none := by
  have e : zs = zs.take k ++ zs.drop k := (List.take_append_drop k zs).symm
  rw [e, foldO_append, h]
  rfl

/-- What a step has to be. -/
structure Step (f : FuncId) (st : Int → Int → Option Int) (D : Int → Prop) : Prop where
  enters : ∀ args w, (callFunc f args).run Tryd.prog w = .ok (.enter f args) w
  step : ∀ a b w, U a → D a → U b → Calls Tryd.prog f #[.int .u64 a, .int .u64 b] w fun e w' => StepRes (st a b) e ∧ Below w.heap.size w w'
  keeps : ∀ a b c, U a → D a → U b → st a b = some c → D c

theorem fold_ok (f : FuncId) (st : Int → Int → Option Int) (D : Int → Prop) (hs : Step f st D) (start : Int) (h0 : U start) (hD : D start)
    (A : Option Addr) (zs : List Int) (c : Nat) (w : World) (hn : Nums w A zs) :
    Calls Tryd.prog 26 #[.func (.func f) #[] #[], .int .u64 start, .slice A zs.length c] w fun e w' => FoldRes (foldO st start zs) e ∧ Below w.heap.size w w' := by
  have HS := Lib.hid hs
  have hen := hs.enters
  have HN := Lib.hid hn
  have HD := Lib.hid hD
  have hlen := hn.2.2
  unfold maxLen at hlen
  clear hs hn hD
  go_enter Tryd.func26, Tryd.ntmps26
  go_wp2
  go_loopw [8, 16] (fun s i wr => ∃ (k : Nat) (a : Int), k ≤ zs.length ∧ i = .int .i64 k ∧ s = .int .u64 a ∧ U a ∧ Hid (D a) ∧ Hid (foldO st start (zs.take k) = some a) ∧ Below w.heap.size w wr) (fun _ i _ => zs.length - (intOf i).toNat)
  case atStart => exact ⟨0, start, by omega, rfl, rfl, h0, HD, Lib.hid rfl, Below.refl _ _⟩
  case round =>
    obtain ⟨k, a, hk, rfl, rfl, hu, ha, hf, hbw⟩ := hrel
    by_cases hlt : k < zs.length
    · obtain ⟨b, o, rfl, hb, hc⟩ := (HN.out.below (Nat.le_refl _) hbw).1 k hlt
      replace hc : wr.cell? ⟨b, o + k, none⟩ = some (.int .u64 (zs.getD k 0)) := hc
      have hz := HN.out.u k hlt
      have hcl : (k : Int) < zs.length := by omega
      have Hst := foldO_snoc st start a zs k hlt hf.out
      have Hk := HS.out.keeps a (zs.getD k 0) 
      generalize hzz : zs.getD k 0 = z at *
      clear hzz
      have hcall := HS.out.step a z
      generalize hr : st a z = r at *
      have HST := Lib.hid Hst
      have HK := Lib.hid Hk
      have HC := Lib.hid hcall
      clear Hst Hk hcall hr
      rcases r with _ | r
      · go_wp2_with ((with_reducible refine (HC.out _ hu ha.out hz).mono ?_); rintro e w1 ⟨⟨v, rfl, hv, hcc⟩, hb1⟩; clear hcc)
        go_ret2
        exact ⟨congrArg (fun o => Ending.returned (opt o)) (foldO_none _ _ _ _ HST.out).symm, hbw.trans (hb1.mono hbw.size)⟩
      · go_wp2_with ((with_reducible refine (HC.out _ hu ha.out hz).mono ?_); rintro e w1 ⟨⟨v, rfl, hv, hcc⟩, hb1⟩; obtain rfl := hcc r rfl; clear hcc)
        go_roundw
        case rel => exact ⟨k + 1, v, by omega, by go_num, rfl, hv, Lib.hid (HK.out v hu ha.out hz rfl), HST, hbw.trans (hb1.mono hbw.size)⟩
        case measure => simp [intOf]; omega
    · have hkk : k = zs.length := by omega
      have hcl : ¬ ((k : Int) < zs.length) := by omega
      have hf' := hf.out
      rw [hkk, List.take_length] at hf'
      have HF := Lib.hid hf'
      clear hf' hkk
      go_wp2
      go_ret2
      exact ⟨congrArg (fun o => Ending.returned (opt o)) HF.out.symm, hbw⟩

end Go.Proofs.YtgbpjgnpojkejaaDoor
