/-
  strconv.ParseUint to the base 16 at 64 bits. By the verifier.
-/
import Derived.Test.YtmgohahjocdeeaaDoorBase
import Derived.Test.YtmgohahjocdeeaaDoorDigits
import Derived.Test.YtmgohahjocdeeaaDoorShelf
import Derived.Lib.ConvBytes
import Derived.Lib.AtoiAllMem
import Derived.Lib.AtoiErrMem
import Derived.Laws.Closers25b
import Derived.Laws.BitsAllLaws
set_option linter.unusedVariables false
namespace Go.Proofs.YtmgohahjocdeeaaDoor
open Go.RowKit

/-- What internal/strconv.ParseUint returns. -/
def PuIn (o : Option Nat) (e : Ending) : Prop :=
  match o with
  | some n => e = .returned (.tuple #[.int .u64 n, .nilIface])
  | none => ∃ (x k : Int), (k = 1 ∨ k = 2) ∧ e = .returned (.tuple #[.int .u64 x, .iface 122 (.int .i64 k)])

theorem or32 (c : UInt8) : bits .or .u8 (c.toNat : Int) 32 = ((c ||| 32).toNat : Int) := by
  rw [show (32 : Int) = ((32 : Nat) : Int) from rfl, u8_or_nat _ _ c.toNat_lt (by omega)]
  rfl

theorem lower_ok (c : UInt8) (w : World) : Calls Tryd.prog 93 #[.int .u8 c.toNat] w fun e w' => e = .returned (.int .u8 ((c ||| 32).toNat : Int)) ∧ w = w' :=
  (Tryd.internal_strconv_lower c.toNat w).mono fun _ _ ⟨he, hw⟩ => ⟨by rw [he, or32], hw.symm⟩

theorem p16_lt : ∀ (l : List UInt8) (acc u : Nat), acc < 18446744073709551616 → p16 acc l = some u → u < 18446744073709551616
  | [], acc, u, h, hp => by simp only [p16] at hp; injection hp with hp; omega
  | c :: r, acc, u, h, hp => by
    simp only [p16] at hp
    cases hc : hval c with
    | none => rw [hc] at hp; cases hp
    | some d =>
      rw [hc] at hp
      simp only at hp
      split at hp
      · cases hp
      · have hd : d < 16 := by
          unfold hval at hc
          split at hc
          · injection hc with hc; omega
          · split at hc
            · injection hc with hc; omega
            · cases hc
        exact p16_lt r _ u (by omega) hp

set_option maxHeartbeats 8000000 in
set_option maxRecDepth 100000 in
theorem pu16_in (t : ByteArray) (hne : t.size ≠ 0) (hmax : t.size ≤ 9223372036854775806) (w : World) :
    Calls Tryd.prog 88 #[.string t, .int .i64 16, .int .i64 64] w fun e w' => PuIn (p16 0 t.data.toList) e ∧ Below w.heap.size w w' := by
  have hemp : t.toList.isEmpty = false := by
    rw [← decide_eq_emptyBytes]
    exact decide_eq_false (fun h => hne (by rw [h]; rfl))
  have hcv := Lib.run_convert_string_bytes (P := Tryd.prog) w 9 51 5 t (u := .string) Tryd.underlying9 Tryd.underlying51 Tryd.underlying5
  have hB : ∀ j, j < t.size → (Lib.bytesWorld w 5 t).cell? ⟨w.heap.size, j, none⟩ = some (.int .u8 (t.data.toList.getD j 0).toNat) := fun j hj => Lib.bytesWorld_cell w 5 t j hj
  have hW := Lib.bytesWorld_below w 5 t
  obtain ⟨W1, hW1⟩ : ∃ W1, W1 = Lib.bytesWorld w 5 t := ⟨_, rfl⟩
  rw [← hW1] at hcv hB hW
  clear hW1
  obtain ⟨bs, hL⟩ : ∃ bs, bs = t.data.toList := ⟨_, rfl⟩
  have hLn : bs.length = t.size := by rw [hL]; simp
  rw [← hL] at hB ⊢
  clear hL
  have HB := Lib.hid hB
  have HL := Lib.hid hLn
  clear hB hLn
  have hmv : IntKind.u64.wrap (IntKind.u64.wrap 18446744073709551616 - 1) = 18446744073709551615 := by
    rw [IntKind.wrap_u64, IntKind.wrap_u64]
    decide
  go_enter Tryd.func88, Tryd.ntmps88
  go_wp2
  go_loop [12, 13, 101] (fun vu vn vi => ∃ (k : Nat) (a : Int), vu = .bool false ∧ vn = .int .u64 a ∧ vi = .int .i64 k ∧ k ≤ t.size ∧ U a ∧ Hid (p16 0 bs = p16 a.toNat (bs.drop k))) (fun _ _ vi => t.size - (intOf vi).toNat)
  case atStart => exact ⟨0, 0, rfl, rfl, rfl, by omega, ⟨by omega, by omega⟩, Lib.hid rfl⟩
  case round =>
    obtain ⟨k, a, rfl, rfl, rfl, hk, hu, hh⟩ := hrel
    have a0 := hu.lo; have a1 := hu.hi
    by_cases hkn : k < t.size
    · have hc := HB.out k hkn
      have hkb : k < bs.length := by rw [HL.out]; exact hkn
      have hdrop : bs.drop k = bs[k] :: bs.drop (k + 1) := List.drop_eq_getElem_cons hkb
      have hget : bs.getD k 0 = bs[k] := by simp [List.getD, List.getElem?_eq_getElem hkb]
      have hdec := hh.out
      rw [hdrop] at hdec
      rw [hget] at hc
      generalize bs[k] = c at hc hdec
      have hc256 : (c.toNat : Int) < 256 := by have := c.toNat_lt; omega
      clear hdrop hget hkb
      by_cases hdig : 48 ≤ c.toNat ∧ c.toNat ≤ 57
      · have hv : hval c = some (c.toNat - 48) := if_pos hdig
        simp only [p16, hv] at hdec
        obtain ⟨hd0, hd1⟩ := hdig
        by_cases hcut : 1152921504606846976 ≤ a.toNat
        · rw [if_pos hcut] at hdec
          have HD := Lib.hid hdec
          have icut : 1152921504606846976 ≤ a := by omega
          clear hcut hdec hv
          go_wp2
          go_ret2
          rw [HD.out]
          exact ⟨⟨_, 1, Or.inl rfl, rfl⟩, hW⟩
        · rw [if_neg hcut] at hdec
          have hN : a.toNat * 16 + (c.toNat - 48) = (a * 16 + ((c.toNat : Int) - 48)).toNat := by omega
          rw [hN] at hdec
          have HD := Lib.hid hdec
          have icut : a < 1152921504606846976 := by omega
          clear hcut hdec hv hN
          go_wp2
          go_round
          case rel => exact ⟨k + 1, a * 16 + ((c.toNat : Int) - 48), rfl, rfl, by go_num, by omega, ⟨by omega, by omega⟩, HD⟩
          case measure => simp [intOf]; omega
      · have hl256 : ((c ||| 32).toNat : Int) < 256 := by have := (c ||| 32).toNat_lt; omega
        have hlow := fun w => lower_ok c w
        have hside : c.toNat < 48 ∨ 57 < c.toNat := by omega
        by_cases hlet : 97 ≤ (c ||| 32).toNat ∧ (c ||| 32).toNat ≤ 102
        · have hv : hval c = some ((c ||| 32).toNat - 87) := by unfold hval; rw [if_neg hdig, if_pos hlet]
          have h95 : ((c.toNat : Int) == 95) = false := by
            rw [beq_eq_false_iff_ne]
            intro e
            have : c = 95 := by rw [← UInt8.toNat_inj]; show c.toNat = 95; omega
            subst this
            exact absurd hlet.2 (by decide)
          simp only [p16, hv] at hdec
          generalize (c ||| 32).toNat = l at *
          obtain ⟨hl0, hl1⟩ := hlet
          have HW := Lib.hid hlow
          clear hv hlow hdig
          by_cases hcut : 1152921504606846976 ≤ a.toNat
          · rw [if_pos hcut] at hdec
            have HD := Lib.hid hdec
            have icut : 1152921504606846976 ≤ a := by omega
            clear hcut hdec
            rcases hside with hs | hs
            all_goals
              go_wp2_with (go_at_call 93; refine (HW.out _).mono ?_; rintro e w' ⟨rfl, rfl⟩)
              go_ret2
              rw [HD.out]
              exact ⟨⟨_, 1, Or.inl rfl, rfl⟩, hW⟩
          · rw [if_neg hcut] at hdec
            have hN : a.toNat * 16 + (l - 87) = (a * 16 + ((l : Int) - 97 + 10)).toNat := by omega
            rw [hN] at hdec
            have HD := Lib.hid hdec
            have icut : a < 1152921504606846976 := by omega
            clear hcut hdec hN
            rcases hside with hs | hs
            all_goals
              go_wp2_with (go_at_call 93; refine (HW.out _).mono ?_; rintro e w' ⟨rfl, rfl⟩)
              exact ⟨⟨k + 1, a * 16 + ((l : Int) - 97 + 10), rfl, rfl, by go_num, by omega, ⟨by omega, by omega⟩, HD⟩, by simp [intOf]; omega⟩
        · have hv : hval c = none := by unfold hval; rw [if_neg hdig, if_neg hlet]
          simp only [p16, hv] at hdec
          have HD := Lib.hid hdec
          clear hdec hv
          by_cases hu95 : c = 95
          · subst hu95
            have HW : Hid (∀ w, Calls Tryd.prog 93 #[.int .u8 95] w fun e w' => e = .returned (.int .u8 127) ∧ w = w') := Lib.hid (fun w => lower_ok 95 w)
            replace hc : W1.cell? ⟨w.heap.size, k, none⟩ = some (.int .u8 95) := hc
            clear hlow hdig hlet hside hc256 hl256
            go_wp2_with (go_at_call 93; refine (HW.out _).mono ?_; rintro e w' ⟨rfl, rfl⟩)
            go_ret2
            rw [HD.out]
            exact ⟨⟨_, 2, Or.inr rfl, rfl⟩, hW⟩
          · have h95 : ((c.toNat : Int) == 95) = false := by
              rw [beq_eq_false_iff_ne]
              intro e
              exact hu95 (by rw [← UInt8.toNat_inj]; show c.toNat = 95; omega)
            generalize (c ||| 32).toNat = l at *
            have HW := Lib.hid hlow
            have hlside : l < 97 ∨ 122 < l ∨ (103 ≤ l ∧ l ≤ 122) := by omega
            clear hlow hdig hlet hu95
            rcases hside with hs | hs
            all_goals
              rcases hlside with hl | hl | ⟨hl, hl'⟩
              all_goals
                go_wp2_with (go_at_call 93; refine (HW.out _).mono ?_; rintro e w' ⟨rfl, rfl⟩)
                go_ret2
                rw [HD.out]
                exact ⟨⟨_, 2, Or.inr rfl, rfl⟩, hW⟩
    · have hkk : k = t.size := by omega
      have hcl : ¬ ((k : Int) < t.size) := by omega
      have hdec := hh.out
      rw [List.drop_eq_nil_of_le (by have := HL.out; omega)] at hdec
      simp only [p16] at hdec
      have HD := Lib.hid hdec
      clear hkk hdec
      go_wp2
      go_ret2
      rw [HD.out]
      exact ⟨congrArg (fun x : Int => Ending.returned (.tuple #[.int .u64 x, .nilIface])) (Int.toNat_of_nonneg a0).symm, hW⟩

end Go.Proofs.YtmgohahjocdeeaaDoor
