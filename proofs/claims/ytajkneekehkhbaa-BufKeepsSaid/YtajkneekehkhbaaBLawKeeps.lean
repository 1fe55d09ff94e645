/-
  The law BufKeeps returns true: changing the bytes that a builder was made of, or that it returned, does not change it; a nil builder has no effect; and the argument is not changed. For every input: no condition. By the verifier.
-/
import Derived.Test.YtajkneekehkhbaaBNil
import Derived.Test.YtajkneekehkhbaaRows
set_option linter.unusedVariables false
namespace Go.Proofs.Ytajkneekehkhbaa.LawKeeps
open Go.RowKit Go.ChangeShapes Go.WideShapes Go.ChangeAt

theorem walk_long (A : Option Addr) (L c : Nat) (h1 : 300 < L) (w : World) :
    Calls Try.prog 7 #[.slice A L c] w fun e w' => e = .returned (.bool true) ∧ Below w.heap.size w w' := by
  have hq : (300 : Int) < (L : Int) := by omega
  go_enter Try.func7, Try.ntmps7
  go_wp2_with fail
  refine (alive_ok _).mono ?_
  rintro e w1 ⟨rfl, hb1⟩
  go_wp2_with fail
  go_ret
  exact ⟨rfl, hb1⟩

/-- The builder, what the first of the call's heap blocks leaves as it was. -/
structure St (w wr : World) (B : Nat) (g : Option Nat) (l : List Nat) : Prop where
  bld : Bld wr B g l
  below : Below w.heap.size w wr
theorem St.next {w w1 w2 : World} {B : Nat} {g : Option Nat} {l : List Nat} (h : St w w1 B g l) (hb : Below w1.heap.size w1 w2) : St w w2 B g l := ⟨h.bld.below hb, h.below.trans (hb.mono h.below.size)⟩

set_option maxHeartbeats 2000000 in
set_option maxRecDepth 100000 in
theorem walk (A : Option Addr) (l : List Nat) (c : Nat) (w : World) (hl : Bys w A l) (hc : l.length ≤ c) :
    Calls Try.prog 7 #[.slice A l.length c] w fun e w' => e = .returned (.bool true) ∧ Below w.heap.size w w' := by
  by_cases h1 : 300 < l.length
  · exact walk_long A l.length c h1 w
  have hq : ¬ (300 : Int) < (l.length : Int) := by omega
  have HO := Lib.hid (own_lit w)
  have hA1 : Below w.heap.size w (w.alloc (.cells #[] 5)) := (Below.refl _ _).alloc (Nat.le_refl _) _
  have HB := Lib.hid (hl.below (Nat.le_refl _) hA1)
  have hsz : w.heap.size ≤ (w.alloc (.cells #[] 5)).heap.size := by simp
  have HL := Lib.hid hl
  have HC := Lib.hid hc
  have HS : Hid (l.length ≤ 300) := Lib.hid (by omega)
  clear hl hc h1
  go_enter Try.func7, Try.ntmps7
  go_wp2_with ((with_reducible refine wpList_append_t 22 Try.underlying22 rfl (.tmp 13) (.tmp 14) rfl w.heap.size (.slice (some ⟨w.heap.size, 0, none⟩) 0 0) [] rfl HO.out A l l.length c rfl rfl HB.out (by have := HS.out; simp; omega) hsz ?_); intro v1 w1 ho1 hg1 hf1; have hb1 := grown_below hA1 HO.out hg1 hsz; rw [List.nil_append] at ho1; obtain ⟨A1, c1, rfl, hy1, hc1, ha1⟩ := ho1.shape HB.out.2.1 HB.out.2.2; have HO1 := Lib.hid ho1; have HY1 := Lib.hid hy1; have HB1 := Lib.hid hb1; clear ho1 hg1 hf1 hb1 hy1 hc1 ha1)
  have HV1 : Hid (∀ k, (Value.slice A1 l.length c1).ownBlock = some k → w.heap.size ≤ k ∧ k < w1.heap.size) := Lib.hid fun k hk => HO1.out.lt hk
  refine (new_ok A1 l c1 w1 HY1.out (by have := HS.out; omega)).mono ?_
  rintro e w2 ⟨B, g, rfl, hbld, hb2, hB, hg⟩
  have HST := Lib.hid (St.mk hbld (HB1.out.trans (hb2.mono HB1.out.size)) : St w w2 B g l)
  have HNB := Lib.hid (And.intro hB hg)
  have HO2 := Lib.hid (HO1.out.below hb2)
  have HZ2 := Lib.hid hb2.size
  clear hbld hb2 hB hg HY1 HO1
  go_wp2_with fail
  refine (bytes_ok B g l w2 HST.out.bld (by have := HS.out; omega)).mono ?_
  rintro e w3 ⟨v3, rfl, ho3, hb3⟩
  obtain ⟨A3, c3, rfl, hy3, -, -, -⟩ := ho3.slice HB.out.2.1 HB.out.2.2
  have HV3 : Hid (∀ k, (Value.slice A3 l.length c3).ownBlock = some k → w2.heap.size ≤ k) := Lib.hid fun k hk => (OwnB.lt ho3 hk).1
  have HO3 := Lib.hid ho3
  have HST3 := Lib.hid (HST.out.next hb3)
  have HSP := Lib.hid (Spoil.refl (HO2.out.below hb3) HB.out.2.1)
  clear hb3 ho3 hy3 HO2
  go_wp2_with fail
  go_loopw [24] (fun i wr => ∃ k : Nat, k ≤ l.length ∧ i = .int .i64 (k : Int) ∧ Hid (Spoil w3 wr (.slice A1 l.length c1) l.length)) (fun i _ => l.length - (intOf i).toNat)
  case atStart => exact ⟨0, by omega, rfl, HSP⟩
  case round =>
    obtain ⟨j, hj, rfl, hsp⟩ := hrel
    by_cases hlt : j < l.length
    · obtain ⟨g, x, rfl, hx, hcell, hfr, hst⟩ := hsp.out.at hlt
      have hjn : (j : Int) < (l.length : Int) := by omega
      have HST := Lib.hid (hst ((x + 1) % 256) (Nat.mod_lt _ (by omega)))
      obtain ⟨z, hz⟩ : ∃ z : Int, z = (x : Int) := ⟨_, rfl⟩
      have HZ : Hid (V8 ((x + 1) % 256) = .int .u8 ((z + 1) % 256)) := Lib.hid (by rw [hz]; rfl)
      rw [HZ.out] at HST
      rw [← hz] at hcell
      clear hst hsp hz hx
      go_wp2_with fail
      go_roundw
      case rel => exact ⟨j + 1, by omega, by go_num, HST⟩
      case measure => simp [intOf]; omega
    · have hjn : ¬ (j : Int) < (l.length : Int) := by omega
      have HSZ := Lib.hid HST.out.below.size
      have HB4 := Lib.hid (HST3.out.below.trans (hsp.out.below (fun k hk => (HV1.out k hk).1) HST3.out.below.size))
      have HBL4 : Hid (Bld wr B g l) := by
        refine Lib.hid (hsp.out.bld HST3.out.bld (fun h => ?_) (fun k hk h => ?_))
        · have := (HV1.out B h).2; have := HNB.out.1; omega
        · have := (HV1.out k h).2; have := HNB.out.2 k hk; omega
      have HSP4 : Hid (Spoil wr wr (.slice A3 l.length c3) l.length) := by
        refine Lib.hid (Spoil.refl (hsp.out.own HO3.out (fun k hk h => ?_)) HB.out.2.1)
        have := (HV1.out k h).2
        have := HV3.out k hk
        have := HZ2.out
        omega
      have HST4 := Lib.hid (St.mk HBL4.out HB4.out)
      clear hsp
      have hlt4 : Hid (B < w2.heap.size ∧ ∀ k, g = some k → k < w2.heap.size) := Lib.hid HST.out.bld.lt
      go_wp2_with fail
      go_loopw [36] (fun i wq => ∃ k : Nat, k ≤ l.length ∧ i = .int .i64 (k : Int) ∧ Hid (Spoil wr wq (.slice A3 l.length c3) l.length)) (fun i _ => l.length - (intOf i).toNat)
      case atStart => exact ⟨0, by omega, rfl, HSP4⟩
      case round =>
        obtain ⟨j2, hj2, rfl, hsp⟩ := hrel
        by_cases hlt : j2 < l.length
        · obtain ⟨g, x, rfl, hx, hcell, hfr, hst⟩ := hsp.out.at hlt
          have hjn : (j2 : Int) < (l.length : Int) := by omega
          have HST := Lib.hid (hst ((x + 2) % 256) (Nat.mod_lt _ (by omega)))
          obtain ⟨z, hz⟩ : ∃ z : Int, z = (x : Int) := ⟨_, rfl⟩
          have HZ : Hid (V8 ((x + 2) % 256) = .int .u8 ((z + 2) % 256)) := Lib.hid (by rw [hz]; rfl)
          rw [HZ.out] at HST
          rw [← hz] at hcell
          clear hst hsp hz hx
          go_wp2_with fail
          go_roundw
          case rel => exact ⟨j2 + 1, by omega, by go_num, HST⟩
          case measure => simp [intOf]; omega
        · have hjn : ¬ (j2 : Int) < (l.length : Int) := by omega
          have HST5 := Lib.hid (St.mk (hsp.out.bld HST4.out.bld (fun h => by have := HV3.out B h; have := hlt4.out.1; omega) (fun k hk h => by have := HV3.out k h; have := hlt4.out.2 k hk; omega)) (HST4.out.below.trans (hsp.out.below (fun k hk => by have := HV3.out k hk; have := HSZ.out; omega) HST4.out.below.size)))
          clear hsp HSP4 HST4 HBL4 HB4
          go_wp2_with fail
          refine (u8_nil 1 _).mono ?_
          rintro e w5 ⟨rfl, hb⟩
          have HST6 := Lib.hid (HST5.out.next hb)
          clear hb HST5
          go_wp2_with fail
          refine (u64_nil 1 _).mono ?_
          rintro e w6 ⟨rfl, hb⟩
          have HST7 := Lib.hid ((HST6.out.next hb).next ((Below.refl _ _).alloc (Nat.le_refl _) (.cells #[.int .u8 1, .int .u8 2] 5)))
          clear hb HST6
          go_wp2_with fail
          refine (add_nil _ _ _ _).mono ?_
          rintro e w' ⟨rfl, rfl⟩
          go_wp2_with fail
          refine (alive_ok _).mono ?_
          rintro e w7 ⟨rfl, hb⟩
          have HST8 := Lib.hid (HST7.out.next hb)
          clear hb HST7
          go_wp2_with fail
          refine (bytes_ok B g l w7 HST8.out.bld (by have := HS.out; omega)).mono ?_
          rintro e w8 ⟨v8, rfl, ho8, hb⟩
          obtain ⟨A8, c8, rfl, hy8, -, -, -⟩ := ho8.slice HB.out.2.1 HB.out.2.2
          have HST9 := Lib.hid (HST8.out.next hb)
          have HEQ : Hid (Calls Try.prog 18 #[.slice A8 l.length c8, .slice A l.length c] w8 fun e w' => e = .returned (.bool true) ∧ Below w8.heap.size w8 w') := by
            have := equal_ok A8 A l l c8 c w8 hy8 (HL.out.below (Nat.le_refl _) HST9.out.below)
            rw [decide_eq_true rfl] at this
            exact Lib.hid this
          clear hb ho8 hy8 HST8
          go_wp2_with fail
          refine HEQ.out.mono ?_
          rintro e w9 ⟨rfl, hb⟩
          have HB9 := Lib.hid (HST9.out.next hb).below
          clear hb HST9 HEQ
          go_wp2_with fail
          refine (len_nil _).mono ?_
          rintro e w' ⟨rfl, rfl⟩
          go_wp2_with fail
          refine (bytes_nil _).mono ?_
          rintro e w' ⟨rfl, rfl⟩
          go_wp2_with fail
          refine (zeros_nil 1 _).mono ?_
          rintro e w' ⟨rfl, rfl⟩
          go_wp2_with fail
          refine (align_nil 1 _).mono ?_
          rintro e w' ⟨rfl, rfl⟩
          go_wp2_with fail
          refine (set32_nil 0 1 _).mono ?_
          rintro e w' ⟨rfl, rfl⟩
          go_wp2_with fail
          go_ret
          exact ⟨rfl, HB9.out⟩

theorem own : ownKnob Try.prog.godebug = none := by kernel_rfl

set_option maxRecDepth 100000 in
theorem lifted (os : Os) (started : os.Started) (H : Type) (enc : TypeId × Value → H) :
    ReturnsInHanded {} Try.checked os 7 .any (Rows.bufKeepsSpec.pre6 enc Try.prog Try.f7 Rows.bufKeepsRow.domain false) (Rows.bufKeepsSpec.post enc Try.prog Try.f7 false true false false) := by
  refine returnsInHanded_of_change (C := Try.checked) own started (by kernel_rfl) Try.func7
    (ChangeSpec.witness6 (enc := enc) (C := Try.checked) false ⟨#[], #[.slice none 0 0], []⟩ 8 (by kernel_rfl) (by kernel_rfl) (by kernel_rfl) (by kernel_rfl)) ?_
  intro W base args ds gs before hval0 hW hcnd _
  have hval : ∀ (j : Nat) t v, Try.f7.params[j]? = some t → args[j]? = some v → Value.okWide Try.prog W .any base t v := hval0
  have hW' := hW
  obtain ⟨p, q, hA0, hV, rfl, hfz, hnd⟩ := hW
  have hA : DataW.TrodAll enc Try.prog W 0 (fun _ => true) true Try.f7.params.toList args.toList ds p := hA0
  rw [Try.params7] at hA hval
  obtain ⟨v0, vs0, d0, ds0, p0, q0, hargs, rfl, rfl, h0, r0⟩ := trodAll_cons hA
  obtain ⟨rfl, rfl, rfl⟩ := trodAll_nil r0
  obtain rfl : args = #[v0] := by cases args; simp_all
  obtain ⟨rfl, rfl⟩ := trodVars_none hV
  obtain ⟨A0, l0, c0, rfl, hb0, hc0⟩ := open_bytes Try.underlying22 Try.underlying5 (by kernel_rfl) (hval 0 22 v0 rfl rfl) h0
  clear hA0 hval0
  simp only [List.append_nil] at hW'
  refine (walk A0 l0 c0 W hb0 hc0).mono fun e W' ⟨he, hg⟩ => ?_
  subst he
  exact law_post (by kernel_rfl) rfl rfl (by kernel_rfl) (by kernel_rfl) Try.underlying4 hW' hg

/-- WHAT IS PROVED. -/
theorem proved : Rows.BufKeepsSaid :=
  OpenClaim.holds_of_wide 7 Try.f7 rfl rfl rfl rfl rfl rfl rfl ⟨rfl, rfl, rfl, rfl, rfl⟩ rfl rfl rfl rfl rfl (by kernel_rfl) Try.func7 (by kernel_rfl)
    (of_decide_eq_true (by kernel_rfl)) (by unfold Func.isWrapper; first | (rw [if_pos (by decide +kernel)]; kernel_rfl) | (rw [if_neg (by decide +kernel)]; exact ⟨rfl, rfl⟩))
    (fun os started H enc _ => lifted os started H enc)

end Go.Proofs.Ytajkneekehkhbaa.LawKeeps
