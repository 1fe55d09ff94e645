/-
  The law NameInverse returns true: Scan inverts Quote, whatever stands in front of the form and follows it, and the arguments are not changed. For every input: no condition. By the verifier.
-/
import Derived.Test.YtpabccmnhaelnaaNAlive
import Derived.Test.YtpabccmnhaelnaaRows
import Derived.ChangeMaps5
set_option linter.unusedVariables false
namespace Go.Proofs.Ytpabccmnhaelnaa.LawInverse
open Go.RowKit Go.ChangeShapes Go.WideShapes Go.ChangeAt

theorem walk_no (s b a : ByteArray) (hv : ∀ w, Calls Try.prog 11 #[.string s] w fun e w' => e = .returned (.bool false) ∧ w = w') (w : World) :
    Calls Try.prog 5 #[.string s, .string b, .string a] w fun e w' => e = .returned (.bool true) ∧ Below w.heap.size w w' := by
  have HV := Lib.hid hv
  clear hv
  go_enter Try.func5, Try.ntmps5
  go_wp2_with fail
  refine (HV.out _).mono ?_
  rintro e w' ⟨rfl, rfl⟩
  go_wp2_with fail
  refine (alive_ok _).mono ?_
  rintro e w1 ⟨rfl, hb1⟩
  go_wp2_with fail
  go_ret
  exact ⟨rfl, hb1⟩

theorem walk_before (s b a : ByteArray) (h : (100 : Int) < (b.size : Int)) (hv : ∀ w, Calls Try.prog 11 #[.string s] w fun e w' => e = .returned (.bool true) ∧ w = w') (w : World) :
    Calls Try.prog 5 #[.string s, .string b, .string a] w fun e w' => e = .returned (.bool true) ∧ Below w.heap.size w w' := by
  have HV := Lib.hid hv
  clear hv
  go_enter Try.func5, Try.ntmps5
  go_wp2_with fail
  refine (HV.out _).mono ?_
  rintro e w' ⟨rfl, rfl⟩
  go_wp2_with fail
  refine (alive_ok _).mono ?_
  rintro e w1 ⟨rfl, hb1⟩
  go_wp2_with fail
  go_ret
  exact ⟨rfl, hb1⟩

theorem walk_after (s b a : ByteArray) (h0 : ¬ (100 : Int) < (b.size : Int)) (h : (100 : Int) < (a.size : Int)) (hv : ∀ w, Calls Try.prog 11 #[.string s] w fun e w' => e = .returned (.bool true) ∧ w = w') (w : World) :
    Calls Try.prog 5 #[.string s, .string b, .string a] w fun e w' => e = .returned (.bool true) ∧ Below w.heap.size w w' := by
  have HV := Lib.hid hv
  clear hv
  go_enter Try.func5, Try.ntmps5
  go_wp2_with fail
  refine (HV.out _).mono ?_
  rintro e w' ⟨rfl, rfl⟩
  go_wp2_with fail
  refine (alive_ok _).mono ?_
  rintro e w1 ⟨rfl, hb1⟩
  go_wp2_with fail
  go_ret
  exact ⟨rfl, hb1⟩

set_option maxHeartbeats 2000000 in
theorem walk (s b a : ByteArray) (hs : s.size ≤ maxLen) (w : World) :
    Calls Try.prog 5 #[.string s, .string b, .string a] w fun e w' => e = .returned (.bool true) ∧ Below w.heap.size w w' := by
  have hl := (Str.of s).size
  have hv := refvalid_ok s _ (Str.of s) (by omega)
  cases hn : nameB (bytesOf s) with
  | false =>
    rw [hn] at hv
    exact walk_no s b a hv w
  | true =>
    rw [hn] at hv
    by_cases h1 : (100 : Int) < (b.size : Int)
    · exact walk_before s b a h1 hv w
    · by_cases h2 : (100 : Int) < (a.size : Int)
      · exact walk_after s b a h1 h2 hv w
      · have HV := Lib.hid hv
        have HQ := Lib.hid (quote_ok s _ (Str.of s) (by omega))
        have h30 := (nameB_ok.1 hn).2.1
        have hq : quoteV (bytesOf s) = quoteL (bytesOf s) := by unfold quoteV; rw [hn]; rfl
        have hql : (quoteL (bytesOf s)).length ≤ 100 := by
          have := (esc_len (bytesOf s)).2
          simp [quoteL]
          omega
        have hqb : Bs (quoteL (bytesOf s)) := by
          intro y hy
          unfold quoteL at hy
          rcases List.mem_cons.1 hy with rfl | hy
          · omega
          · rcases List.mem_append.1 hy with hy | hy
            · exact esc_bs (bytesOf_bs s) y hy
            · simp at hy; omega
        rw [hq] at HQ
        have hQ : Str (strB (quoteL (bytesOf s))) (quoteL (bytesOf s)) := ⟨rfl, hqb⟩
        have hbz := (Str.of b).size
        have haz := (Str.of a).size
        have ha1 := (Str.of b).add hQ (by omega)
        have hj1 := (Str.of b).join hQ
        rw [← hj1.1] at ha1
        have ha2 := hj1.add (Str.of a) (by simp only [List.length_append]; omega)
        have hj2 := hj1.join (Str.of a)
        rw [← hj2.1] at ha2
        have hsc := scanV_quoted (bytesOf b) (bytesOf s) (bytesOf a) hn
        have HS := Lib.hid (scan_ok _ _ hj2 (by simp only [List.length_append]; unfold maxLen; omega) (b.size : Int))
        unfold ScanIs at HS
        rw [← hbz] at hsc
        rw [hsc] at HS
        simp only [] at HS
        rw [strB_bytesOf] at HS
        have hqs : ((quoteL (bytesOf s)).length : Int) = ((strB (quoteL (bytesOf s))).size : Int) := by rw [strB_size]
        rw [hqs] at HS
        have hq100 : ((strB (quoteL (bytesOf s))).size : Int) ≤ 100 := by rw [strB_size]; omega
        unfold StrRes at HQ
        clear hj1 hj2 hQ hqb hql hq h30 hn hv hs hl hbz haz hsc hqs
        generalize strB (quoteL (bytesOf s)) = q at *
        generalize b ++ q ++ a = t at *
        go_enter Try.func5, Try.ntmps5
        go_wp2_with fail
        refine (HV.out _).mono ?_
        rintro e w' ⟨rfl, rfl⟩
        go_wp2_with fail
        refine (HQ.out _).mono ?_
        rintro e w1 ⟨rfl, hb1⟩
        go_wp2_with fail
        refine (HS.out _).mono ?_
        rintro e w2 ⟨rfl, hb2⟩
        have hB2 := hb1.trans (hb2.mono hb1.size)
        clear hb1 hb2
        go_wp2_with fail
        refine (alive_ok _).mono ?_
        rintro e w3 ⟨rfl, hb3⟩
        have hB3 := hB2.trans (hb3.mono hB2.size)
        clear hB2 hb3
        go_wp2_with fail
        go_ret
        exact ⟨rfl, hB3⟩

theorem own : ownKnob Try.prog.godebug = none := by kernel_rfl

set_option maxRecDepth 100000 in
theorem lifted (os : Os) (started : os.Started) (H : Type) (enc : TypeId × Value → H) :
    ReturnsInHanded {} Try.checked os 5 .any (Rows.nameInverseSpec.pre6 enc Try.prog Try.f5 Rows.nameInverseRow.domain false) (Rows.nameInverseSpec.post enc Try.prog Try.f5 false true false false) := by
  refine returnsInHanded_of_change (C := Try.checked) own started (by kernel_rfl) Try.func5
    (ChangeSpec.witness6 (enc := enc) (C := Try.checked) false ⟨#[], #[.string ⟨#[]⟩, .string ⟨#[]⟩, .string ⟨#[]⟩], []⟩ 8 (by kernel_rfl) (by kernel_rfl) (by kernel_rfl) (by kernel_rfl)) ?_
  intro W base args ds gs before hval0 hW hcnd _
  have hval : ∀ (j : Nat) t v, Try.f5.params[j]? = some t → args[j]? = some v → Value.okWide Try.prog W .any base t v := hval0
  have hW' := hW
  obtain ⟨p, q, hA0, hV, rfl, hfz, hnd⟩ := hW
  have hA : DataW.TrodAll enc Try.prog W 0 (fun _ => true) true Try.f5.params.toList args.toList ds p := hA0
  rw [Try.params5] at hA hval
  obtain ⟨v0, vs0, d0, ds0, p0, q0, hargs, rfl, rfl, h0, r0⟩ := trodAll_cons hA
  obtain ⟨v1, vs1, d1, ds1, p1, q1, rfl, rfl, rfl, h1, r1⟩ := trodAll_cons r0
  obtain ⟨v2, vs2, d2, ds2, p2, q2, rfl, rfl, rfl, h2, r2⟩ := trodAll_cons r1
  obtain ⟨rfl, rfl, rfl⟩ := trodAll_nil r2
  obtain rfl : args = #[v0, v1, v2] := by cases args; simp_all
  obtain ⟨rfl, rfl⟩ := trodVars_none hV
  obtain ⟨s0, rfl, rfl, rfl, ws0⟩ := ChangeMaps.open_string Try.underlying9 (hval 0 9 v0 rfl rfl) h0
  obtain ⟨s1, rfl, rfl, rfl, ws1⟩ := ChangeMaps.open_string Try.underlying9 (hval 1 9 v1 rfl rfl) h1
  obtain ⟨s2, rfl, rfl, rfl, ws2⟩ := ChangeMaps.open_string Try.underlying9 (hval 2 9 v2 rfl rfl) h2
  clear hA0 hval0
  simp only [List.append_nil] at hW'
  refine (walk s0 s1 s2 ws0 W).mono fun e W' ⟨he, hg⟩ => ?_
  subst he
  exact law_post (by kernel_rfl) rfl rfl (by kernel_rfl) (by kernel_rfl) Try.underlying4 hW' hg

/-- WHAT IS PROVED. -/
theorem proved : Rows.NameInverseSaid :=
  OpenClaim.holds_of_wide 5 Try.f5 rfl rfl rfl rfl rfl rfl rfl ⟨rfl, rfl, rfl, rfl, rfl⟩ rfl rfl rfl rfl rfl (by kernel_rfl) Try.func5 (by kernel_rfl)
    (of_decide_eq_true (by kernel_rfl)) (by unfold Func.isWrapper; first | (rw [if_pos (by decide +kernel)]; kernel_rfl) | (rw [if_neg (by decide +kernel)]; exact ⟨rfl, rfl⟩))
    (fun os started H enc _ => lifted os started H enc)

end Go.Proofs.Ytpabccmnhaelnaa.LawInverse
