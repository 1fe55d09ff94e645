/-
  The law LexJoins returns true: the tokens of a joined text have the same kinds, texts and values as the tokens. For every input: no condition. By the verifier.
-/
import Derived.Test.YtmgohahjocdeeaaDoorTAlv
import Derived.Test.YtmgohahjocdeeaaDoorTJn
import Derived.Test.YtmgohahjocdeeaaDoorTJm
import Derived.Test.YtmgohahjocdeeaaDoorLaid
import Derived.Test.YtmgohahjocdeeaaDoorCards
import Derived.Test.YtmgohahjocdeeaaDoorTie
import Derived.SevenTiedAt
import Derived.ChangeMaps5
set_option linter.unusedVariables false
namespace Go.Proofs.YtmgohahjocdeeaaDoor.LawJoins
open Go.RowKit Go.ChangeShapes Go.WideShapes Go.ChangeAt
/-- What the reference's Tokens answers, in one form. -/
theorem rt_form {W : World} {nv : List Nat → Option Int} {l : List Nat} {e : Ending} {w' : World} (h : RtP W (tokensV nv l) e w') :
    ∃ (A : Option Addr) (n c : Nat) (x y z : Int), e = .returned (.tuple #[.slice A n c, .int .i64 x, .int .i64 y, .int .i64 z]) ∧ Below W.heap.size W w' ∧ ((tokensV nv l).2 = none → x = 0 ∧ n = (tokensV nv l).1.length ∧ Cells w' A ((tokensV nv l).1.flatMap tokV)) ∧ ((tokensV nv l).2 ≠ none → x ≠ 0) := by
  obtain ⟨hb, h1, h2⟩ := h
  cases ho : (tokensV nv l).2 with
  | none =>
    obtain ⟨A, c, he, hoo⟩ := h1 ho
    obtain ⟨A0, c0, hv, hce, -⟩ := hoo.cells
    injection hv with hA hn hc
    subst hA
    exact ⟨A, _, c, 0, 0, 0, he, hb, fun _ => ⟨rfl, rfl, hce⟩, fun h => absurd rfl h⟩
  | some q =>
    obtain ⟨c, a, b⟩ := q
    refine ⟨none, 0, 0, (c : Int), (a : Int), (b : Int), h2 c a b ho, hb, (fun h => by cases h), fun _ => ?_⟩
    have := toks_code nv _ l (1, 1) c a b ho
    omega

/-- A text, or its beginning. -/
theorem head_cut (s : ByteArray) (m : Int) (hm : 0 ≤ m ∧ m ≤ (s.size : Int)) : ∃ t, Str t ((bytesOf s).take m.toNat) ∧ ∀ w, (Instr.slice 9 (.string s) none (some (.int .i64 m)) none).run Tryd.prog w = .ok (.string t) w := by
  refine ⟨strB ((bytesOf s).take m.toNat), ⟨rfl, (bytesOf_bs s).take _⟩, fun w => ?_⟩
  rw [run_slice_string_to_if w 9 s .i64 m Tryd.underlying9, if_pos ⟨by omega, by omega⟩]
  have h := strB_extract (bytesOf s) 0 m.toNat
  rw [strB_bytesOf] at h
  rw [h, List.drop_zero, Nat.sub_zero]

set_option maxHeartbeats 4000000 in
set_option maxRecDepth 20000 in
theorem walk_skip (a : ByteArray) (w : World) (hE : Env w) (h : (2000 : Int) < (a.size : Int) ∨ (tokensV numV (bytesOf a)).2 ≠ none) :
    Calls Tryd.prog 6 #[.string a] w fun e w' => e = .returned (.bool true) ∧ Below w.heap.size w w' := by
  obtain ⟨ta, hta, hca⟩ := head_cut a (min (a.size : Int) 2000) (by omega)
  have hla : ((bytesOf a).take (min (a.size : Int) 2000).toNat).length ≤ 2000 := by rw [List.length_take]; omega
  have hka : (tokensV numV ((bytesOf a).take (min (a.size : Int) 2000).toNat)).1.length ≤ 100000 := by have := toks_len numV (((bytesOf a).take (min (a.size : Int) 2000).toNat).length + 1) ((bytesOf a).take (min (a.size : Int) 2000).toNat) (1, 1); unfold tokensV; omega
  have HRA := Lib.hid (fun W => (rtokens_ok ta _ hta (by omega) hka W).mono fun e w' q => rt_form q)
  have hfa : (a.size : Int) ≤ 2000 → (bytesOf a).take (min (a.size : Int) 2000).toNat = bytesOf a := fun q => List.take_of_length_le (by have := (Str.of a).size; omega)
  have HC : Hid (∀ x1 : Int, ((tokensV numV ((bytesOf a).take (min (a.size : Int) 2000).toNat)).2 ≠ none → x1 ≠ 0) → (2000 : Int) < (a.size : Int) ∨ (x1 != 0) = true) := Lib.hid fun x1 q1 => by
    by_cases ha : (2000 : Int) < (a.size : Int)
    · exact Or.inl ha
    · rw [hfa (by omega)] at q1
      rcases h with h | h
      · exact absurd h ha
      · exact Or.inr (by rw [bne_iff_ne]; exact q1 h)
  have HE := Lib.hid hE
  generalize hma : min (a.size : Int) 2000 = ma at *
  generalize tokensV numV ((bytesOf a).take ma.toNat) = ra at *
  clear hta hla hka hfa hE h
  go_enter Tryd.func6, Tryd.ntmps6
  go_wp2_with fail
  refine (HRA.out w).mono ?_
  rintro e w1 ⟨A1, n1, c1, x1, y1, z1, rfl, hb1, -, hx1⟩
  have HB1 := Lib.hid hb1
  have HQ := Lib.hid (HC.out x1 hx1)
  clear hb1 hx1
  rcases HQ.out with h | h
  all_goals
    go_wp2_with (go_at_call 9; refine (alive_ok _ (HE.out.below HB1.out)).mono ?_; rintro e w3 ⟨rfl, hb3⟩; have HB3 := Lib.hid (HB1.out.trans (hb3.mono HB1.out.size)); clear hb3)
    all_goals
      go_ret
      exact ⟨rfl, HB3.out⟩

theorem join_bs (l : List (List Nat)) (h : ∀ x ∈ l, Bs x) : Bs (joinL l) := by
  induction l with
  | nil => intro z hz; cases hz
  | cons x r ih =>
    cases r with
    | nil => exact h x (List.mem_cons_self ..)
    | cons y r =>
      rw [joinL_cons (by simp)]
      intro z hz
      rcases List.mem_append.1 hz with hz | hz
      · exact h x (List.mem_cons_self ..) z hz
      · rcases List.mem_cons.1 hz with rfl | hz
        · omega
        · exact ih (fun x hx => h x (List.mem_cons_of_mem _ hx)) z hz

set_option maxHeartbeats 8000000 in
set_option maxRecDepth 20000 in
theorem walk_main (a : ByteArray) (w : World) (hE : Env w) (ha : (a.size : Int) ≤ 2000) (oa : (tokensV numV (bytesOf a)).2 = none) :
    Calls Tryd.prog 6 #[.string a] w fun e w' => e = .returned (.bool true) ∧ Below w.heap.size w w' := by
  have hsa := Str.of a
  have hza := hsa.size
  obtain ⟨ta, hta, hca⟩ := head_cut a (a.size : Int) (by omega)
  have eta : ta = a := hta.ext (by rw [List.take_of_length_le (by omega)]; exact hsa)
  rw [eta] at hca
  have hka : (tokensV numV (bytesOf a)).1.length ≤ 2001 := by have := toks_len numV ((bytesOf a).length + 1) (bytesOf a) (1, 1); unfold tokensV; omega
  have htx := fun t ht => toks_text numV ((bytesOf a).length + 1) (bytesOf a) (1, 1) hsa.2 t ht
  obtain ⟨us, hju, hul, hjl, hsm⟩ := tokens_join numV (bytesOf a) oa
  have hJb : Bs (joinL ((tokensV numV (bytesOf a)).1.map tokB)) := join_bs _ fun x hx => by
    obtain ⟨t, ht, rfl⟩ := List.mem_map.1 hx
    unfold tokB quoteV
    split
    · split
      · rename_i hn
        intro z hz
        rcases List.mem_cons.1 hz with rfl | hz
        · omega
        · rcases List.mem_append.1 hz with hz | hz
          · exact esc_bs (nameB_bs hn) z hz
          · have := List.mem_singleton.1 hz; omega
      · intro z hz; cases hz
    · exact (htx t ht).1
  have HRA := Lib.hid (fun W => rtokens_ok a _ hsa (by omega) (by omega) W)
  have HTA := Lib.hid (fun W (hW : Env W) => ptokens_ok a _ hsa (by omega) (by omega) W hW)
  have hsJ : Str (strB (joinL ((tokensV numV (bytesOf a)).1.map tokB))) (joinL ((tokensV numV (bytesOf a)).1.map tokB)) := ⟨rfl, hJb⟩
  have HTJ := Lib.hid (fun W (hW : Env W) => ptokens_ok _ _ hsJ (by omega) (by rw [hju]; show us.length ≤ _; omega) W hW)
  rw [hju] at HTJ
  have HJN := Lib.hid (fun A c W hc => pjoin_ok (tokensV numV (bytesOf a)).1 (by omega) (by omega) (fun t ht => ⟨(htx t ht).1, by have := (htx t ht).2; unfold maxLen; omega⟩) A c W hc)
  generalize strB (joinL ((tokensV numV (bytesOf a)).1.map tokB)) = sj at *
  generalize hrx : tokensV numV (bytesOf a) = rx at *
  obtain ⟨X, ox⟩ := rx
  have ex : ox = none := oa
  subst ex
  have HE := Lib.hid hE
  have HXN : Hid (X.length ≤ 2001) := Lib.hid hka
  have HUL : Hid (us.length = X.length) := Lib.hid hul
  have HSM : Hid (∀ i (h1 : i < us.length) (h2 : i < X.length), sameTok us[i] X[i]) := Lib.hid hsm
  have c1 : ¬ (2000 : Int) < (a.size : Int) := by omega
  have m1 : min (a.size : Int) 2000 = (a.size : Int) := by omega
  clear hsa hza hta eta hka htx hju hul hjl hsm hJb hsJ oa hE hrx
  go_enter Tryd.func6, Tryd.ntmps6
  go_wp2_with fail
  refine (HRA.out w).mono ?_
  rintro e w1 ⟨hb1, hn1, -⟩
  obtain ⟨A1, q1, rfl, ho1⟩ := hn1 (by trivial)
  obtain ⟨A1', q1', hv, hc1, -⟩ := ho1.cells
  injection hv with hA hn hc
  subst hA
  have H1 := Lib.hid (And.intro hc1 hb1)
  clear hn1 ho1 hc1 hb1 hn hc
  go_wp2_with fail
  refine (HTA.out w1 (HE.out.below H1.out.2)).mono ?_
  rintro e w2 ⟨hb2, hn2, -⟩
  obtain ⟨A2, q2, rfl, ho2⟩ := hn2 (by trivial)
  obtain ⟨A2', q2', hv, hc2, -⟩ := ho2.cells
  injection hv with hA hn hc
  subst hA
  obtain ⟨T, hT⟩ : ∃ T, T = w2.alloc (.cells #[.int .i64 0, .int .i64 0, .int .i64 0] 26) := ⟨_, rfl⟩
  have hTb : Below w2.heap.size w2 T := by rw [hT]; exact (Below.refl _ _).alloc (Nat.le_refl _) _
  have H2 := Lib.hid (And.intro ((H1.out.1.below (Nat.le_refl _) hb2).below (Nat.le_refl _) hTb) (And.intro (hc2.below (Nat.le_refl _) hTb) ((H1.out.2.trans (hb2.mono H1.out.2.size)).trans (hTb.mono (H1.out.2.trans (hb2.mono H1.out.2.size)).size))))
  have HT := Lib.hid hT.symm
  clear hn2 ho2 hc2 hb2 hn hc hT hTb
  unfold faultA
  go_wp2_with fail
  rw [HT.out]
  refine (HJN.out A2 q2 T H2.out.2.1).mono ?_
  rintro e w3 ⟨rfl, hb3⟩
  have H3 := Lib.hid (And.intro (H2.out.1.below (Nat.le_refl _) hb3) (H2.out.2.2.trans (hb3.mono H2.out.2.2.size)))
  clear hb3
  go_wp2_with fail
  refine (HTJ.out w3 (HE.out.below H3.out.2)).mono ?_
  rintro e w4 ⟨hb4, hn4, -⟩
  obtain ⟨A4, q4, rfl, ho4⟩ := hn4 (by trivial)
  obtain ⟨A4', q4', hv, hc4, -⟩ := ho4.cells
  injection hv with hA hn hc
  subst hA
  obtain ⟨U, hU⟩ : ∃ U, U = w4.alloc (.cells #[.int .i64 0, .int .i64 0, .int .i64 0] 26) := ⟨_, rfl⟩
  have hUb : Below w4.heap.size w4 U := by rw [hU]; exact (Below.refl _ _).alloc (Nat.le_refl _) _
  have hUr : U.heap[w4.heap.size]? = some (.cells #[.int .i64 0, .int .i64 0, .int .i64 0] 26 (0, 0)) := by rw [hU]; exact heap_alloc_new _ _
  have HCX := Lib.hid (fun k (hk : k < X.length) => tok_cells ((H3.out.1.below (Nat.le_refl _) hb4).below (Nat.le_refl _) hUb) hk)
  have HCU := Lib.hid (fun k (hk : k < us.length) => tok_cells (hc4.below (Nat.le_refl _) hUb) hk)
  have HBU := Lib.hid ((H3.out.2.trans (hb4.mono H3.out.2.size)).trans (hUb.mono (H3.out.2.trans (hb4.mono H3.out.2.size)).size))
  have HU := Lib.hid hU.symm
  have hln : ((us.length : Int) != (X.length : Int)) = false := by have := HUL.out; rw [bne_eq_false_iff_eq]; omega
  have hln3 : (us.length : Int) = (X.length : Int) := by have := HUL.out; omega
  have hxn : (X.length : Int) ≤ 2001 := by have := HXN.out; omega
  clear hUb hUr hU hb4 hn4 ho4 hc4 hn hc
  unfold faultA
  go_wp2_with fail
  rw [HU.out]
  go_loopw [54] (fun i wr => ∃ k : Nat, i = .int .i64 (k : Int) ∧ k ≤ X.length ∧ Hid (Below U.heap.size U wr)) (fun i _ => X.length - (intOf i).toNat)
  case atStart => exact ⟨0, rfl, by omega, Lib.hid (Below.refl _ _)⟩
  case round =>
    obtain ⟨k, rfl, hk, hbw⟩ := hrel
    have hXX := HXN.out
    have hUU := HUL.out
    by_cases hlt : k < X.length
    · have hki : (k : Int) < (X.length : Int) := by omega
      have hki2 : (k : Int) < (us.length : Int) := by omega
      have hk2 : (k : Int) ≤ 2002 := by omega
      obtain ⟨b, o, rfl, hbl, hc⟩ := HCU.out k (by omega)
      obtain ⟨b1, o1, rfl, hbl1, hd⟩ := HCX.out k hlt
      obtain ⟨e1, e2, e3⟩ := HSM.out k (by omega) hlt
      obtain ⟨a0, a1, a2, -, -⟩ := hc wr hbw.out
      obtain ⟨d0, d1, d2, -, -⟩ := hd wr hbw.out
      rw [e1] at a0
      rw [e2] at a1
      rw [e3] at a2
      generalize (X[k]'hlt).kind = tk at *
      generalize strB (X[k]'hlt).text = tb at *
      generalize (X[k]'hlt).val = tv at *
      have hbw2 : b < wr.heap.size := Nat.lt_of_lt_of_le hbl hbw.out.size
      have hbz : b1 < wr.heap.size := Nat.lt_of_lt_of_le hbl1 hbw.out.size
      clear hc hd hbl hbl1 hXX hUU e1 e2 e3
      go_wp2_with fail
      go_quiet (fail)
      have HBQ := Lib.hid (below_drewN hbw.out nq)
      go_wp2_with fail
      go_roundw
      case rel => exact ⟨k + 1, by go_num, by omega, HBQ⟩
      case measure => simp [intOf]; omega
    · have hki : ¬ (k : Int) < (X.length : Int) := by omega
      have hki2 : ¬ (k : Int) < (us.length : Int) := by omega
      clear hXX hUU
      have HBW := Lib.hid (HBU.out.trans (hbw.out.mono HBU.out.size))
      go_wp2_with fail
      refine (alive_ok _ (HE.out.below HBW.out)).mono ?_
      rintro e w5 ⟨rfl, hb5⟩
      go_wp2_with fail
      go_ret
      exact ⟨rfl, HBW.out.trans (hb5.mono HBW.out.size)⟩

theorem walk (a : ByteArray) (w : World) (hE : Env w) :
    Calls Tryd.prog 6 #[.string a] w fun e w' => e = .returned (.bool true) ∧ Below w.heap.size w w' := by
  by_cases h : (2000 : Int) < (a.size : Int) ∨ (tokensV numV (bytesOf a)).2 ≠ none
  · exact walk_skip a w hE h
  · simp only [not_or, Classical.not_not] at h
    obtain ⟨h1, h2⟩ := h
    exact walk_main a w hE (by omega) h2
set_option maxRecDepth 100000 in
theorem lifted (os : Os) (started : os.Started) (H : Type) (enc : TypeId × Value → H) :
    ReturnsInHanded {} Tryd.checked os 6 .any (fun w args => (Rows.lexJoinsSpec.pre enc Tryd.prog Tryd.f6 [] false w args ∧ laidMetH Tryd.prog laid1 w) ∧ sizedMet enc Tryd.prog Tryd.f6 (OpenSpec.ofChange Rows.lexJoinsSpec) false w args)
      (Rows.lexJoinsSpec.post enc Tryd.prog Tryd.f6 false true false false) := by
  refine returnsInHanded_of_change_and (C := Tryd.checked) (X := fun w _ => laidMetH Tryd.prog laid1 w) (fun _ _ _ hh h => h.of_heap hh) own started (by kernel_rfl) Tryd.func6
    (ChangeSpec.witness_shaped (enc := enc) (C := Tryd.checked) (os := os) (X := fun w _ => laidMetH Tryd.prog laid1 w) false (World.doorLaid Tryd.prog 62 os) #[.string ⟨#[]⟩] 8 rfl (World.shaped_of_RefB (by kernel_rfl) (by kernel_rfl)) (by kernel_rfl) (by kernel_rfl) (by kernel_rfl) (door_met os _)) ?_
  intro W base args ds gs before hval0 hW _ _ hL _
  have hval : ∀ (j : Nat) t v, Tryd.f6.params[j]? = some t → args[j]? = some v → Value.okWide Tryd.prog W .any base t v := hval0
  have hW' := hW
  obtain ⟨p, q, hA0, hV, rfl, hfz, hnd⟩ := hW
  have hA : DataW.TrodAll enc Tryd.prog W 0 (fun _ => true) true Tryd.f6.params.toList args.toList ds p := hA0
  rw [Tryd.params6] at hA hval
  obtain ⟨v0, vs0, d0, ds0, p0, q0, hargs, rfl, rfl, h0, r0⟩ := trodAll_cons hA
  obtain ⟨rfl, rfl, rfl⟩ := trodAll_nil r0
  obtain rfl : args = #[v0] := by cases args; simp_all
  obtain ⟨rfl, rfl⟩ := trodVars_none hV
  obtain ⟨s0, rfl, rfl, rfl, ws0⟩ := ChangeMaps.open_string Tryd.underlying9 (hval 0 9 v0 rfl rfl) h0
  clear hA0 hval0
  simp only [List.append_nil] at hW'
  refine (walk s0 W (env_of_laid hL)).mono fun e W' ⟨he, hg⟩ => ?_
  subst he
  exact law_post (by kernel_rfl) rfl rfl (by kernel_rfl) (by kernel_rfl) Tryd.underlying4 hW' hg

theorem over : Rows.LexJoinsSaid :=
  OpenClaim.holds_of_wide 6 Tryd.f6 rfl rfl rfl rfl rfl rfl rfl ⟨rfl, rfl, rfl, rfl, rfl⟩ rfl rfl rfl rfl rfl (by kernel_rfl) Tryd.func6 (by kernel_rfl)
    (of_decide_eq_true (by kernel_rfl)) (by unfold Func.isWrapper; first | (rw [if_pos (by decide +kernel)]; kernel_rfl) | (rw [if_neg (by decide +kernel)]; exact ⟨rfl, rfl⟩))
    (fun os started H enc _ => lifted os started H enc)

theorem proved : Rows.LexJoinsCardSaid :=
  Claim7.holds_tied_plain_at .later [] Rows.lexJoinsCard.laidKinds true Rows.lexJoinsCard.stood.harness Rows.lexJoinsCard.stood.looks
    over (fun _ h => by cases h) (by kernel_rfl) (fun _ h => by cases h) lexJoins_row_tie rfl ⟨rfl, rfl⟩ (by kernel_rfl) rfl
    (fun f fn hf hfn => by
      obtain rfl : f = 6 := Option.some.inj ((show Tryd.prog.funcNamed "fenestra/fenestralaw06.LexJoins" = some 6 by kernel_rfl).symm.trans hf) |>.symm
      obtain rfl : fn = Tryd.f6 := (Option.some.inj (Tryd.func6.symm.trans hfn)).symm
      exact ⟨by kernel_rfl, fun j t ht => by
        rw [Tryd.params6] at ht
        have hm : t ∈ [9] := by simpa using Array.mem_of_getElem? ht
        have hall : ([9].all fun u => !Tryd.prog.wantsStandIn u) = true := by kernel_rfl
        exact (show Tryd.prog.wantsStandIn t = false by simpa using List.all_eq_true.1 hall t hm)⟩)
    (by kernel_rfl)

end Go.Proofs.YtmgohahjocdeeaaDoor.LawJoins
