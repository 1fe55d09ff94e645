/-
  The law LexSpaces returns true: spacing in front of a text moves its tokens and changes nothing else; two texts with a line feed between them have the tokens of both. For every input: no condition. By the verifier.
-/
import Derived.Test.YtmgohahjocdeeaaDoorTAlv
import Derived.Test.YtmgohahjocdeeaaDoorTSam
import Derived.Test.YtmgohahjocdeeaaDoorTSpc
import Derived.Test.YtmgohahjocdeeaaDoorLaid
import Derived.Test.YtmgohahjocdeeaaDoorCards
import Derived.Test.YtmgohahjocdeeaaDoorTie
import Derived.SevenTiedAt
import Derived.ChangeMaps5
set_option linter.unusedVariables false
namespace Go.Proofs.YtmgohahjocdeeaaDoor.LawSpaces
open Go.RowKit Go.ChangeShapes Go.WideShapes Go.ChangeAt

/-- What the reference's Tokens answers, in one form. -/
theorem rt_form {W : World} {nv : List Nat → Option Int} {l : List Nat} {e : Ending} {w' : World} (h : RtP W (tokensV nv l) e w') :
    ∃ (A : Option Addr) (n c : Nat) (x y z : Int), e = .returned (.tuple #[.slice A n c, .int .i64 x, .int .i64 y, .int .i64 z]) ∧ Below W.heap.size W w' ∧ ((tokensV nv l).2 = none → x = 0 ∧ n = (tokensV nv l).1.length ∧ Cells w' A ((tokensV nv l).1.flatMap tokV)) ∧ ((tokensV nv l).2 ≠ none → x ≠ 0) := by
  obtain ⟨hb, h1, h2⟩ := h
  cases ho : (tokensV nv l).2 with
  | none =>
    obtain ⟨A, c, he, hoo⟩ := h1 ho
    obtain ⟨A0, c0, hv, hce, -⟩ := hoo.cells
    injection hv with hA hn hc
    subst hA
    exact ⟨A, _, c, 0, 0, 0, he, hb, fun _ => ⟨rfl, rfl, hce⟩, fun h => absurd rfl h⟩
  | some q =>
    obtain ⟨c, a, b⟩ := q
    refine ⟨none, 0, 0, (c : Int), (a : Int), (b : Int), h2 c a b ho, hb, (fun h => by cases h), fun _ => ?_⟩
    have := toks_code nv _ l (1, 1) c a b ho
    omega

/-- A text, or its beginning. -/
theorem head_cut (s : ByteArray) (m : Int) (hm : 0 ≤ m ∧ m ≤ (s.size : Int)) : ∃ t, Str t ((bytesOf s).take m.toNat) ∧ ∀ w, (Instr.slice 9 (.string s) none (some (.int .i64 m)) none).run Tryd.prog w = .ok (.string t) w := by
  refine ⟨strB ((bytesOf s).take m.toNat), ⟨rfl, (bytesOf_bs s).take _⟩, fun w => ?_⟩
  rw [run_slice_string_to_if w 9 s .i64 m Tryd.underlying9, if_pos ⟨by omega, by omega⟩]
  have h := strB_extract (bytesOf s) 0 m.toNat
  rw [strB_bytesOf] at h
  rw [h, List.drop_zero, Nat.sub_zero]

set_option maxHeartbeats 4000000 in
set_option maxRecDepth 20000 in
theorem walk_skip (a b : ByteArray) (w : World) (hE : Env w) (h : (1000 : Int) < (a.size : Int) ∨ (1000 : Int) < (b.size : Int) ∨ (tokensV numV (bytesOf a)).2 ≠ none ∨ (tokensV numV (bytesOf b)).2 ≠ none) :
    Calls Tryd.prog 7 #[.string a, .string b] w fun e w' => e = .returned (.bool true) ∧ Below w.heap.size w w' := by
  obtain ⟨ta, hta, hca⟩ := head_cut a (min (a.size : Int) 1000) (by omega)
  obtain ⟨tb, htb, hcb⟩ := head_cut b (min (b.size : Int) 1000) (by omega)
  have hla : ((bytesOf a).take (min (a.size : Int) 1000).toNat).length ≤ 1000 := by rw [List.length_take]; omega
  have hlb : ((bytesOf b).take (min (b.size : Int) 1000).toNat).length ≤ 1000 := by rw [List.length_take]; omega
  have hka : (tokensV numV ((bytesOf a).take (min (a.size : Int) 1000).toNat)).1.length ≤ 100000 := by have := toks_len numV (((bytesOf a).take (min (a.size : Int) 1000).toNat).length + 1) ((bytesOf a).take (min (a.size : Int) 1000).toNat) (1, 1); unfold tokensV; omega
  have hkb : (tokensV numV ((bytesOf b).take (min (b.size : Int) 1000).toNat)).1.length ≤ 100000 := by have := toks_len numV (((bytesOf b).take (min (b.size : Int) 1000).toNat).length + 1) ((bytesOf b).take (min (b.size : Int) 1000).toNat) (1, 1); unfold tokensV; omega
  have HRA := Lib.hid (fun W => (rtokens_ok ta _ hta (by omega) hka W).mono fun e w' q => rt_form q)
  have HRB := Lib.hid (fun W => (rtokens_ok tb _ htb (by omega) hkb W).mono fun e w' q => rt_form q)
  have hfa : (a.size : Int) ≤ 1000 → (bytesOf a).take (min (a.size : Int) 1000).toNat = bytesOf a := fun q => List.take_of_length_le (by have := (Str.of a).size; omega)
  have hfb : (b.size : Int) ≤ 1000 → (bytesOf b).take (min (b.size : Int) 1000).toNat = bytesOf b := fun q => List.take_of_length_le (by have := (Str.of b).size; omega)
  have HC : Hid (∀ x1 x2 : Int, ((tokensV numV ((bytesOf a).take (min (a.size : Int) 1000).toNat)).2 ≠ none → x1 ≠ 0) → ((tokensV numV ((bytesOf b).take (min (b.size : Int) 1000).toNat)).2 ≠ none → x2 ≠ 0) → (1000 : Int) < (a.size : Int) ∨ (1000 : Int) < (b.size : Int) ∨ (x1 != 0) = true ∨ (x2 != 0) = true) := Lib.hid fun x1 x2 q1 q2 => by
    by_cases ha : (1000 : Int) < (a.size : Int)
    · exact Or.inl ha
    · by_cases hb : (1000 : Int) < (b.size : Int)
      · exact Or.inr (Or.inl hb)
      · rw [hfa (by omega)] at q1
        rw [hfb (by omega)] at q2
        rcases h with h | h | h | h
        · exact absurd h ha
        · exact absurd h hb
        · exact Or.inr (Or.inr (Or.inl (by rw [bne_iff_ne]; exact q1 h)))
        · exact Or.inr (Or.inr (Or.inr (by rw [bne_iff_ne]; exact q2 h)))
  have HE := Lib.hid hE
  generalize hma : min (a.size : Int) 1000 = ma at *
  generalize hmb : min (b.size : Int) 1000 = mb at *
  generalize tokensV numV ((bytesOf a).take ma.toNat) = ra at *
  generalize tokensV numV ((bytesOf b).take mb.toNat) = rb at *
  clear hta htb hla hlb hka hkb hfa hfb hE h
  go_enter Tryd.func7, Tryd.ntmps7
  go_wp2_with fail
  refine (HRA.out w).mono ?_
  rintro e w1 ⟨A1, n1, c1, x1, y1, z1, rfl, hb1, -, hx1⟩
  go_wp2_with fail
  refine (HRB.out w1).mono ?_
  rintro e w2 ⟨A2, n2, c2, x2, y2, z2, rfl, hb2, -, hx2⟩
  have HB2 := Lib.hid (hb1.trans (hb2.mono hb1.size))
  have HQ := Lib.hid (HC.out x1 x2 hx1 hx2)
  clear hb1 hb2 hx1 hx2
  rcases HQ.out with h | h | h | h
  · go_wp2_with fail
    refine (alive_ok _ (HE.out.below HB2.out)).mono ?_
    rintro e w3 ⟨rfl, hb3⟩
    go_wp2_with fail
    go_ret
    exact ⟨rfl, HB2.out.trans (hb3.mono HB2.out.size)⟩
  all_goals
    go_wp2_with (go_at_call 9; refine (alive_ok _ (HE.out.below HB2.out)).mono ?_; rintro e w3 ⟨rfl, hb3⟩; have HB3 := Lib.hid (HB2.out.trans (hb3.mono HB2.out.size)); clear hb3)
    all_goals
      go_ret
      exact ⟨rfl, HB3.out⟩

set_option maxHeartbeats 8000000 in
set_option maxRecDepth 20000 in
theorem walk_main (a b : ByteArray) (w : World) (hE : Env w) (ha : (a.size : Int) ≤ 1000) (hb : (b.size : Int) ≤ 1000) (oa : (tokensV numV (bytesOf a)).2 = none) (ob : (tokensV numV (bytesOf b)).2 = none) :
    Calls Tryd.prog 7 #[.string a, .string b] w fun e w' => e = .returned (.bool true) ∧ Below w.heap.size w w' := by
  have hsa := Str.of a
  have hsb := Str.of b
  have hza := hsa.size
  have hzb := hsb.size
  obtain ⟨ta, hta, hca⟩ := head_cut a (a.size : Int) (by omega)
  obtain ⟨tb, htb, hcb⟩ := head_cut b (b.size : Int) (by omega)
  have eta : ta = a := hta.ext (by rw [List.take_of_length_le (by omega)]; exact hsa)
  have etb : tb = b := htb.ext (by rw [List.take_of_length_le (by omega)]; exact hsb)
  rw [eta] at hca
  rw [etb] at hcb
  have h10 : Str ⟨#[10]⟩ [10] := ⟨by kernel_rfl, fun x hx => by simp at hx; omega⟩
  have hadd1 := fun W => hsa.add h10 (by simp; omega) W
  have hs1 : Str (strB (bytesOf a ++ [10])) (bytesOf a ++ [10]) := ⟨rfl, hsa.2.append h10.2⟩
  have hadd2 := fun W => hs1.add hsb (by simp; omega) W
  have hs2 : Str (strB (bytesOf a ++ [10] ++ bytesOf b)) (bytesOf a ++ 10 :: bytesOf b) := ⟨by rw [List.append_assoc]; rfl, by rw [show bytesOf a ++ 10 :: bytesOf b = bytesOf a ++ [10] ++ bytesOf b by simp]; exact hs1.2.append hsb.2⟩
  have hka : (tokensV numV (bytesOf a)).1.length ≤ 1001 := by have := toks_len numV ((bytesOf a).length + 1) (bytesOf a) (1, 1); unfold tokensV; omega
  have hkb : (tokensV numV (bytesOf b)).1.length ≤ 1001 := by have := toks_len numV ((bytesOf b).length + 1) (bytesOf b) (1, 1); unfold tokensV; omega
  obtain ⟨hline, hne⟩ := tokens_line numV (bytesOf a) (bytesOf b) oa ob
  have hbd : ∀ t ∈ (tokensV numV (bytesOf b)).1, t.line ≤ 1001 := fun t ht => by have := toks_bound numV _ (bytesOf b) (1, 1) t ht; have e : ((1, 1) : Nat × Nat).1 = 1 := rfl; omega
  have hcn : (bytesOf a).count 10 ≤ 1000 := Nat.le_trans List.count_le_length (by omega)
  have HCT : Hid (∀ W, Calls Tryd.prog 18 #[.string a, .string ⟨#[10]⟩] W fun e w' => e = .returned (.int .i64 (((bytesOf a).count 10 : Nat) : Int)) ∧ W = w') := Lib.hid fun W => (Tryd.strings_Count_one a 10 W).mono fun e w' h => ⟨by rw [h.1, count_bytes], h.2.symm⟩
  have HRA := Lib.hid (fun W => rtokens_ok a _ hsa (by omega) (by omega) W)
  have HRB := Lib.hid (fun W => rtokens_ok b _ hsb (by omega) (by omega) W)
  have HTK := Lib.hid (fun W (hW : Env W) => ptokens_ok _ _ hs2 (by rw [List.length_append, List.length_cons]; omega) (by rw [hline]; simp only [List.length_append, List.length_dropLast, List.length_map]; omega) W hW)
  rw [hline] at HTK
  generalize strB (bytesOf a ++ [10] ++ bytesOf b) = s2 at *
  generalize strB (bytesOf a ++ [10]) = s1 at *
  generalize (bytesOf a).count 10 = cn at *
  generalize hrx : tokensV numV (bytesOf a) = rx at *
  generalize hry : tokensV numV (bytesOf b) = ry at *
  obtain ⟨X, ox⟩ := rx
  obtain ⟨Y, oy⟩ := ry
  have ex : ox = none := oa
  have ey : oy = none := ob
  subst ex ey
  have HE := Lib.hid hE
  have HXN : Hid (1 ≤ X.length ∧ X.length ≤ 1001) := Lib.hid ⟨by rcases Nat.eq_zero_or_pos X.length with h | h; (· exact absurd (List.eq_nil_of_length_eq_zero h) hne); (· omega), hka⟩
  have HYN : Hid (Y.length ≤ 1001) := Lib.hid hkb
  have HBD : Hid (∀ t ∈ Y, t.line ≤ 1001) := Lib.hid hbd
  obtain ⟨L, hL⟩ : ∃ L, L = X.dropLast ++ Y.map (shiftT (1 + cn)) := ⟨_, rfl⟩
  have HTK2 : Hid (∀ W, Env W → Calls Tryd.prog 10 #[.string s2] W fun e w' => TkP W (L, none) e w') := Lib.hid fun W hW => by rw [hL]; exact HTK.out W hW
  have hLn : L.length = X.length + Y.length - 1 := by rw [hL]; have := HXN.out.1; simp only [List.length_append, List.length_dropLast, List.length_map]; omega
  have HL1 : Hid (∀ k (hk : k < L.length) (hx : k < X.length - 1), L[k] = X[k]) := Lib.hid fun k hk hx => by
    subst hL
    rw [List.getElem_append_left (by rw [List.length_dropLast]; exact hx), List.getElem_dropLast]
  have HL2 : Hid (∀ k (hk : k < L.length) (hx : ¬ k < X.length - 1), ∃ j, j = k + 1 - X.length ∧ ∃ hj : j < Y.length, L[k] = shiftT (1 + cn) Y[j]) := Lib.hid fun k hk hx => by
    have h1 := HXN.out.1
    refine ⟨k + 1 - X.length, rfl, by omega, ?_⟩
    subst hL
    rw [List.getElem_append_right (by rw [List.length_dropLast]; omega), List.getElem_map]
    congr 2
    rw [List.length_dropLast]
    omega
  have HLN := Lib.hid hLn
  have hcn2 : (cn : Int) ≤ 1000 := by omega
  have c1 : ¬ (1000 : Int) < (a.size : Int) := by omega
  have c2 : ¬ (1000 : Int) < (b.size : Int) := by omega
  have m1 : min (a.size : Int) 1000 = (a.size : Int) := by omega
  have m2 : min (b.size : Int) 1000 = (b.size : Int) := by omega
  clear hsa hsb hza hzb hta htb eta etb h10 hs1 hs2 hka hkb hline hne hbd hcn HTK oa ob hE hL hLn hrx hry
  go_enter Tryd.func7, Tryd.ntmps7
  go_wp2_with fail
  refine (HRA.out w).mono ?_
  rintro e w1 ⟨hb1, hn1, -⟩
  obtain ⟨A1, q1, rfl, ho1⟩ := hn1 (by trivial)
  obtain ⟨A1', q1', hv, hc1, -⟩ := ho1.cells
  injection hv with hA hn hc
  subst hA
  have H1 := Lib.hid (And.intro hc1 hb1)
  clear hn1 ho1 hc1 hb1 hn hc
  go_wp2_with fail
  refine (HRB.out w1).mono ?_
  rintro e w2 ⟨hb2, hn2, -⟩
  obtain ⟨A2, q2, rfl, ho2⟩ := hn2 (by trivial)
  obtain ⟨A2', q2', hv, hc2, -⟩ := ho2.cells
  injection hv with hA hn hc
  subst hA
  have H2 := Lib.hid (And.intro (H1.out.1.below (Nat.le_refl _) hb2) (And.intro hc2 (H1.out.2.trans (hb2.mono H1.out.2.size))))
  clear hn2 ho2 hc2 hb2 hn hc
  go_wp2_with fail
  refine (HTK2.out w2 (HE.out.below H2.out.2.2)).mono ?_
  rintro e w3 ⟨hb3, hn3, -⟩
  obtain ⟨A3, q3, rfl, ho3⟩ := hn3 (by trivial)
  obtain ⟨A3', q3', hv, hc3, -⟩ := ho3.cells
  injection hv with hA hn hc
  subst hA
  obtain ⟨U, hU⟩ : ∃ U, U = w3.alloc (.cells #[.int .i64 0, .int .i64 0, .int .i64 0] 26) := ⟨_, rfl⟩
  have hUb : Below w3.heap.size w3 U := by rw [hU]; exact (Below.refl _ _).alloc (Nat.le_refl _) _
  have hUr : U.heap[w3.heap.size]? = some (.cells #[.int .i64 0, .int .i64 0, .int .i64 0] 26 (0, 0)) := by rw [hU]; exact heap_alloc_new _ _
  have HCX := Lib.hid (fun k (hk : k < X.length) => tok_cells ((H2.out.1.below (Nat.le_refl _) hb3).below (Nat.le_refl _) hUb) hk)
  have HCY := Lib.hid (fun k (hk : k < Y.length) => tok_cells ((H2.out.2.1.below (Nat.le_refl _) hb3).below (Nat.le_refl _) hUb) hk)
  have HCL := Lib.hid (fun k (hk : k < L.length) => tok_cells (hc3.below (Nat.le_refl _) hUb) hk)
  have HBU := Lib.hid ((H2.out.2.2.trans (hb3.mono H2.out.2.2.size)).trans (hUb.mono (H2.out.2.2.trans (hb3.mono H2.out.2.2.size)).size))
  have x0 := cell_of_row _ _ 0 _ _ _ hUr
  have x1 := cell_of_row _ _ 1 _ _ _ hUr
  have x2 := cell_of_row _ _ 2 _ _ _ hUr
  simp only [List.getElem?_toArray, List.getElem?_cons_zero, List.getElem?_cons_succ] at x0 x1 x2
  have HU := Lib.hid hU.symm
  have hln : ((L.length : Int) != (X.length : Int) + (Y.length : Int) - 1) = false := by have := HLN.out; have := HXN.out; rw [bne_eq_false_iff_eq]; omega
  have hln2 : ¬ ((L.length : Int) = (X.length : Int) + (Y.length : Int) - 1) → False := fun h => h (by have := HLN.out; have := HXN.out; omega)
  have hxn : (X.length : Int) ≤ 1001 := by have := HXN.out; omega
  have hyn : (Y.length : Int) ≤ 1001 := by have := HYN.out; omega
  have hxn1 : (1 : Int) ≤ (X.length : Int) := by have := HXN.out; omega
  clear hUb hUr hU hb3 hn3 ho3 hc3 hn hc
  unfold faultA
  go_wp2_with fail
  rw [HU.out]
  refine (HCT.out U).mono ?_
  rintro e w4 ⟨rfl, rfl⟩
  go_wp2_with fail
  go_loopw [85] (fun i wr => ∃ k : Nat, i = .int .i64 (k : Int) ∧ k ≤ L.length ∧ Hid (Below U.heap.size U wr)) (fun i _ => L.length - (intOf i).toNat)
  case atStart => exact ⟨0, rfl, by omega, Lib.hid (Below.refl _ _)⟩
  case round =>
    obtain ⟨k, rfl, hk, hbw⟩ := hrel
    have hLL := HLN.out
    have hXX := HXN.out
    have hYY := HYN.out
    by_cases hlt : k < L.length
    · have hki : (k : Int) < (L.length : Int) := by omega
      have hk2 : (k : Int) ≤ 2002 := by omega
      obtain ⟨b, o, rfl, hbl, hc⟩ := HCL.out k hlt
      by_cases hx : k < X.length - 1
      · have hkx : (k : Int) < (X.length : Int) - 1 := by omega
        obtain ⟨b1, o1, rfl, hbl1, hd⟩ := HCX.out k (by omega)
        rw [HL1.out k hlt hx] at hc
        generalize X[k]'(by omega) = t at *
        obtain ⟨tk, tt, tv, tl, tc⟩ := t
        obtain ⟨Z, hZ⟩ : ∃ Z, Z = wr.alloc (.cells #[.int .i64 (tk : Int), .string (strB tt), .int .u64 tv, .int .i64 (tl : Int), .int .i64 (tc : Int)] 39) := ⟨_, rfl⟩
        have hZb : Below U.heap.size U Z := by rw [hZ]; exact hbw.out.alloc hbw.out.size _
        have hZr : Z.heap[wr.heap.size]? = some (.cells #[.int .i64 (tk : Int), .string (strB tt), .int .u64 tv, .int .i64 (tl : Int), .int .i64 (tc : Int)] 39 (0, 0)) := by rw [hZ]; exact heap_alloc_new _ _
        obtain ⟨a0, a1, a2, a3, a4⟩ := hc wr hbw.out
        obtain ⟨d0, d1, d2, d3, d4⟩ := hd Z hZb
        have y0 := cell_of_row _ _ 0 _ _ _ hZr
        have y1 := cell_of_row _ _ 1 _ _ _ hZr
        have y2 := cell_of_row _ _ 2 _ _ _ hZr
        have y3 := cell_of_row _ _ 3 _ _ _ hZr
        have y4 := cell_of_row _ _ 4 _ _ _ hZr
        simp only [List.getElem?_toArray, List.getElem?_cons_zero, List.getElem?_cons_succ] at y0 y1 y2 y3 y4
        have HZ := Lib.hid hZ.symm
        have HZB := Lib.hid hZb
        generalize strB tt = tb at *
        have hbw2 : b < wr.heap.size := Nat.lt_of_lt_of_le hbl hbw.out.size
        have hbz : b1 < Z.heap.size := Nat.lt_of_lt_of_le hbl1 hZb.size
        clear hc hd hZ hZb hZr hbl hbl1 hLL hXX hYY
        go_wp2_with fail
        rw [HZ.out]
        go_quiet (fail)
        have HBQ := Lib.hid (below_drewN HZB.out nq)
        go_wp2_with fail
        go_roundw
        case rel => exact ⟨k + 1, by go_num, by omega, HBQ⟩
        case measure => simp [intOf]; omega
      · have hkx : ¬ (k : Int) < (X.length : Int) - 1 := by omega
        obtain ⟨j, hj, hjY, hLk⟩ := HL2.out k hlt hx
        have hji : (k : Int) - (X.length : Int) + 1 = (j : Int) := by omega
        obtain ⟨b1, o1, rfl, hbl1, hd⟩ := HCY.out j hjY
        rw [hLk] at hc
        have hbd := HBD.out _ (List.getElem_mem hjY)
        generalize Y[j]'hjY = t at *
        obtain ⟨tk, tt, tv, tl, tc⟩ := t
        have htl : (tl : Int) ≤ 1001 := by have : tl ≤ 1001 := hbd; omega
        obtain ⟨a0, a1, a2, a3', a4⟩ := hc wr hbw.out
        have a3 : wr.cell? ⟨b, o + k * 5 + 3, none⟩ = some (.int .i64 ((tl : Int) + (1 + (cn : Int)))) := by
          rw [a3']
          show some (Value.int .i64 ((tl + (1 + cn) : Nat) : Int)) = _
          rw [show ((tl + (1 + cn) : Nat) : Int) = (tl : Int) + (1 + (cn : Int)) by omega]
        have a0' : wr.cell? ⟨b, o + k * 5, none⟩ = some (.int .i64 (tk : Int)) := a0
        have a1' : wr.cell? ⟨b, o + k * 5 + 1, none⟩ = some (.string (strB tt)) := a1
        have a2' : wr.cell? ⟨b, o + k * 5 + 2, none⟩ = some (.int .u64 tv) := a2
        have a4' : wr.cell? ⟨b, o + k * 5 + 4, none⟩ = some (.int .i64 (tc : Int)) := a4
        obtain ⟨d0, d1, d2, d3, d4⟩ := hd wr hbw.out
        generalize strB tt = tb at *
        have hbw2 : b < wr.heap.size := Nat.lt_of_lt_of_le hbl hbw.out.size
        have hbz : b1 < wr.heap.size := Nat.lt_of_lt_of_le hbl1 hbw.out.size
        clear hc hd hbl hbl1 hLL hXX hYY a0 a1 a2 a3' a4 hbd hLk hj
        go_wp2_with fail
        go_roundw
        case rel => exact ⟨k + 1, by go_num, by omega, Lib.hid (by first | exact (hbw.out.alloc hbw.out.size _).alloc (hbw.out.alloc hbw.out.size _).size _ | exact ((hbw.out.alloc hbw.out.size _).alloc (hbw.out.alloc hbw.out.size _).size _).setCell (by simp; have := hbw.out.size; omega) _)⟩
        case measure => simp [intOf]; omega
    · have hki : ¬ (k : Int) < (L.length : Int) := by omega
      clear hLL hXX hYY
      have HBW := Lib.hid (HBU.out.trans (hbw.out.mono HBU.out.size))
      go_wp2_with fail
      refine (alive_ok _ (HE.out.below HBW.out)).mono ?_
      rintro e w5 ⟨rfl, hb5⟩
      go_wp2_with fail
      go_ret
      exact ⟨rfl, HBW.out.trans (hb5.mono HBW.out.size)⟩

theorem walk (a b : ByteArray) (w : World) (hE : Env w) :
    Calls Tryd.prog 7 #[.string a, .string b] w fun e w' => e = .returned (.bool true) ∧ Below w.heap.size w w' := by
  by_cases h : (1000 : Int) < (a.size : Int) ∨ (1000 : Int) < (b.size : Int) ∨ (tokensV numV (bytesOf a)).2 ≠ none ∨ (tokensV numV (bytesOf b)).2 ≠ none
  · exact walk_skip a b w hE h
  · simp only [not_or, Classical.not_not] at h
    obtain ⟨h1, h2, h3, h4⟩ := h
    exact walk_main a b w hE (by omega) (by omega) h3 h4
set_option maxRecDepth 100000 in
theorem lifted (os : Os) (started : os.Started) (H : Type) (enc : TypeId × Value → H) :
    ReturnsInHanded {} Tryd.checked os 7 .any (fun w args => (Rows.lexSpacesSpec.pre enc Tryd.prog Tryd.f7 [] false w args ∧ laidMetH Tryd.prog laid1 w) ∧ sizedMet enc Tryd.prog Tryd.f7 (OpenSpec.ofChange Rows.lexSpacesSpec) false w args)
      (Rows.lexSpacesSpec.post enc Tryd.prog Tryd.f7 false true false false) := by
  refine returnsInHanded_of_change_and (C := Tryd.checked) (X := fun w _ => laidMetH Tryd.prog laid1 w) (fun _ _ _ hh h => h.of_heap hh) own started (by kernel_rfl) Tryd.func7
    (ChangeSpec.witness_shaped (enc := enc) (C := Tryd.checked) (os := os) (X := fun w _ => laidMetH Tryd.prog laid1 w) false (World.doorLaid Tryd.prog 62 os) #[.string ⟨#[]⟩, .string ⟨#[]⟩] 8 rfl (World.shaped_of_RefB (by kernel_rfl) (by kernel_rfl)) (by kernel_rfl) (by kernel_rfl) (by kernel_rfl) (door_met os _)) ?_
  intro W base args ds gs before hval0 hW _ _ hL _
  have hval : ∀ (j : Nat) t v, Tryd.f7.params[j]? = some t → args[j]? = some v → Value.okWide Tryd.prog W .any base t v := hval0
  have hW' := hW
  obtain ⟨p, q, hA0, hV, rfl, hfz, hnd⟩ := hW
  have hA : DataW.TrodAll enc Tryd.prog W 0 (fun _ => true) true Tryd.f7.params.toList args.toList ds p := hA0
  rw [Tryd.params7] at hA hval
  obtain ⟨v0, vs0, d0, ds0, p0, q0, hargs, rfl, rfl, h0, r0⟩ := trodAll_cons hA
  obtain ⟨v1, vs1, d1, ds1, p1, q1, rfl, rfl, rfl, h1, r1⟩ := trodAll_cons r0
  obtain ⟨rfl, rfl, rfl⟩ := trodAll_nil r1
  obtain rfl : args = #[v0, v1] := by cases args; simp_all
  obtain ⟨rfl, rfl⟩ := trodVars_none hV
  obtain ⟨s0, rfl, rfl, rfl, ws0⟩ := ChangeMaps.open_string Tryd.underlying9 (hval 0 9 v0 rfl rfl) h0
  obtain ⟨s1, rfl, rfl, rfl, ws1⟩ := ChangeMaps.open_string Tryd.underlying9 (hval 1 9 v1 rfl rfl) h1
  clear hA0 hval0
  simp only [List.append_nil] at hW'
  refine (walk s0 s1 W (env_of_laid hL)).mono fun e W' ⟨he, hg⟩ => ?_
  subst he
  exact law_post (by kernel_rfl) rfl rfl (by kernel_rfl) (by kernel_rfl) Tryd.underlying4 hW' hg

theorem over : Rows.LexSpacesSaid :=
  OpenClaim.holds_of_wide 7 Tryd.f7 rfl rfl rfl rfl rfl rfl rfl ⟨rfl, rfl, rfl, rfl, rfl⟩ rfl rfl rfl rfl rfl (by kernel_rfl) Tryd.func7 (by kernel_rfl)
    (of_decide_eq_true (by kernel_rfl)) (by unfold Func.isWrapper; first | (rw [if_pos (by decide +kernel)]; kernel_rfl) | (rw [if_neg (by decide +kernel)]; exact ⟨rfl, rfl⟩))
    (fun os started H enc _ => lifted os started H enc)

theorem proved : Rows.LexSpacesCardSaid :=
  Claim7.holds_tied_plain_at .later [] Rows.lexSpacesCard.laidKinds true Rows.lexSpacesCard.stood.harness Rows.lexSpacesCard.stood.looks
    over (fun _ h => by cases h) (by kernel_rfl) (fun _ h => by cases h) lexSpaces_row_tie rfl ⟨rfl, rfl⟩ (by kernel_rfl) rfl
    (fun f fn hf hfn => by
      obtain rfl : f = 7 := Option.some.inj ((show Tryd.prog.funcNamed "fenestra/fenestralaw06.LexSpaces" = some 7 by kernel_rfl).symm.trans hf) |>.symm
      obtain rfl : fn = Tryd.f7 := (Option.some.inj (Tryd.func7.symm.trans hfn)).symm
      exact ⟨by kernel_rfl, fun j t ht => by
        rw [Tryd.params7] at ht
        have hm : t ∈ [9, 9] := by simpa using Array.mem_of_getElem? ht
        have hall : ([9, 9].all fun u => !Tryd.prog.wantsStandIn u) = true := by kernel_rfl
        exact (show Tryd.prog.wantsStandIn t = false by simpa using List.all_eq_true.1 hall t hm)⟩)
    (by kernel_rfl)

end Go.Proofs.YtmgohahjocdeeaaDoor.LawSpaces
