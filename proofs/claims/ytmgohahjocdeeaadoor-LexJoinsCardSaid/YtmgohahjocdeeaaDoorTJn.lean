/-
  Layer 6 (lex): the program's Join. By the verifier.
-/
import Derived.Test.YtmgohahjocdeeaaDoorTSam
import Derived.Test.YtmgohahjocdeeaaDoorTSpc
import Derived.Test.YtmgohahjocdeeaaDoorShelfJ
set_option linter.unusedVariables false
namespace Go.Proofs.YtmgohahjocdeeaaDoor
open Go.RowKit

theorem infoS : (Tryd.prog.info? 9).map (fun i => (i.zero, i.size, i.bytes)) = some (some (.string ⟨#[]⟩), 1, 16) := by kernel_rfl

/-- make([]string, n) -/
theorem wpList_makeS (w : World) {ops : Array Oper} {rest : List Oper} {o : Oper} {a : Act} {Q : Exit → Act → World → Prop}
    (hg : o.guard = none) (l c : Operand) (hop : o.op = Op.makeSlice 70 l c)
    (L C : Int) (n : Nat) (hl : a.eval l = .int .i64 L) (hc : a.eval c = .int .i64 C) (hL : L = (n : Int)) (hC : C = (n : Int)) (hn : n ≤ 1000000)
    (hK : ∀ w', Row w' w.heap.size 9 n (fun _ => .string ⟨#[]⟩) → Below w.heap.size w w' → w'.heap.size = w.heap.size + 1 → wpList Tryd.prog ops Q rest (a.put o.dst (.slice (some ⟨w.heap.size, 0, none⟩) n n)) w') :
    wpList Tryd.prog ops Q (o :: rest) a w := by
  obtain ⟨i, h2, h3, h4, h5⟩ := info_parts infoS
  refine wpList_plain hg fun K hK' => ?_
  have hrun := run_make (P := Tryd.prog) w 70 9 i (.string ⟨#[]⟩) Tryd.underlying70 h2 h3 .i64 .i64 (n : Int) (n : Int) (by omega) (by omega) (by rw [h5]; omega) (by omega)
  subst hL
  subst hC
  unfold Oper.wp
  simp [execOp, hop, hl, hc, hrun, Result.andThen]
  have e : madeCells (Value.string ⟨#[]⟩).cells (n * i.size) = rowOf n (fun _ => .string ⟨#[]⟩) := by
    rw [h4, Nat.mul_one]
    apply Array.ext_getElem?
    intro j
    by_cases hj : j < n
    · rw [rowOf_get _ hj]
      simp [madeCells, Value.cells, hj, Nat.mod_one]
    · rw [Array.getElem?_eq_none (by rw [size_madeCells]; omega), Array.getElem?_eq_none (by rw [rowOf_size]; omega)]
  rw [e]
  exact hK' _ _ (hK _ (heap_alloc_new w _) ((Below.refl _ _).alloc (Nat.le_refl _) _) (by simp))

theorem joinL_lib (l : List (List Nat)) : Lib.join (l.map fun x => x.map UInt8.ofNat) [32] = (joinL l).map UInt8.ofNat := by
  unfold Lib.join
  induction l with
  | nil => rfl
  | cons x r ih =>
    cases r with
    | nil => simp [List.intercalate, joinL]
    | cons y r =>
      have e : List.map UInt8.ofNat (32 :: joinL (y :: r)) = UInt8.ofNat 32 :: List.map UInt8.ofNat (joinL (y :: r)) := rfl
      rw [joinL_cons (by simp), List.map_append, e, ← ih]
      simp [List.intercalate]
      try rfl

/-- The k-th part. -/
def partS (ts : List Tok) (j : Nat) : Value := .string (strB (tokB (ts.getD j ⟨0, [], 0, 0, 0⟩)))
def partF (ts : List Tok) (k : Nat) : Nat → Value := fun j => if j < k then partS ts j else .string ⟨#[]⟩

theorem partF_step (ts : List Tok) (k : Nat) {w : World} {g n : Nat} {old : Nat → Value} (hk : k < n) (h : Row w g 9 n old) (ho : ∀ j, j ≠ k → old j = partF ts k j) : Row (w.setCell ⟨g, k, none⟩ (partS ts k)) g 9 n (partF ts (k + 1)) :=
  (h.set (i := k) hk (partS ts k)).congr fun j hj => by
    by_cases e : j = k
    · subst e
      rw [if_pos rfl]
      unfold partF
      rw [if_pos (by omega)]
    · rw [if_neg e, ho j e]
      unfold partF
      by_cases h1 : j < k
      · rw [if_pos h1, if_pos (by omega)]
      · rw [if_neg h1, if_neg (by omega)]

set_option maxHeartbeats 4000000 in
set_option maxRecDepth 20000 in
theorem pjoin_ok (ts : List Tok) (hl : ts.length ≤ 100000) (hj : (joinL (ts.map tokB)).length ≤ 140737488355328) (hbs : ∀ t ∈ ts, Bs t.text ∧ t.text.length ≤ maxLen) (A : Option Addr) (c : Nat) (w : World) (hc : Cells w A (ts.flatMap tokV)) :
    Calls Tryd.prog 17 #[.slice A ts.length c] w fun e w' => e = .returned (.string (strB (joinL (ts.map tokB)))) ∧ Below w.heap.size w w' := by
  have HC := Lib.hid (fun k (hk : k < ts.length) => tok_cells hc hk)
  have HL := Lib.hid hl
  have HBS := Lib.hid hbs
  have HJ : Hid (∀ W g, g < W.heap.size → Row W g 9 ts.length (partF ts ts.length) → Calls Tryd.prog 31 #[.slice (some ⟨g, 0, none⟩) ts.length ts.length, .string ⟨#[32]⟩] W fun e w' => e = .returned (.string (strB (joinL (ts.map tokB)))) ∧ Below W.heap.size W w') := Lib.hid fun W g hg hr => by
    have hx : ((ts.map fun t => strB (tokB t)).map (·.data.toList)) = (ts.map tokB).map fun x => x.map UInt8.ofNat := by
      rw [List.map_map, List.map_map]
      apply List.map_congr_left
      intro t ht
      show (strB (tokB t)).data.toList = _
      rw [strB_mk]
      rfl
    have hlen : (Lib.join ((ts.map fun t => strB (tokB t)).map (·.data.toList)) (⟨#[32]⟩ : ByteArray).data.toList).length ≤ 140737488355328 := by
      rw [hx]
      show (Lib.join _ [32]).length ≤ _
      rw [joinL_lib, List.length_map]
      exact hj
    have h := Tryd.strings_Join g 0 ts.length (ts.map fun t => strB (tokB t)) ⟨#[32]⟩ W (fun j x hjx => by
      have hjl : j < ts.length := by
        rcases Nat.lt_or_ge j ts.length with h1 | h1
        · exact h1
        · rw [List.getElem?_eq_none (by simpa using h1)] at hjx; cases hjx
      rw [Nat.zero_add, hr.cell hjl]
      unfold partF
      rw [if_pos hjl]
      unfold partS
      rw [List.getElem?_map, List.getElem?_eq_getElem hjl] at hjx
      injection hjx with hjx
      rw [← hjx]
      simp [List.getD, hjl]) hg (by simp; omega) (by simp) hlen
    rw [List.length_map] at h
    refine h.mono fun e w' q => ⟨?_, q.2⟩
    rw [q.1, hx]
    show Ending.returned (.string ⟨(Lib.join _ [32]).toArray⟩) = _
    rw [joinL_lib, strB_mk]
  clear hc hl hbs hj
  have hl2 : (ts.length : Int) ≤ 100000 := by have := HL.out; omega
  go_enter Tryd.func17, Tryd.ntmps17
  go_wp2_with (refine wpList_makeS w rfl _ _ rfl (ts.length : Int) (ts.length : Int) ts.length rfl rfl rfl rfl (by have := HL.out; omega) ?_; intro w1 hr1 hb1 hs1; have H1 := Lib.hid (And.intro hr1 (And.intro hb1 hs1)); clear hr1 hb1 hs1)
  go_loopw [11] (fun i wr => ∃ k : Nat, i = .int .i64 (k : Int) ∧ k ≤ ts.length ∧ Hid (Row wr w.heap.size 9 ts.length (partF ts k) ∧ Below w.heap.size w wr)) (fun i _ => ts.length - (intOf i).toNat)
  case atStart => exact ⟨0, rfl, by omega, Lib.hid ⟨H1.out.1.congr fun i hi => by unfold partF; rw [if_neg (by omega)], H1.out.2.1⟩⟩
  case round =>
    obtain ⟨k, rfl, hk, ho⟩ := hrel
    by_cases hlt : k < ts.length
    · have hki : (k : Int) < (ts.length : Int) := by omega
      have hk2 : (k : Int) ≤ 100000 := by omega
      obtain ⟨b, o, rfl, hbl, hd⟩ := HC.out k hlt
      have hp : partS ts k = .string (strB (tokB ts[k])) := by unfold partS; simp [List.getD, hlt]
      have hbt := HBS.out ts[k] (List.getElem_mem hlt)
      generalize ts[k] = t at *
      obtain ⟨tk, tt, tv, tl, tc⟩ := t
      obtain ⟨a0, a1, a2, a3, a4⟩ := hd wr ho.out.2
      have hbw : b < wr.heap.size := Nat.lt_of_lt_of_le hbl ho.out.2.size
      obtain ⟨X, hX⟩ : ∃ X, X = wr.alloc (.cells #[.int .i64 (tk : Int), .string (strB tt), .int .u64 tv, .int .i64 (tl : Int), .int .i64 (tc : Int)] 39) := ⟨_, rfl⟩
      have hXb : Below w.heap.size w X := by rw [hX]; exact ho.out.2.alloc ho.out.2.size _
      have hXr : Row X w.heap.size 9 ts.length (partF ts k) := by rw [hX]; exact ho.out.1.alloc _
      have hX5 : X.heap[wr.heap.size]? = some (.cells #[.int .i64 (tk : Int), .string (strB tt), .int .u64 tv, .int .i64 (tl : Int), .int .i64 (tc : Int)] 39 (0, 0)) := by rw [hX]; exact heap_alloc_new _ _
      have x0 : X.cell? ⟨wr.heap.size, 0, none⟩ = some (.int .i64 (tk : Int)) := cell_of_row _ _ 0 _ _ _ hX5
      have x1 : X.cell? ⟨wr.heap.size, 1, none⟩ = some (.string (strB tt)) := cell_of_row _ _ 1 _ _ _ hX5
      have g0 : X.cell? ⟨w.heap.size, k, none⟩ = some (.string ⟨#[]⟩) := by rw [hXr.cell hlt]; unfold partF; rw [if_neg (by omega)]
      have g1 : X.frozen? ⟨w.heap.size, k, none⟩ = false := hXr.free k
      have hne : ¬ w.heap.size = wr.heap.size := by have := ho.out.1.lt; omega
      have hne2 : ¬ wr.heap.size = w.heap.size := fun e => hne e.symm
      have hbox : wr.alloc (.cells #[.int .i64 (tk : Int), .string (strB tt), .int .u64 tv, .int .i64 (tl : Int), .int .i64 (tc : Int)] 39) = X := hX.symm
      by_cases h3 : tk = 3
      · subst h3
        have hpq : partS ts k = .string (strB (quoteV tt)) := by rw [hp]; unfold tokB; rw [if_pos rfl]
        have hbox3 : wr.alloc (.cells #[.int .i64 3, .string (strB tt), .int .u64 tv, .int .i64 (tl : Int), .int .i64 (tc : Int)] 39) = X := hbox
        have x3 : X.cell? ⟨wr.heap.size, 0, none⟩ = some (.int .i64 3) := x0
        clear hbox x0
        obtain ⟨Y, hY⟩ : ∃ Y, Y = X.setCell ⟨w.heap.size, k, none⟩ (.string (strB tt)) := ⟨_, rfl⟩
        have hYb : Below w.heap.size w Y := by rw [hY]; exact hXb.setCell (Nat.le_refl _) _
        have hYr : Row Y w.heap.size 9 ts.length (fun j => if j = k then .string (strB tt) else partF ts k j) := by rw [hY]; exact hXr.set hlt _
        have HY := Lib.hid (And.intro hYr hYb)
        have HYX := Lib.hid hY.symm
        have HQ := Lib.hid (fun W => quote_ok (strB tt) tt ⟨rfl, hbt.1⟩ hbt.2 W)
        unfold StrRes at HQ
        have HPQ := Lib.hid hpq
        generalize strB (quoteV tt) = qv at *
        generalize strB tt = tb at *
        clear hd hbl hX hXb hXr hX5 hY hYb hYr hp hpq hbt
        go_wp2_with fail
        rw [HYX.out]
        refine (HQ.out Y).mono ?_
        rintro e w3 ⟨rfl, hb3⟩
        have hr3 : Row w3 w.heap.size 9 ts.length (fun j => if j = k then .string tb else partF ts k j) := by
          unfold Row
          rw [hb3.block _ (HY.out.1.lt)]
          exact HY.out.1
        have k0 : w3.cell? ⟨w.heap.size, k, none⟩ = some (.string tb) := by rw [hr3.cell hlt, if_pos rfl]
        have k1 : w3.frozen? ⟨w.heap.size, k, none⟩ = false := hr3.free k
        have hfin := partF_step ts k hlt hr3 (fun j hj => if_neg hj)
        rw [HPQ.out] at hfin
        have HF := Lib.hid (And.intro hfin ((HY.out.2.trans (hb3.mono HY.out.2.size)).setCell (p := ⟨w.heap.size, k, none⟩) (Nat.le_refl _) (.string qv)))
        clear hr3 hb3 hfin
        go_wp2_with fail
        go_roundw
        case rel => exact ⟨k + 1, by go_num, by omega, HF⟩
        case measure => simp [intOf]; omega
      · have hpq : partS ts k = .string (strB tt) := by rw [hp]; unfold tokB; rw [if_neg h3]
        have hfin := partF_step ts k hlt hXr (fun j hj => rfl)
        rw [hpq] at hfin
        have HF := Lib.hid (And.intro hfin (hXb.setCell (p := ⟨w.heap.size, k, none⟩) (Nat.le_refl _) (.string (strB tt))))
        have e3 := ne_beq h3 3 rfl
        generalize strB tt = tb at *
        clear hd hbl hX hXb hXr hX5 hp hpq hbt hfin h3
        go_wp2_with fail
        go_roundw
        case rel => exact ⟨k + 1, by go_num, by omega, HF⟩
        case measure => simp [intOf]; omega
    · have hki : ¬ (k : Int) < (ts.length : Int) := by omega
      obtain rfl : k = ts.length := by omega
      have HJ2 := Lib.hid (HJ.out wr w.heap.size ho.out.1.lt ho.out.1)
      go_wp2_with fail
      refine HJ2.out.mono ?_
      rintro e w2 ⟨rfl, hb2⟩
      go_wp2_with fail
      go_ret
      exact ⟨rfl, ho.out.2.trans (hb2.mono ho.out.2.size)⟩

end Go.Proofs.YtmgohahjocdeeaaDoor
