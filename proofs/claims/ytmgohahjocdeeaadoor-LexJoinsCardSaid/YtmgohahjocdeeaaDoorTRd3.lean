/-
  Layer 6 (lex): the program's reader of signs. By the verifier.
-/
import Derived.Test.YtmgohahjocdeeaaDoorTRd2
set_option linter.unusedVariables false
namespace Go.Proofs.YtmgohahjocdeeaaDoor
open Go.RowKit

theorem step_store_row {P : Program} {ops : Array Oper} {o : Oper} {a : Act} {w : World} {K : Act → World → Prop} {Q : Exit → Act → World → Prop} {E : Prop} (hgd : o.guard = none) (ty : TypeId) (x y : Operand) (ho : o.op = .store ty x y)
    (g : Nat) (cells : Array Value) (hx : a.eval x = .pointer (some ⟨g, 0, none⟩)) (hy : a.eval y = .agg cells)
    (t : TypeId) (old : Array Value) (hg : w.heap[g]? = some (.cells old t (0, 0))) (hi : (P.info? ty).map (·.size) = some cells.size)
    (hold : old.size = cells.size) (h1 : cells.all (·.oneCell') = true) (h : K (a.put o.dst undef) (w.setRow g cells)) :
    if Region.wanted o (yielded ops a.tmps) = true then Oper.wp P o a w K Q else E := by
  have hw : Region.wanted o (yielded ops a.tmps) = true := by simp [Region.wanted, hgd]
  rw [if_pos hw]
  exact wp_store_row ty x y ho g cells hx hy t old hg hi hold h1 h

set_option maxHeartbeats 1000000 in
set_option maxRecDepth 100000 in
theorem sread (s : ByteArray) (l : List Nat) (hs : Str s l) (hm : l.length ≤ 2000000) (m B : Nat) (hml : m < l.length) (W : World) (h : Cur W B (placeV l m) s m) :
    Calls Tryd.prog 63 #[.pointer (some ⟨B, 0, none⟩)] W fun e w' => RdP W B s l m ⟨0, 4, [l.getD m 0], 0, 1⟩ e w' := by
  obtain ⟨W1, hW1⟩ : ∃ W1, W1 = W.alloc (.cells zeroT 39) := ⟨_, rfl⟩
  have hk : Mk W W1 B zeroT 39 := by rw [hW1]; exact Mk.new _ _ _ _
  have hbox : W.alloc (.cells #[.int .i64 0, .string ⟨#[]⟩, .int .u64 0, .int .i64 0, .int .i64 0] 39) = W1 := hW1.symm
  have hA : At W B (placeV l m) s m W.heap.size zeroT 39 W1 := ⟨h.below hk.below, hk.row, hk.sole, by have := h.lt; omega, Nat.le_refl _⟩
  have HA := Lib.hid hA
  have c3 := hA.cur.c3
  have hb1 := hA.cur.lt
  have e1 : ((m + 1 : Nat) : Int) = (m : Int) + 1 := by omega
  have hG := goTo_ok s l hs hm m (m + 1) B (by omega) (by omega) W1 hA.cur
  rw [e1] at hG
  have HG := Lib.hid hG
  have hcut := hs.one hml
  generalize hq : strB [l.getD m 0] = q at *
  have HQ := Lib.hid hq
  have HE := Lib.hid e1
  have hm1 : (m : Int) ≤ 2000000 := by omega
  clear hk hW1 h hs hA hG hq e1 hml hm
  go_enter Tryd.func63, Tryd.ntmps63
  go_wp2_with (first
    | (go_at_call 22; refine HG.out.mono ?_; rintro e w2 ⟨rfl, hmv⟩; have hA2 := HA.out.move hmv; have HA2 := Lib.hid hA2; have d2 := hA2.cur.c2; have d3 := hA2.cur.c3; have hb2 := hA2.cur.lt; rw [HE.out] at d3; clear hmv hA2 c3 hb1))
  go_still_tail 11, (by kernel_rfl)
  change wpList _ _ _ _ _ w2.drew
  go_wp2_with (refine wpList_store_row rfl _ _ _ rfl W.heap.size #[.int .i64 4, .string q, .int .u64 0, .int .i64 0, .int .i64 0] rfl rfl _ _ HA2.out.drew.row size5T rfl (tok_one _ _ _ _ _) ?_)
  refine bodyPost_ret (v := .tuple #[.agg #[.int .i64 4, .string q, .int .u64 0, .int .i64 0, .int .i64 0], .int .i64 0]) ?_ rfl ⟨by rw [← HQ.out]; rfl, fun _ => (HA2.out.drew.put _).cur, (HA2.out.drew.put _).sole⟩
  refine results_ct rfl _ _ _ _ _ rfl rfl ?_
  exact resT _ _ (HA2.out.drew.put _).row rfl

/-- The reader that choose returns. -/
def choF : List Nat → FuncId
  | [] => 57
  | x :: _ => if letterB x then 59 else if digitB x then 61 else if x = 34 then 62 else if signB x then 63 else 64

theorem cho_cons (x : Nat) (r : List Nat) : choF (x :: r) = if letterB x then 59 else if digitB x then 61 else if x = 34 then 62 else if signB x then 63 else 64 := rfl

theorem cho_cases (l : List Nat) : choF l = 57 ∨ choF l = 59 ∨ choF l = 61 ∨ choF l = 62 ∨ choF l = 63 ∨ choF l = 64 := by
  cases l with
  | nil => exact Or.inl rfl
  | cons x r =>
    rw [cho_cons]
    by_cases h1 : letterB x = true
    · rw [if_pos h1]; exact Or.inr (Or.inl rfl)
    · rw [if_neg h1]
      by_cases h2 : digitB x = true
      · rw [if_pos h2]; exact Or.inr (Or.inr (Or.inl rfl))
      · rw [if_neg h2]
        by_cases h3 : x = 34
        · rw [if_pos h3]; exact Or.inr (Or.inr (Or.inr (Or.inl rfl)))
        · rw [if_neg h3]
          by_cases h4 : signB x = true
          · rw [if_pos h4]; exact Or.inr (Or.inr (Or.inr (Or.inr (Or.inl rfl))))
          · rw [if_neg h4]; exact Or.inr (Or.inr (Or.inr (Or.inr (Or.inr rfl))))

theorem cho_enters (l : List Nat) (args : Array Value) (w : World) : (callFunc (choF l) args).run Tryd.prog w = .ok (.enter (choF l) args) w := by
  rcases cho_cases l with h | h | h | h | h | h
  · rw [h]; exact enters_of Tryd.func57 (by kernel_rfl) rfl args w
  · rw [h]; exact enters_of Tryd.func59 (by kernel_rfl) rfl args w
  · rw [h]; exact enters_of Tryd.func61 (by kernel_rfl) rfl args w
  · rw [h]; exact enters_of Tryd.func62 (by kernel_rfl) rfl args w
  · rw [h]; exact enters_of Tryd.func63 (by kernel_rfl) rfl args w
  · rw [h]; exact enters_of Tryd.func64 (by kernel_rfl) rfl args w

theorem cho_read (s : ByteArray) (l : List Nat) (hs : Str s l) (hm : l.length ≤ 2000000) (m B : Nat) (hml : m ≤ l.length) (W : World) (h : Cur W B (placeV l m) s m) (hE : EnvAt B W) :
    Calls Tryd.prog (choF (l.drop m)) #[.pointer (some ⟨B, 0, none⟩)] W fun e w' => RdP W B s l m (readL numV (l.drop m)) e w' := by
  rcases Nat.lt_or_ge m l.length with hlt | hge
  · have hd := drop_at hlt
    have hlen : (l.drop (m + 1)).length + 1 = (l.drop (m + 1)).length + 1 := rfl
    by_cases h1 : letterB (l.getD m 0) = true
    · have e1 : choF (l.drop m) = 59 := by rw [hd, cho_cons, if_pos h1]
      have e2 : readL numV (l.drop m) = ⟨0, 1, (l.drop m).takeWhile letterB, 0, ((l.drop m).takeWhile letterB).length⟩ := by rw [hd, read_cons, if_pos h1]
      rw [e1, e2]
      exact wread s l hs hm m B hml W h
    · by_cases h2 : digitB (l.getD m 0) = true
      · have e1 : choF (l.drop m) = 61 := by rw [hd, cho_cons, if_neg h1, if_pos h2]
        have e2 : readL numV (l.drop m) = readN ((l.drop m).takeWhile alnumB) (numV ((l.drop m).takeWhile alnumB)) := by rw [hd, read_cons, if_neg h1, if_pos h2]
        rw [e1, e2]
        exact nuread s l hs hm m B hml W h hE
      · by_cases h3 : l.getD m 0 = 34
        · have e1 : choF (l.drop m) = 62 := by rw [hd, cho_cons, if_neg h1, if_neg h2, if_pos h3]
          have e2 : readL numV (l.drop m) = readQ ((l.drop (m + 1)).length + 1) (body (l.drop (m + 1))) := by rw [hd, read_cons, if_neg h1, if_neg h2, if_pos h3]
          rw [e1, e2]
          exact qread s l hs hm m B hlt h3 W h
        · by_cases h4 : signB (l.getD m 0) = true
          · have e1 : choF (l.drop m) = 63 := by rw [hd, cho_cons, if_neg h1, if_neg h2, if_neg h3, if_pos h4]
            have e2 : readL numV (l.drop m) = ⟨0, 4, [l.getD m 0], 0, 1⟩ := by rw [hd, read_cons, if_neg h1, if_neg h2, if_neg h3, if_pos h4]
            rw [e1, e2]
            exact sread s l hs hm m B hlt W h
          · have e1 : choF (l.drop m) = 64 := by rw [hd, cho_cons, if_neg h1, if_neg h2, if_neg h3, if_neg h4]
            have e2 : readL numV (l.drop m) = ⟨3, 0, [], 0, 0⟩ := by rw [hd, read_cons, if_neg h1, if_neg h2, if_neg h3, if_neg h4]
            rw [e1, e2]
            exact nread s l m B W h
  · have hd : l.drop m = [] := List.drop_of_length_le hge
    rw [hd]
    exact zread s l m B W h

end Go.Proofs.YtmgohahjocdeeaaDoor
