/-
  Layer 6 (lex): choose, the faults, the cursor's next. By the verifier.
-/
import Derived.Test.YtmgohahjocdeeaaDoorTRd3
set_option linter.unusedVariables false
namespace Go.Proofs.YtmgohahjocdeeaaDoor
open Go.RowKit

theorem fault_ok (a b c : Int) (w : World) :
    Calls Tryd.prog 23 #[.agg #[.int .i64 a, .int .i64 b], .int .i64 c] w fun e w' => e = .returned (.agg #[.int .i64 c, .int .i64 a, .int .i64 b]) ∧ Below w.heap.size w w' := by
  obtain ⟨W2, hW2⟩ : ∃ W2, W2 = (w.alloc (.cells #[.int .i64 a, .int .i64 b] 59)).alloc (.cells #[.int .i64 0, .int .i64 0, .int .i64 0] 26) := ⟨_, rfl⟩
  have hb1 : Below w.heap.size w (w.alloc (.cells #[.int .i64 a, .int .i64 b] 59)) := (Below.refl _ _).alloc (Nat.le_refl _) _
  have hs1 : (w.alloc (.cells #[.int .i64 a, .int .i64 b] 59)).heap.size = w.heap.size + 1 := by simp
  have hb2 : Below w.heap.size w W2 := by rw [hW2]; exact hb1.alloc hb1.size _
  have hp : W2.heap[w.heap.size]? = some (.cells #[.int .i64 a, .int .i64 b] 59 (0, 0)) := by
    rw [hW2]
    exact (((Below.refl _ _).alloc (Nat.le_refl _) _).block w.heap.size (by omega)).trans (heap_alloc_new w _)
  have hr : W2.heap[w.heap.size + 1]? = some (.cells #[.int .i64 0, .int .i64 0, .int .i64 0] 26 (0, 0)) := by
    rw [hW2, ← hs1]
    exact heap_alloc_new _ _
  have p0 : W2.cell? ⟨w.heap.size, 0, none⟩ = some (.int .i64 a) := cell_of_row _ _ 0 _ _ _ hp
  have p1 : W2.cell? ⟨w.heap.size, 1, none⟩ = some (.int .i64 b) := cell_of_row _ _ 1 _ _ _ hp
  have HR := Lib.hid hr
  have HB := Lib.hid hb2
  have hbox := hW2.symm
  clear hb1 hs1 hb2 hp hr hW2
  go_enter Tryd.func23, Tryd.ntmps23
  go_wp2_with (refine wpList_store_row rfl _ _ _ rfl (w.heap.size + 1) #[.int .i64 c, .int .i64 a, .int .i64 b] rfl rfl _ _ HR.out size3F rfl (fau_one _ _ _) ?_)
  refine bodyPost_ret (v := .agg #[.int .i64 c, .int .i64 a, .int .i64 b]) ?_ rfl ⟨rfl, below_setRow HB.out (by omega) _⟩
  exact results_cell_row rfl _ _ (w.heap.size + 1) _ #[.int .i64 c, .int .i64 a, .int .i64 b] _ _ rfl (setRow_heap _ _ _ _ _ _ HR.out) Tryd.underlying26 rfl size3F

theorem cur_drewN {W : World} {B : Nat} {p : Nat × Nat} {s : ByteArray} {k : Nat} (h : Cur W B p s k) (n : Nat) : Cur (W.drewN n) B p s k ∧ Sole B W (W.drewN n) := ⟨h, rfl, rfl, rfl, Nat.le_refl _, fun _ _ _ => rfl⟩

set_option maxHeartbeats 2000000 in
set_option maxRecDepth 20000 in
theorem choose_ok (s : ByteArray) (l : List Nat) (hs : Str s l) (m B : Nat) (hml : m ≤ l.length) (W : World) (h : Cur W B (placeV l m) s m) :
    Calls Tryd.prog 42 #[.pointer (some ⟨B, 0, none⟩)] W fun e w' => e = .returned (.func (.func (choF (l.drop m))) #[.pointer (some ⟨B, 0, none⟩)] #[]) ∧ MoveP W B (placeV l m) s m w' := by
  have hmf : ∀ (fn : Fn) (first cap : Array Value) (w : World), (Instr.makeFunc fn first cap).run Tryd.prog w = .ok (.func fn first cap) w := fun _ _ _ _ => rfl
  have hsz : (s.size : Int) = (l.length : Int) := by have := hs.size; omega
  have HC := Lib.hid h
  have hb := h.lt
  have c2 := h.c2
  have c3 := h.c3
  rcases Nat.lt_or_ge m l.length with hlt | hge
  · have e1 : ((m : Int) == (s.size : Int)) = false := by rw [beq_eq_false_iff_ne]; omega
    have hi := hs.index hlt
    have HD : Hid (choF (l.drop m) = if letterB (l.getD m 0) then 59 else if digitB (l.getD m 0) then 61 else if l.getD m 0 = 34 then 62 else if signB (l.getD m 0) then 63 else 64) := Lib.hid (by rw [drop_at hlt, cho_cons])
    have HL := Lib.hid (pletter_ok (l.getD m 0))
    have HG := Lib.hid (pdigit_ok (l.getD m 0))
    obtain ⟨F, hF⟩ : ∃ F, F = choF (l.drop m) := ⟨_, rfl⟩
    rw [← hF] at HD ⊢
    generalize l.getD m 0 = x at *
    generalize ht : letterB x = t at *
    generalize hg : digitB x = g at *
    have HSG : Hid (signB x = (decide (x = 123) || (decide (x = 125) || (decide (x = 59) || decide (x = 44))))) := Lib.hid rfl
    clear h hs hsz hml hlt hF ht hg
    go_enter Tryd.func42, Tryd.ntmps42
    go_wp2_with fail
    go_quiet (fail)
    have q1 := cur_drewN HC.out nq
    obtain ⟨W1, hW1⟩ : ∃ W1, W1 = W.drewN nq := ⟨_, rfl⟩
    rw [← hW1] at q1 ⊢
    clear hW1 hb c2 c3
    have HC1 := Lib.hid q1
    have hb := q1.1.lt
    have c2 := q1.1.c2
    have c3 := q1.1.c3
    clear q1
    go_wp2_with fail
    go_quiet (fail)
    have q1 := cur_drewN HC1.out.1 nq
    obtain ⟨W2, hW2⟩ : ∃ W2, W2 = W1.drewN nq := ⟨_, rfl⟩
    rw [← hW2] at q1 ⊢
    clear hW2 hb c2 c3
    have HC2 : Hid (MoveP W B (placeV l m) s m W2) := Lib.hid ⟨q1.1, HC1.out.2.trans q1.2⟩
    clear q1 HC1 HC hi
    cases t with
    | true =>
      rw [if_pos rfl] at HD
      go_wp2_with (first | (go_at_call 58; refine (HL.out _).mono ?_; rintro e w1 ⟨rfl, rfl⟩) | (go_at_call 60; refine (HG.out _).mono ?_; rintro e w1 ⟨rfl, rfl⟩))
      go_ret
      exact ⟨by rw [HD.out]; rfl, HC2.out⟩
    | false =>
      rw [if_neg (by decide)] at HD
      cases g with
      | true =>
        rw [if_pos rfl] at HD
        go_wp2_with (first | (go_at_call 58; refine (HL.out _).mono ?_; rintro e w1 ⟨rfl, rfl⟩) | (go_at_call 60; refine (HG.out _).mono ?_; rintro e w1 ⟨rfl, rfl⟩))
        go_ret
        exact ⟨by rw [HD.out]; rfl, HC2.out⟩
      | false =>
        rw [if_neg (by decide)] at HD
        by_cases h34 : x = 34
        · rw [if_pos h34] at HD
          subst h34
          clear HSG
          go_wp2_with (first | (go_at_call 58; refine (HL.out _).mono ?_; rintro e w1 ⟨rfl, rfl⟩) | (go_at_call 60; refine (HG.out _).mono ?_; rintro e w1 ⟨rfl, rfl⟩))
          go_ret
          exact ⟨by rw [HD.out]; rfl, HC2.out⟩
        · rw [if_neg h34] at HD
          have b34 := ne_beq h34 34 rfl
          by_cases h123 : x = 123
          · subst h123
            rw [if_pos (show signB 123 = true from rfl)] at HD
            clear HSG h34
            go_wp2_with (first | (go_at_call 58; refine (HL.out _).mono ?_; rintro e w1 ⟨rfl, rfl⟩) | (go_at_call 60; refine (HG.out _).mono ?_; rintro e w1 ⟨rfl, rfl⟩))
            go_ret
            exact ⟨by rw [HD.out]; rfl, HC2.out⟩
          · have b123 := ne_beq h123 123 rfl
            by_cases h125 : x = 125
            · subst h125
              rw [if_pos (show signB 125 = true from rfl)] at HD
              clear HSG h34 h123
              go_wp2_with (first | (go_at_call 58; refine (HL.out _).mono ?_; rintro e w1 ⟨rfl, rfl⟩) | (go_at_call 60; refine (HG.out _).mono ?_; rintro e w1 ⟨rfl, rfl⟩))
              go_ret
              exact ⟨by rw [HD.out]; rfl, HC2.out⟩
            · have b125 := ne_beq h125 125 rfl
              by_cases h59 : x = 59
              · subst h59
                rw [if_pos (show signB 59 = true from rfl)] at HD
                clear HSG h34 h123 h125
                go_wp2_with (first | (go_at_call 58; refine (HL.out _).mono ?_; rintro e w1 ⟨rfl, rfl⟩) | (go_at_call 60; refine (HG.out _).mono ?_; rintro e w1 ⟨rfl, rfl⟩))
                go_ret
                exact ⟨by rw [HD.out]; rfl, HC2.out⟩
              · have b59 := ne_beq h59 59 rfl
                by_cases h44 : x = 44
                · subst h44
                  rw [if_pos (show signB 44 = true from rfl)] at HD
                  clear HSG h34 h123 h125 h59
                  go_wp2_with (first | (go_at_call 58; refine (HL.out _).mono ?_; rintro e w1 ⟨rfl, rfl⟩) | (go_at_call 60; refine (HG.out _).mono ?_; rintro e w1 ⟨rfl, rfl⟩))
                  go_ret
                  exact ⟨by rw [HD.out]; rfl, HC2.out⟩
                · have b44 := ne_beq h44 44 rfl
                  have hs0 : signB x = false := by rw [HSG.out, decide_eq_false h123, decide_eq_false h125, decide_eq_false h59, decide_eq_false h44]; rfl
                  rw [hs0, if_neg (by decide)] at HD
                  clear HSG hs0 h34 h123 h125 h59 h44
                  go_wp2_with (first | (go_at_call 58; refine (HL.out _).mono ?_; rintro e w1 ⟨rfl, rfl⟩) | (go_at_call 60; refine (HG.out _).mono ?_; rintro e w1 ⟨rfl, rfl⟩))
                  go_ret
                  exact ⟨by rw [HD.out]; rfl, HC2.out⟩
  · have e1 : ((m : Int) == (s.size : Int)) = true := by rw [beq_iff_eq]; omega
    have hd : l.drop m = [] := List.drop_of_length_le hge
    rw [hd]
    have hc : choF [] = 57 := rfl
    rw [hc]
    clear hc hd h hs hsz hml hge
    go_enter Tryd.func42, Tryd.ntmps42
    go_wp2_with fail
    go_quiet (fail)
    go_wp2_with fail
    go_ret
    exact ⟨rfl, cur_drewN HC.out _⟩

end Go.Proofs.YtmgohahjocdeeaaDoor
