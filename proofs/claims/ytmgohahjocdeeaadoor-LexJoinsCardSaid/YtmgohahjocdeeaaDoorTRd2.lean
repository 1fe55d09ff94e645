/-
  Layer 6 (lex): the program's readers of names and signs; choose. By the verifier.
-/
import Derived.Test.YtmgohahjocdeeaaDoorTRdr
import Derived.StillTailTactics
set_option linter.unusedVariables false
namespace Go.Proofs.YtmgohahjocdeeaaDoor
open Go.RowKit

theorem heap_lt {w : World} {g : Nat} {o : Obj} (h : w.heap[g]? = some o) : g < w.heap.size := by
  rcases Nat.lt_or_ge g w.heap.size with h1 | h1
  · exact h1
  · rw [Array.getElem?_eq_none h1] at h; cases h

/-- The cursor and a block of the call's own, as they stand. -/
structure At (W : World) (B : Nat) (p : Nat × Nat) (s : ByteArray) (k g : Nat) (cs : Array Value) (t : TypeId) (w : World) : Prop where
  cur : Cur w B p s k
  row : w.heap[g]? = some (.cells cs t (0, 0))
  sole : Sole B W w
  ne : g ≠ B
  ge : W.heap.size ≤ g
theorem At.more {W : World} {B : Nat} {p : Nat × Nat} {s : ByteArray} {k g : Nat} {cs : Array Value} {t : TypeId} {w w' : World} (h : At W B p s k g cs t w) (hb : Below w.heap.size w w') : At W B p s k g cs t w' :=
  ⟨h.cur.below hb, by rw [hb.block _ (heap_lt h.row)]; exact h.row, h.sole.fresh hb, h.ne, h.ge⟩
theorem At.move {W : World} {B : Nat} {p p' : Nat × Nat} {s : ByteArray} {k k' g : Nat} {cs : Array Value} {t : TypeId} {w w' : World} (h : At W B p s k g cs t w) (hm : MoveP w B p' s k' w') : At W B p' s k' g cs t w' :=
  ⟨hm.1, hm.2.keeps h.row h.ne, h.sole.trans hm.2, h.ne, h.ge⟩
theorem At.drew {W : World} {B : Nat} {p : Nat × Nat} {s : ByteArray} {k g : Nat} {cs : Array Value} {t : TypeId} {w : World} (h : At W B p s k g cs t w) : At W B p s k g cs t w.drew :=
  h.more (Below.refl _ _).drew
theorem At.put {W : World} {B : Nat} {p : Nat × Nat} {s : ByteArray} {k g : Nat} {cs : Array Value} {t : TypeId} {w : World} (h : At W B p s k g cs t w) (ds : Array Value) : At W B p s k g ds t (w.setRow g ds) :=
  ⟨h.cur.setRowOther (fun e => h.ne e.symm) _, setRow_heap _ _ _ _ _ _ h.row, h.sole.own h.ge _, h.ne, h.ge⟩

set_option maxHeartbeats 1000000 in
theorem qread (s : ByteArray) (l : List Nat) (hs : Str s l) (hm : l.length ≤ 2000000) (m B : Nat) (hml : m < l.length) (h34 : l.getD m 0 = 34) (W : World) (h : Cur W B (placeV l m) s m) :
    Calls Tryd.prog 62 #[.pointer (some ⟨B, 0, none⟩)] W fun e w' => RdP W B s l m (readQ ((l.drop (m + 1)).length + 1) (body (l.drop (m + 1)))) e w' := by
  obtain ⟨W1, hW1⟩ : ∃ W1, W1 = W.alloc (.cells zeroT 39) := ⟨_, rfl⟩
  have hk : Mk W W1 B zeroT 39 := by rw [hW1]; exact Mk.new _ _ _ _
  have hbox : W.alloc (.cells #[.int .i64 0, .string ⟨#[]⟩, .int .u64 0, .int .i64 0, .int .i64 0] 39) = W1 := hW1.symm
  have hA : At W B (placeV l m) s m W.heap.size zeroT 39 W1 := ⟨h.below hk.below, hk.row, hk.sole, by have := h.lt; omega, Nat.le_refl _⟩
  have HA := Lib.hid hA
  have c2 := hA.cur.c2
  have c3 := hA.cur.c3
  have hb1 := hA.cur.lt
  have hS := fun w => scan_ok s l hs (by unfold maxLen; omega) (m : Int) w
  rw [scanV_in hml h34] at hS
  have HG : Hid (∀ X E, Cur X B (placeV l m) s m → m ≤ E → E ≤ l.length → Calls Tryd.prog 22 #[.pointer (some ⟨B, 0, none⟩), .int .i64 (E : Int)] X fun e w' => e = .returned (.tuple #[]) ∧ MoveP X B (placeV l E) s E w') :=
    Lib.hid fun X E hX h1 h2 => goTo_ok s l hs hm m E B h1 h2 X hX
  have hrl : (l.drop (m + 1)).length + (m + 1) = l.length := by rw [List.length_drop]; omega
  generalize hr : l.drop (m + 1) = r at *
  clear hk hW1 h hs h34 hA
  have bad : (∀ w, Calls Tryd.prog 76 #[.string s, .int .i64 (m : Int)] w fun e w' => e = .returned (.tuple #[.string ⟨#[]⟩, .int .i64 0, .int .i64 6]) ∧ Below w.heap.size w w') →
      Calls Tryd.prog 62 #[.pointer (some ⟨B, 0, none⟩)] W fun e w' => RdP W B s l m ⟨6, 0, [], 0, 0⟩ e w' := by
    intro hsc
    have HSC := Lib.hid hsc
    clear hS hsc hrl hml hm HG hr
    go_enter Tryd.func62, Tryd.ntmps62
    go_wp2_with fail
    go_region_with (first
      | (go_at_call 76; refine (HSC.out _).mono ?_; rintro e w2 ⟨rfl, hb⟩; have HA2 := Lib.hid (HA.out.drew.more hb); clear hb c2 c3 hb1))
    all_goals
      go_wp2_with (refine wpList_store_row rfl _ _ _ rfl W.heap.size zeroT rfl rfl _ _ HA2.out.row size5T rfl (tok_one 0 0 0 ⟨#[]⟩ 0) ?_)
      refine bodyPost_ret (v := .tuple #[.agg zeroT, .int .i64 6]) ?_ rfl ⟨rfl, (fun h => by cases h), (HA2.out.put _).sole⟩
      refine results_ct rfl _ _ _ _ _ rfl rfl ?_
      exact resT _ _ (HA2.out.put _).row rfl
  cases hbo : body r with
  | none =>
    rw [hbo, scanIn_none] at hS
    exact bad fun w => (hS w).mono fun e w' q => ⟨q.1, q.2⟩
  | some q =>
    obtain ⟨n, t⟩ := q
    rw [hbo] at hS
    cases hn : nameB n with
    | false =>
      rw [scanIn_bad hn] at hS
      have e1 : readQ (r.length + 1) (some (n, t)) = ⟨6, 0, [], 0, 0⟩ := by unfold readQ; simp [hn]
      rw [e1]
      exact bad fun w => (hS w).mono fun e w' q => ⟨q.1, q.2⟩
    | true =>
      rw [scanIn_good hn] at hS
      have e1 : readQ (r.length + 1) (some (n, t)) = ⟨0, 3, n, 0, r.length + 1 - t.length⟩ := by unfold readQ; simp [hn]
      rw [e1]
      have hbl := body_len r n t hbo
      obtain ⟨E, hE⟩ : ∃ E, E = m + (r.length + 1 - t.length) := ⟨_, rfl⟩
      have hEi : (l.length : Int) - (t.length : Int) = (E : Int) := by omega
      have HSC : Hid (∀ w, Calls Tryd.prog 76 #[.string s, .int .i64 (m : Int)] w fun e w' => e = .returned (.tuple #[.string (strB n), .int .i64 (E : Int), .int .i64 0]) ∧ Below w.heap.size w w') :=
        Lib.hid fun w => (hS w).mono fun e w' q => ⟨by rw [← hEi]; exact q.1, q.2⟩
      have HG2 : Hid (∀ X, Cur X B (placeV l m) s m → Calls Tryd.prog 22 #[.pointer (some ⟨B, 0, none⟩), .int .i64 (E : Int)] X fun e w' => e = .returned (.tuple #[]) ∧ MoveP X B (placeV l E) s E w') :=
        Lib.hid fun X hX => HG.out X E hX (by omega) (by omega)
      have HEE := Lib.hid hE
      clear hS hrl hml hm HG bad hbl hEi hbo hn e1 hr hE
      go_enter Tryd.func62, Tryd.ntmps62
      go_wp2_with fail
      go_region_with (first
        | (go_at_call 76; refine (HSC.out _).mono ?_; rintro e w2 ⟨rfl, hb⟩; have HA2 := Lib.hid (HA.out.drew.more hb); clear hb c2 c3 hb1))
      all_goals
        go_wp2_with (first
          | (go_at_call 22; refine (HG2.out _ HA2.out.cur).mono ?_; rintro e w3 ⟨rfl, hmv⟩; have HA3 := Lib.hid (HA2.out.move hmv); clear hmv)
          | (refine wpList_store_row rfl _ _ _ rfl W.heap.size #[.int .i64 3, .string (strB n), .int .u64 0, .int .i64 0, .int .i64 0] rfl rfl _ _ HA3.out.row size5T rfl (tok_one _ _ _ _ _) ?_))
        refine bodyPost_ret (v := .tuple #[.agg #[.int .i64 3, .string (strB n), .int .u64 0, .int .i64 0, .int .i64 0], .int .i64 0]) ?_ rfl ⟨rfl, fun _ => ?_, (HA3.out.put _).sole⟩
        · refine results_ct rfl _ _ _ _ _ rfl rfl ?_
          exact resT _ _ (HA3.out.put _).row rfl
        · have := (HA3.out.put #[.int .i64 3, .string (strB n), .int .u64 0, .int .i64 0, .int .i64 0]).cur
          rw [HEE.out] at this
          exact this

end Go.Proofs.YtmgohahjocdeeaaDoor
