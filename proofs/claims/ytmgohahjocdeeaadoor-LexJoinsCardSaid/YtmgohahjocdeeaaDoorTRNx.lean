/-
  Layer 6 (lex): the reference's Next. By the verifier.
-/
import Derived.Test.YtmgohahjocdeeaaDoorTNx3
set_option linter.unusedVariables false
namespace Go.Proofs.YtmgohahjocdeeaaDoor
open Go.RowKit

theorem size5R : (Tryd.prog.info? 42).map (·.size) = some 5 := by kernel_rfl
theorem resR {w : World} {g : Nat} {cs : Array Value} (t : TypeId) (fr : Nat × Nat) (hg : w.heap[g]? = some (.cells cs t fr)) (hc : cs.size = 5) : ResAt w (.pointer (some ⟨g, 0, none⟩)) 42 cs := ResAt.mk1 t cs fr _ hg Tryd.underlying42 rfl (by rw [hc]; exact size5R)

/-- What the reference's Next answers. -/
def RnP (W : World) (l : List Nat) (q : Nat) (R : Rd) (e : Ending) (w' : World) : Prop :=
  e = .returned (.tuple #[.agg (tokA ⟨R.kind, R.text, R.val, (placeV l q).1, (placeV l q).2⟩), .int .i64 ((if R.code = 0 then q + R.len else 0 : Nat) : Int), .int .i64 (R.code : Int)]) ∧ Below W.heap.size W w'

/-- The world with both tokens. -/
def rW (w : World) (a b : Nat) : World := (w.alloc (.cells #[.int .i64 0, .string ⟨#[]⟩, .int .u64 0, .int .i64 0, .int .i64 0] 42)).alloc (.cells #[.int .i64 0, .string ⟨#[]⟩, .int .u64 0, .int .i64 (a : Int), .int .i64 (b : Int)] 42)
set_option maxHeartbeats 2000000 in
set_option maxRecDepth 50000 in
theorem rn_end (s : ByteArray) (l : List Nat) (hs : Str s l) (hm : l.length ≤ 2000000) (k q : Nat) (hk : k ≤ l.length) (hq : q = atV l k) (hend : l.length ≤ q) (w : World) :
    Calls Tryd.prog 15 #[.string s, .int .i64 (k : Int)] w fun e w' => RnP w l q ⟨0, 0, [], 0, 0⟩ e w' := by
  have hql := (atV_le hk).2
  rw [← hq] at hql
  have hsz : (s.size : Int) = (l.length : Int) := by have := hs.size; omega
  have HSK : Hid (∀ W, Calls Tryd.prog 24 #[.string s, .int .i64 (k : Int)] W fun e w' => e = .returned (.int .i64 (q : Int)) ∧ W = w') := Lib.hid fun W => by rw [hq]; exact rskip_ok s l hs hm k hk W
  have HPL : Hid (∀ W, Calls Tryd.prog 16 #[.string s, .int .i64 (q : Int)] W fun e w' => e = .returned (.tuple #[.int .i64 ((placeV l q).1 : Int), .int .i64 ((placeV l q).2 : Int)]) ∧ W = w') := Lib.hid fun W => rplace_ok s l hs hm q hql W
  have HRUN : Hid (∀ (d : Bool) W, Calls Tryd.prog 26 #[.string s, .int .i64 (q : Int), .bool d] W fun e w' => e = .returned (.int .i64 ((q + ((l.drop q).takeWhile (runB d)).length : Nat) : Int)) ∧ W = w') := Lib.hid fun d W => rrun_ok s l hs hm q hql d W
  obtain ⟨p, hp⟩ : ∃ p, p = placeV l q := ⟨_, rfl⟩
  unfold RnP
  rw [← hp] at HPL ⊢
  obtain ⟨pa, pb⟩ := p
  have e1 : ((q : Int) == (s.size : Int)) = true := by rw [beq_iff_eq]; omega
  clear hs hm hk hq hql hsz hend HRUN hp
  go_enter Tryd.func15, Tryd.ntmps15
  go_wp2_with (first
    | (go_at_call 24; refine (HSK.out _).mono ?_; rintro e w1 ⟨rfl, rfl⟩)
    | (go_at_call 16; refine (HPL.out _).mono ?_; rintro e w1 ⟨rfl, rfl⟩)
    | (refine wpList_store_row rfl _ _ _ rfl w.heap.size #[.int .i64 0, .string ⟨#[]⟩, .int .u64 0, .int .i64 (pa : Int), .int .i64 (pb : Int)] rfl rfl _ _ (rw_row w _ _ _ _) size5R rfl (tok_one _ _ _ _ _) ?_))
  refine bodyPost_ret (v := .tuple #[.agg #[.int .i64 0, .string ⟨#[]⟩, .int .u64 0, .int .i64 (pa : Int), .int .i64 (pb : Int)], .int .i64 (q : Int), .int .i64 0]) ?_ rfl ⟨rfl, below_setRow (rw_below w _ _ _ _) (Nat.le_refl _) _⟩
  refine results_ctt rfl _ _ _ _ _ _ rfl rfl rfl ?_
  exact resR _ _ (setRow_heap _ _ _ _ _ _ (rw_row w _ _ _ _)) rfl

set_option maxHeartbeats 2000000 in
set_option maxRecDepth 50000 in
theorem rn_word (s : ByteArray) (l : List Nat) (hs : Str s l) (hm : l.length ≤ 2000000) (k q : Nat) (hk : k ≤ l.length) (hq : q = atV l k) (hlt : q < l.length) (h1 : letterB (l.getD q 0) = true) (w : World) :
    Calls Tryd.prog 15 #[.string s, .int .i64 (k : Int)] w fun e w' => RnP w l q ⟨0, 1, (l.drop q).takeWhile letterB, 0, ((l.drop q).takeWhile letterB).length⟩ e w' := by
  have hql := (atV_le hk).2
  rw [← hq] at hql
  have hsz : (s.size : Int) = (l.length : Int) := by have := hs.size; omega
  have HSK : Hid (∀ W, Calls Tryd.prog 24 #[.string s, .int .i64 (k : Int)] W fun e w' => e = .returned (.int .i64 (q : Int)) ∧ W = w') := Lib.hid fun W => by rw [hq]; exact rskip_ok s l hs hm k hk W
  have HPL : Hid (∀ W, Calls Tryd.prog 16 #[.string s, .int .i64 (q : Int)] W fun e w' => e = .returned (.tuple #[.int .i64 ((placeV l q).1 : Int), .int .i64 ((placeV l q).2 : Int)]) ∧ W = w') := Lib.hid fun W => rplace_ok s l hs hm q hql W
  have HRUN : Hid (∀ (d : Bool) W, Calls Tryd.prog 26 #[.string s, .int .i64 (q : Int), .bool d] W fun e w' => e = .returned (.int .i64 ((q + ((l.drop q).takeWhile (runB d)).length : Nat) : Int)) ∧ W = w') := Lib.hid fun d W => rrun_ok s l hs hm q hql d W
  obtain ⟨p, hp⟩ : ∃ p, p = placeV l q := ⟨_, rfl⟩
  unfold RnP
  rw [← hp] at HPL ⊢
  obtain ⟨pa, pb⟩ := p
  have e1 : ((q : Int) == (s.size : Int)) = false := by rw [beq_eq_false_iff_ne]; omega
  have hi := hs.index hlt
  have HL := Lib.hid (rletter_ok (l.getD q 0))
  have HD := Lib.hid (rdigit_ok (l.getD q 0))
  rw [h1] at HL
  have hrb : runB false = letterB := funext fun x => by unfold runB; rw [Bool.false_and, Bool.or_false]
  have HRUN2 := Lib.hid (HRUN.out false)
  rw [hrb] at HRUN2
  have hcut := hs.cut (a := q) (b := q + ((l.drop q).takeWhile letterB).length) (by omega) (by have := takeWhile_len letterB (l.drop q); rw [List.length_drop] at this; omega)
  rw [show q + ((l.drop q).takeWhile letterB).length - q = ((l.drop q).takeWhile letterB).length by omega, ← tw_take] at hcut
  generalize (l.drop q).takeWhile letterB = t at *
  generalize hN : q + t.length = N at *
  generalize hx : l.getD q 0 = x at *
  generalize htv : strB t = tv at *
  have HTV := Lib.hid htv
  have HN := Lib.hid hN
  clear hs hm hk hq hql hsz hlt HRUN hp h1 hrb hx HD htv hN
  go_enter Tryd.func15, Tryd.ntmps15
  go_wp2_with (first
    | (go_at_call 24; refine (HSK.out _).mono ?_; rintro e w1 ⟨rfl, rfl⟩)
    | (go_at_call 16; refine (HPL.out _).mono ?_; rintro e w1 ⟨rfl, rfl⟩)
    | (go_at_call 25; refine (HL.out _).mono ?_; rintro e w1 ⟨rfl, rfl⟩)
    | (go_at_call 26; refine (HRUN2.out _).mono ?_; rintro e w1 ⟨rfl, rfl⟩)
    | (refine wpList_store_row rfl _ _ _ rfl w.heap.size #[.int .i64 1, .string tv, .int .u64 0, .int .i64 (pa : Int), .int .i64 (pb : Int)] rfl rfl _ _ (rw_row w _ _ _ _) size5R rfl (tok_one _ _ _ _ _) ?_))
  refine bodyPost_ret (v := .tuple #[.agg #[.int .i64 1, .string tv, .int .u64 0, .int .i64 (pa : Int), .int .i64 (pb : Int)], .int .i64 (N : Int), .int .i64 0]) ?_ rfl ⟨by rw [← HTV.out, ← HN.out]; rfl, below_setRow (rw_below w _ _ _ _) (Nat.le_refl _) _⟩
  refine results_ctt rfl _ _ _ _ _ _ rfl rfl rfl ?_
  exact resR _ _ (setRow_heap _ _ _ _ _ _ (rw_row w _ _ _ _)) rfl

set_option maxHeartbeats 2000000 in
set_option maxRecDepth 50000 in
theorem rn_sign (s : ByteArray) (l : List Nat) (hs : Str s l) (hm : l.length ≤ 2000000) (k q : Nat) (hk : k ≤ l.length) (hq : q = atV l k) (hlt : q < l.length) (h1 : letterB (l.getD q 0) = false) (h2 : digitB (l.getD q 0) = false) (h3 : l.getD q 0 ≠ 34) (h4 : signB (l.getD q 0) = true) (w : World) :
    Calls Tryd.prog 15 #[.string s, .int .i64 (k : Int)] w fun e w' => RnP w l q ⟨0, 4, [l.getD q 0], 0, 1⟩ e w' := by
  have hql := (atV_le hk).2
  rw [← hq] at hql
  have hsz : (s.size : Int) = (l.length : Int) := by have := hs.size; omega
  have HSK : Hid (∀ W, Calls Tryd.prog 24 #[.string s, .int .i64 (k : Int)] W fun e w' => e = .returned (.int .i64 (q : Int)) ∧ W = w') := Lib.hid fun W => by rw [hq]; exact rskip_ok s l hs hm k hk W
  have HPL : Hid (∀ W, Calls Tryd.prog 16 #[.string s, .int .i64 (q : Int)] W fun e w' => e = .returned (.tuple #[.int .i64 ((placeV l q).1 : Int), .int .i64 ((placeV l q).2 : Int)]) ∧ W = w') := Lib.hid fun W => rplace_ok s l hs hm q hql W
  have HRUN : Hid (∀ (d : Bool) W, Calls Tryd.prog 26 #[.string s, .int .i64 (q : Int), .bool d] W fun e w' => e = .returned (.int .i64 ((q + ((l.drop q).takeWhile (runB d)).length : Nat) : Int)) ∧ W = w') := Lib.hid fun d W => rrun_ok s l hs hm q hql d W
  obtain ⟨p, hp⟩ : ∃ p, p = placeV l q := ⟨_, rfl⟩
  unfold RnP
  rw [← hp] at HPL ⊢
  obtain ⟨pa, pb⟩ := p
  have e1 : ((q : Int) == (s.size : Int)) = false := by rw [beq_eq_false_iff_ne]; omega
  have hi := hs.index hlt
  have HL := Lib.hid (rletter_ok (l.getD q 0))
  have HD := Lib.hid (rdigit_ok (l.getD q 0))
  rw [h1] at HL
  rw [h2] at HD
  have hcut := hs.one hlt
  have b34 := ne_beq h3 34 rfl
  have hcs : l.getD q 0 = 123 ∨ l.getD q 0 = 125 ∨ l.getD q 0 = 59 ∨ l.getD q 0 = 44 := by simpa [signB] using h4
  generalize htv : strB [l.getD q 0] = tv at *
  have hm1 : (q : Int) ≤ 2000000 := by omega
  have HTV := Lib.hid htv
  generalize l.getD q 0 = x at *
  clear hs hm hk hq hql hsz hlt HRUN hp h1 h2 h3 h4 htv
  rcases hcs with rfl | rfl | rfl | rfl
  · go_enter Tryd.func15, Tryd.ntmps15
    go_wp2_with (first
      | (go_at_call 24; refine (HSK.out _).mono ?_; rintro e w1 ⟨rfl, rfl⟩)
      | (go_at_call 16; refine (HPL.out _).mono ?_; rintro e w1 ⟨rfl, rfl⟩)
      | (go_at_call 25; refine (HL.out _).mono ?_; rintro e w1 ⟨rfl, rfl⟩)
      | (go_at_call 27; refine (HD.out _).mono ?_; rintro e w1 ⟨rfl, rfl⟩)
      | (refine wpList_store_row rfl _ _ _ rfl w.heap.size #[.int .i64 4, .string tv, .int .u64 0, .int .i64 (pa : Int), .int .i64 (pb : Int)] rfl rfl _ _ (rw_row w _ _ _ _) size5R rfl (tok_one _ _ _ _ _) ?_))
    refine bodyPost_ret (v := .tuple #[.agg #[.int .i64 4, .string tv, .int .u64 0, .int .i64 (pa : Int), .int .i64 (pb : Int)], .int .i64 ((q : Int) + 1), .int .i64 0]) ?_ rfl ⟨by rw [← HTV.out]; rfl, below_setRow (rw_below w _ _ _ _) (Nat.le_refl _) _⟩
    refine results_ctt rfl _ _ _ _ _ _ rfl rfl rfl ?_
    exact resR _ _ (setRow_heap _ _ _ _ _ _ (rw_row w _ _ _ _)) rfl
  · go_enter Tryd.func15, Tryd.ntmps15
    go_wp2_with (first
      | (go_at_call 24; refine (HSK.out _).mono ?_; rintro e w1 ⟨rfl, rfl⟩)
      | (go_at_call 16; refine (HPL.out _).mono ?_; rintro e w1 ⟨rfl, rfl⟩)
      | (go_at_call 25; refine (HL.out _).mono ?_; rintro e w1 ⟨rfl, rfl⟩)
      | (go_at_call 27; refine (HD.out _).mono ?_; rintro e w1 ⟨rfl, rfl⟩)
      | (refine wpList_store_row rfl _ _ _ rfl w.heap.size #[.int .i64 4, .string tv, .int .u64 0, .int .i64 (pa : Int), .int .i64 (pb : Int)] rfl rfl _ _ (rw_row w _ _ _ _) size5R rfl (tok_one _ _ _ _ _) ?_))
    refine bodyPost_ret (v := .tuple #[.agg #[.int .i64 4, .string tv, .int .u64 0, .int .i64 (pa : Int), .int .i64 (pb : Int)], .int .i64 ((q : Int) + 1), .int .i64 0]) ?_ rfl ⟨by rw [← HTV.out]; rfl, below_setRow (rw_below w _ _ _ _) (Nat.le_refl _) _⟩
    refine results_ctt rfl _ _ _ _ _ _ rfl rfl rfl ?_
    exact resR _ _ (setRow_heap _ _ _ _ _ _ (rw_row w _ _ _ _)) rfl
  · go_enter Tryd.func15, Tryd.ntmps15
    go_wp2_with (first
      | (go_at_call 24; refine (HSK.out _).mono ?_; rintro e w1 ⟨rfl, rfl⟩)
      | (go_at_call 16; refine (HPL.out _).mono ?_; rintro e w1 ⟨rfl, rfl⟩)
      | (go_at_call 25; refine (HL.out _).mono ?_; rintro e w1 ⟨rfl, rfl⟩)
      | (go_at_call 27; refine (HD.out _).mono ?_; rintro e w1 ⟨rfl, rfl⟩)
      | (refine wpList_store_row rfl _ _ _ rfl w.heap.size #[.int .i64 4, .string tv, .int .u64 0, .int .i64 (pa : Int), .int .i64 (pb : Int)] rfl rfl _ _ (rw_row w _ _ _ _) size5R rfl (tok_one _ _ _ _ _) ?_))
    refine bodyPost_ret (v := .tuple #[.agg #[.int .i64 4, .string tv, .int .u64 0, .int .i64 (pa : Int), .int .i64 (pb : Int)], .int .i64 ((q : Int) + 1), .int .i64 0]) ?_ rfl ⟨by rw [← HTV.out]; rfl, below_setRow (rw_below w _ _ _ _) (Nat.le_refl _) _⟩
    refine results_ctt rfl _ _ _ _ _ _ rfl rfl rfl ?_
    exact resR _ _ (setRow_heap _ _ _ _ _ _ (rw_row w _ _ _ _)) rfl
  · go_enter Tryd.func15, Tryd.ntmps15
    go_wp2_with (first
      | (go_at_call 24; refine (HSK.out _).mono ?_; rintro e w1 ⟨rfl, rfl⟩)
      | (go_at_call 16; refine (HPL.out _).mono ?_; rintro e w1 ⟨rfl, rfl⟩)
      | (go_at_call 25; refine (HL.out _).mono ?_; rintro e w1 ⟨rfl, rfl⟩)
      | (go_at_call 27; refine (HD.out _).mono ?_; rintro e w1 ⟨rfl, rfl⟩)
      | (refine wpList_store_row rfl _ _ _ rfl w.heap.size #[.int .i64 4, .string tv, .int .u64 0, .int .i64 (pa : Int), .int .i64 (pb : Int)] rfl rfl _ _ (rw_row w _ _ _ _) size5R rfl (tok_one _ _ _ _ _) ?_))
    refine bodyPost_ret (v := .tuple #[.agg #[.int .i64 4, .string tv, .int .u64 0, .int .i64 (pa : Int), .int .i64 (pb : Int)], .int .i64 ((q : Int) + 1), .int .i64 0]) ?_ rfl ⟨by rw [← HTV.out]; rfl, below_setRow (rw_below w _ _ _ _) (Nat.le_refl _) _⟩
    refine results_ctt rfl _ _ _ _ _ _ rfl rfl rfl ?_
    exact resR _ _ (setRow_heap _ _ _ _ _ _ (rw_row w _ _ _ _)) rfl

set_option maxHeartbeats 2000000 in
set_option maxRecDepth 50000 in
theorem rn_none (s : ByteArray) (l : List Nat) (hs : Str s l) (hm : l.length ≤ 2000000) (k q : Nat) (hk : k ≤ l.length) (hq : q = atV l k) (hlt : q < l.length) (h1 : letterB (l.getD q 0) = false) (h2 : digitB (l.getD q 0) = false) (h3 : l.getD q 0 ≠ 34) (h4 : signB (l.getD q 0) = false) (w : World) :
    Calls Tryd.prog 15 #[.string s, .int .i64 (k : Int)] w fun e w' => RnP w l q ⟨3, 0, [], 0, 0⟩ e w' := by
  have hql := (atV_le hk).2
  rw [← hq] at hql
  have hsz : (s.size : Int) = (l.length : Int) := by have := hs.size; omega
  have HSK : Hid (∀ W, Calls Tryd.prog 24 #[.string s, .int .i64 (k : Int)] W fun e w' => e = .returned (.int .i64 (q : Int)) ∧ W = w') := Lib.hid fun W => by rw [hq]; exact rskip_ok s l hs hm k hk W
  have HPL : Hid (∀ W, Calls Tryd.prog 16 #[.string s, .int .i64 (q : Int)] W fun e w' => e = .returned (.tuple #[.int .i64 ((placeV l q).1 : Int), .int .i64 ((placeV l q).2 : Int)]) ∧ W = w') := Lib.hid fun W => rplace_ok s l hs hm q hql W
  have HRUN : Hid (∀ (d : Bool) W, Calls Tryd.prog 26 #[.string s, .int .i64 (q : Int), .bool d] W fun e w' => e = .returned (.int .i64 ((q + ((l.drop q).takeWhile (runB d)).length : Nat) : Int)) ∧ W = w') := Lib.hid fun d W => rrun_ok s l hs hm q hql d W
  obtain ⟨p, hp⟩ : ∃ p, p = placeV l q := ⟨_, rfl⟩
  unfold RnP
  rw [← hp] at HPL ⊢
  obtain ⟨pa, pb⟩ := p
  have e1 : ((q : Int) == (s.size : Int)) = false := by rw [beq_eq_false_iff_ne]; omega
  have hi := hs.index hlt
  have HL := Lib.hid (rletter_ok (l.getD q 0))
  have HD := Lib.hid (rdigit_ok (l.getD q 0))
  rw [h1] at HL
  rw [h2] at HD
  have b34 := ne_beq h3 34 rfl
  have hcs : l.getD q 0 ≠ 123 ∧ l.getD q 0 ≠ 125 ∧ l.getD q 0 ≠ 59 ∧ l.getD q 0 ≠ 44 := by simpa [signB] using h4
  obtain ⟨g1, g2, g3, g4⟩ := hcs
  have b1 := ne_beq g1 123 rfl
  have b2 := ne_beq g2 125 rfl
  have b3 := ne_beq g3 59 rfl
  have b4 := ne_beq g4 44 rfl
  generalize l.getD q 0 = x at *
  clear hs hm hk hq hql hsz hlt HRUN hp h1 h2 h3 h4 g1 g2 g3 g4
  go_enter Tryd.func15, Tryd.ntmps15
  go_wp2_with (first
    | (go_at_call 24; refine (HSK.out _).mono ?_; rintro e w1 ⟨rfl, rfl⟩)
    | (go_at_call 16; refine (HPL.out _).mono ?_; rintro e w1 ⟨rfl, rfl⟩)
    | (go_at_call 25; refine (HL.out _).mono ?_; rintro e w1 ⟨rfl, rfl⟩)
    | (go_at_call 27; refine (HD.out _).mono ?_; rintro e w1 ⟨rfl, rfl⟩)
    | (refine wpList_store_row rfl _ _ _ rfl w.heap.size #[.int .i64 0, .string ⟨#[]⟩, .int .u64 0, .int .i64 (pa : Int), .int .i64 (pb : Int)] rfl rfl _ _ (rw_row w _ _ _ _) size5R rfl (tok_one _ _ _ _ _) ?_))
  refine bodyPost_ret (v := .tuple #[.agg #[.int .i64 0, .string ⟨#[]⟩, .int .u64 0, .int .i64 (pa : Int), .int .i64 (pb : Int)], .int .i64 0, .int .i64 3]) ?_ rfl ⟨rfl, below_setRow (rw_below w _ _ _ _) (Nat.le_refl _) _⟩
  refine results_ctt rfl _ _ _ _ _ _ rfl rfl rfl ?_
  exact resR _ _ (setRow_heap _ _ _ _ _ _ (rw_row w _ _ _ _)) rfl

set_option maxHeartbeats 2000000 in
set_option maxRecDepth 50000 in
theorem rn_quote0 (s : ByteArray) (l : List Nat) (hs : Str s l) (hm : l.length ≤ 2000000) (k q : Nat) (hk : k ≤ l.length) (hq : q = atV l k) (hlt : q < l.length) (h1 : letterB (l.getD q 0) = false) (h2 : digitB (l.getD q 0) = false) (h3 : l.getD q 0 = 34) (hsc : scanV l (q : Int) = ([], 0, 6)) (w : World) :
    Calls Tryd.prog 15 #[.string s, .int .i64 (k : Int)] w fun e w' => RnP w l q ⟨6, 0, [], 0, 0⟩ e w' := by
  have hql := (atV_le hk).2
  rw [← hq] at hql
  have hsz : (s.size : Int) = (l.length : Int) := by have := hs.size; omega
  have HSK : Hid (∀ W, Calls Tryd.prog 24 #[.string s, .int .i64 (k : Int)] W fun e w' => e = .returned (.int .i64 (q : Int)) ∧ W = w') := Lib.hid fun W => by rw [hq]; exact rskip_ok s l hs hm k hk W
  have HPL : Hid (∀ W, Calls Tryd.prog 16 #[.string s, .int .i64 (q : Int)] W fun e w' => e = .returned (.tuple #[.int .i64 ((placeV l q).1 : Int), .int .i64 ((placeV l q).2 : Int)]) ∧ W = w') := Lib.hid fun W => rplace_ok s l hs hm q hql W
  have HRUN : Hid (∀ (d : Bool) W, Calls Tryd.prog 26 #[.string s, .int .i64 (q : Int), .bool d] W fun e w' => e = .returned (.int .i64 ((q + ((l.drop q).takeWhile (runB d)).length : Nat) : Int)) ∧ W = w') := Lib.hid fun d W => rrun_ok s l hs hm q hql d W
  obtain ⟨p, hp⟩ : ∃ p, p = placeV l q := ⟨_, rfl⟩
  unfold RnP
  rw [← hp] at HPL ⊢
  obtain ⟨pa, pb⟩ := p
  have e1 : ((q : Int) == (s.size : Int)) = false := by rw [beq_eq_false_iff_ne]; omega
  have hi := hs.index hlt
  have HL := Lib.hid (rletter_ok (l.getD q 0))
  have HD := Lib.hid (rdigit_ok (l.getD q 0))
  rw [h1] at HL
  rw [h2] at HD
  have hS := fun W => refscan_ok s l hs (by unfold maxLen; omega) (q : Int) W
  rw [hsc] at hS
  have HSC : Hid (∀ W, Calls Tryd.prog 29 #[.string s, .int .i64 (q : Int)] W fun e w' => e = .returned (.tuple #[.string ⟨#[]⟩, .int .i64 0, .int .i64 6]) ∧ W = w') := Lib.hid fun W => (hS W).mono fun e w' h => ⟨h.1, h.2⟩
  rw [h3] at hi HL HD
  clear hs hm hk hq hql hsz hlt HRUN hp h1 h2 h3 hS hsc
  go_enter Tryd.func15, Tryd.ntmps15
  go_wp2_with (first
    | (go_at_call 24; refine (HSK.out _).mono ?_; rintro e w1 ⟨rfl, rfl⟩)
    | (go_at_call 16; refine (HPL.out _).mono ?_; rintro e w1 ⟨rfl, rfl⟩)
    | (go_at_call 25; refine (HL.out _).mono ?_; rintro e w1 ⟨rfl, rfl⟩)
    | (go_at_call 27; refine (HD.out _).mono ?_; rintro e w1 ⟨rfl, rfl⟩)
    | (go_at_call 29; refine (HSC.out _).mono ?_; rintro e w1 ⟨rfl, rfl⟩)
    | (refine wpList_store_row rfl _ _ _ rfl w.heap.size #[.int .i64 0, .string ⟨#[]⟩, .int .u64 0, .int .i64 (pa : Int), .int .i64 (pb : Int)] rfl rfl _ _ (rw_row w _ _ _ _) size5R rfl (tok_one _ _ _ _ _) ?_))
  refine bodyPost_ret (v := .tuple #[.agg #[.int .i64 0, .string ⟨#[]⟩, .int .u64 0, .int .i64 (pa : Int), .int .i64 (pb : Int)], .int .i64 0, .int .i64 6]) ?_ rfl ⟨rfl, below_setRow (rw_below w _ _ _ _) (Nat.le_refl _) _⟩
  refine results_ctt rfl _ _ _ _ _ _ rfl rfl rfl ?_
  exact resR _ _ (setRow_heap _ _ _ _ _ _ (rw_row w _ _ _ _)) rfl

set_option maxHeartbeats 2000000 in
set_option maxRecDepth 50000 in
theorem rn_quote1 (s : ByteArray) (l : List Nat) (hs : Str s l) (hm : l.length ≤ 2000000) (k q : Nat) (hk : k ≤ l.length) (hq : q = atV l k) (hlt : q < l.length) (h1 : letterB (l.getD q 0) = false) (h2 : digitB (l.getD q 0) = false) (h3 : l.getD q 0 = 34) (n : List Nat) (E : Nat) (hE : q ≤ E) (hsc : scanV l (q : Int) = (n, (E : Int), 0)) (w : World) :
    Calls Tryd.prog 15 #[.string s, .int .i64 (k : Int)] w fun e w' => RnP w l q ⟨0, 3, n, 0, E - q⟩ e w' := by
  have hql := (atV_le hk).2
  rw [← hq] at hql
  have hsz : (s.size : Int) = (l.length : Int) := by have := hs.size; omega
  have HSK : Hid (∀ W, Calls Tryd.prog 24 #[.string s, .int .i64 (k : Int)] W fun e w' => e = .returned (.int .i64 (q : Int)) ∧ W = w') := Lib.hid fun W => by rw [hq]; exact rskip_ok s l hs hm k hk W
  have HPL : Hid (∀ W, Calls Tryd.prog 16 #[.string s, .int .i64 (q : Int)] W fun e w' => e = .returned (.tuple #[.int .i64 ((placeV l q).1 : Int), .int .i64 ((placeV l q).2 : Int)]) ∧ W = w') := Lib.hid fun W => rplace_ok s l hs hm q hql W
  have HRUN : Hid (∀ (d : Bool) W, Calls Tryd.prog 26 #[.string s, .int .i64 (q : Int), .bool d] W fun e w' => e = .returned (.int .i64 ((q + ((l.drop q).takeWhile (runB d)).length : Nat) : Int)) ∧ W = w') := Lib.hid fun d W => rrun_ok s l hs hm q hql d W
  obtain ⟨p, hp⟩ : ∃ p, p = placeV l q := ⟨_, rfl⟩
  unfold RnP
  rw [← hp] at HPL ⊢
  obtain ⟨pa, pb⟩ := p
  have e1 : ((q : Int) == (s.size : Int)) = false := by rw [beq_eq_false_iff_ne]; omega
  have hi := hs.index hlt
  have HL := Lib.hid (rletter_ok (l.getD q 0))
  have HD := Lib.hid (rdigit_ok (l.getD q 0))
  rw [h1] at HL
  rw [h2] at HD
  have hS := fun W => refscan_ok s l hs (by unfold maxLen; omega) (q : Int) W
  rw [hsc] at hS
  have hEE : q + (E - q) = E := by omega
  have HEE := Lib.hid hEE
  generalize htv : strB n = tv at *
  have HTV := Lib.hid htv
  have HSC : Hid (∀ W, Calls Tryd.prog 29 #[.string s, .int .i64 (q : Int)] W fun e w' => e = .returned (.tuple #[.string tv, .int .i64 (E : Int), .int .i64 0]) ∧ W = w') := Lib.hid fun W => (hS W).mono fun e w' h => ⟨by rw [← htv]; exact h.1, h.2⟩
  rw [h3] at hi HL HD
  clear hs hm hk hq hql hsz hlt HRUN hp h1 h2 h3 hS htv hE hEE hsc
  go_enter Tryd.func15, Tryd.ntmps15
  go_wp2_with (first
    | (go_at_call 24; refine (HSK.out _).mono ?_; rintro e w1 ⟨rfl, rfl⟩)
    | (go_at_call 16; refine (HPL.out _).mono ?_; rintro e w1 ⟨rfl, rfl⟩)
    | (go_at_call 25; refine (HL.out _).mono ?_; rintro e w1 ⟨rfl, rfl⟩)
    | (go_at_call 27; refine (HD.out _).mono ?_; rintro e w1 ⟨rfl, rfl⟩)
    | (go_at_call 29; refine (HSC.out _).mono ?_; rintro e w1 ⟨rfl, rfl⟩)
    | (refine wpList_store_row rfl _ _ _ rfl w.heap.size #[.int .i64 3, .string tv, .int .u64 0, .int .i64 (pa : Int), .int .i64 (pb : Int)] rfl rfl _ _ (rw_row w _ _ _ _) size5R rfl (tok_one _ _ _ _ _) ?_))
  refine bodyPost_ret (v := .tuple #[.agg #[.int .i64 3, .string tv, .int .u64 0, .int .i64 (pa : Int), .int .i64 (pb : Int)], .int .i64 (E : Int), .int .i64 0]) ?_ rfl ⟨by rw [← HTV.out]; show _ = Ending.returned (.tuple #[_, .int .i64 ((q + (E - q) : Nat) : Int), _]); rw [HEE.out]; rfl, below_setRow (rw_below w _ _ _ _) (Nat.le_refl _) _⟩
  refine results_ctt rfl _ _ _ _ _ _ rfl rfl rfl ?_
  exact resR _ _ (setRow_heap _ _ _ _ _ _ (rw_row w _ _ _ _)) rfl

set_option maxHeartbeats 2000000 in
set_option maxRecDepth 50000 in
theorem rn_num0 (s : ByteArray) (l : List Nat) (hs : Str s l) (hm : l.length ≤ 2000000) (k q : Nat) (hk : k ≤ l.length) (hq : q = atV l k) (hlt : q < l.length) (h1 : letterB (l.getD q 0) = false) (h2 : digitB (l.getD q 0) = true) (t : List Nat) (ht : t = (l.drop q).takeWhile alnumB) (hv : numV t = none) (w : World) :
    Calls Tryd.prog 15 #[.string s, .int .i64 (k : Int)] w fun e w' => RnP w l q ⟨5, 0, [], 0, 0⟩ e w' := by
  have hql := (atV_le hk).2
  rw [← hq] at hql
  have hsz : (s.size : Int) = (l.length : Int) := by have := hs.size; omega
  have HSK : Hid (∀ W, Calls Tryd.prog 24 #[.string s, .int .i64 (k : Int)] W fun e w' => e = .returned (.int .i64 (q : Int)) ∧ W = w') := Lib.hid fun W => by rw [hq]; exact rskip_ok s l hs hm k hk W
  have HPL : Hid (∀ W, Calls Tryd.prog 16 #[.string s, .int .i64 (q : Int)] W fun e w' => e = .returned (.tuple #[.int .i64 ((placeV l q).1 : Int), .int .i64 ((placeV l q).2 : Int)]) ∧ W = w') := Lib.hid fun W => rplace_ok s l hs hm q hql W
  have HRUN : Hid (∀ (d : Bool) W, Calls Tryd.prog 26 #[.string s, .int .i64 (q : Int), .bool d] W fun e w' => e = .returned (.int .i64 ((q + ((l.drop q).takeWhile (runB d)).length : Nat) : Int)) ∧ W = w') := Lib.hid fun d W => rrun_ok s l hs hm q hql d W
  obtain ⟨p, hp⟩ : ∃ p, p = placeV l q := ⟨_, rfl⟩
  unfold RnP
  rw [← hp] at HPL ⊢
  obtain ⟨pa, pb⟩ := p
  have e1 : ((q : Int) == (s.size : Int)) = false := by rw [beq_eq_false_iff_ne]; omega
  have hi := hs.index hlt
  have HL := Lib.hid (rletter_ok (l.getD q 0))
  have HD := Lib.hid (rdigit_ok (l.getD q 0))
  rw [h1] at HL
  rw [h2] at HD
  have hrb : runB true = alnumB := funext fun x => by unfold runB alnumB; rw [Bool.true_and, Bool.or_comm]
  have HRUN2 := Lib.hid (HRUN.out true)
  rw [hrb, ← ht] at HRUN2
  have htl : t.length ≤ (l.drop q).length := by rw [ht]; exact takeWhile_len _ _
  rw [List.length_drop] at htl
  have hcut := hs.cut (a := q) (b := q + t.length) (by omega) (by omega)
  rw [show q + t.length - q = t.length by omega, ht, ← tw_take, ← ht] at hcut
  have hst : Str (strB t) t := ⟨rfl, by rw [ht, tw_take]; exact (hs.2.drop q).take _⟩
  have hP := fun W => rnum_ok (strB t) t hst (by omega) W
  rw [hv] at hP
  have HP := Lib.hid hP
  generalize hN : q + t.length = N at *
  generalize hx : l.getD q 0 = x at *
  generalize htv : strB t = tv at *
  have HTV := Lib.hid htv
  have HN := Lib.hid hN
  obtain ⟨X, hX⟩ : ∃ X, X = (w.alloc (.cells #[.int .i64 0, .string ⟨#[]⟩, .int .u64 0, .int .i64 0, .int .i64 0] 42)).alloc (.cells #[.int .i64 0, .string ⟨#[]⟩, .int .u64 0, .int .i64 (pa : Int), .int .i64 (pb : Int)] 42) := ⟨_, rfl⟩
  have hx1 : X.heap[w.heap.size]? = some (.cells #[.int .i64 0, .string ⟨#[]⟩, .int .u64 0, .int .i64 0, .int .i64 0] 42 (0, 0)) := by rw [hX]; exact rw_row _ _ _ _ _
  have hx2 : X.heap[w.heap.size + 1]? = some (.cells #[.int .i64 0, .string ⟨#[]⟩, .int .u64 0, .int .i64 (pa : Int), .int .i64 (pb : Int)] 42 (0, 0)) := by rw [hX]; exact rw_two _ _ _ _ _
  have hxb : Below w.heap.size w X := by rw [hX]; exact rw_below _ _ _ _ _
  have HW : Hid (∀ w2, Below X.heap.size X w2 → w2.heap[w.heap.size]? = some (.cells #[.int .i64 0, .string ⟨#[]⟩, .int .u64 0, .int .i64 0, .int .i64 0] 42 (0, 0)) ∧ w2.heap[w.heap.size + 1]? = some (.cells #[.int .i64 0, .string ⟨#[]⟩, .int .u64 0, .int .i64 (pa : Int), .int .i64 (pb : Int)] 42 (0, 0)) ∧ Below w.heap.size w w2) :=
    Lib.hid fun w2 h => ⟨by rw [h.block _ (heap_lt hx1)]; exact hx1, by rw [h.block _ (heap_lt hx2)]; exact hx2, hxb.trans (h.mono hxb.size)⟩
  have HX := Lib.hid hX.symm
  clear hs hm hk hq hql hsz hlt HRUN hp h1 h2 hrb hx htv hN hP hv htl ht hst hx1 hx2 hxb hX
  go_enter Tryd.func15, Tryd.ntmps15
  go_wp2_with (first
    | (go_at_call 24; refine (HSK.out _).mono ?_; rintro e w1 ⟨rfl, rfl⟩)
    | (go_at_call 16; refine (HPL.out _).mono ?_; rintro e w1 ⟨rfl, rfl⟩)
    | (go_at_call 25; refine (HL.out _).mono ?_; rintro e w1 ⟨rfl, rfl⟩)
    | (go_at_call 27; refine (HD.out _).mono ?_; rintro e w1 ⟨rfl, rfl⟩)
    | (go_at_call 26; refine (HRUN2.out _).mono ?_; rintro e w1 ⟨rfl, rfl⟩))
  rw [HX.out]
  refine (HP.out X).mono ?_
  rintro e w2 ⟨rfl, hb⟩
  obtain ⟨r1, r2, hB⟩ := HW.out w2 hb
  have HR1 := Lib.hid r1
  have HR2 := Lib.hid r2
  have HB := Lib.hid hB
  have hl2 := heap_lt r2
  clear hb r1 hB
  unfold opt
  have d0 : w2.cell? ⟨w.heap.size + 1, 0, none⟩ = some (.int .i64 0) := cell_of_row _ _ 0 _ _ _ r2
  have d1 : w2.cell? ⟨w.heap.size + 1, 1, none⟩ = some (.string ⟨#[]⟩) := cell_of_row _ _ 1 _ _ _ r2
  have d2 : w2.cell? ⟨w.heap.size + 1, 2, none⟩ = some (.int .u64 0) := cell_of_row _ _ 2 _ _ _ r2
  have d3 : w2.cell? ⟨w.heap.size + 1, 3, none⟩ = some (.int .i64 (pa : Int)) := cell_of_row _ _ 3 _ _ _ r2
  have d4 : w2.cell? ⟨w.heap.size + 1, 4, none⟩ = some (.int .i64 (pb : Int)) := cell_of_row _ _ 4 _ _ _ r2
  clear r2
  go_wp2_with (refine wpList_store_row rfl _ _ _ rfl w.heap.size #[.int .i64 0, .string ⟨#[]⟩, .int .u64 0, .int .i64 (pa : Int), .int .i64 (pb : Int)] rfl rfl _ _ HR1.out size5R rfl (tok_one _ _ _ _ _) ?_)
  refine bodyPost_ret (v := .tuple #[.agg #[.int .i64 0, .string ⟨#[]⟩, .int .u64 0, .int .i64 (pa : Int), .int .i64 (pb : Int)], .int .i64 0, .int .i64 5]) ?_ rfl ⟨rfl, below_setRow HB.out (Nat.le_refl _) _⟩
  refine results_ctt rfl _ _ _ _ _ _ rfl rfl rfl ?_
  exact resR _ _ (setRow_heap _ _ _ _ _ _ HR1.out) rfl

set_option maxHeartbeats 2000000 in
set_option maxRecDepth 50000 in
theorem rn_num1 (s : ByteArray) (l : List Nat) (hs : Str s l) (hm : l.length ≤ 2000000) (k q : Nat) (hk : k ≤ l.length) (hq : q = atV l k) (hlt : q < l.length) (h1 : letterB (l.getD q 0) = false) (h2 : digitB (l.getD q 0) = true) (t : List Nat) (ht : t = (l.drop q).takeWhile alnumB) (v : Int) (hv : numV t = some v) (w : World) :
    Calls Tryd.prog 15 #[.string s, .int .i64 (k : Int)] w fun e w' => RnP w l q ⟨0, 2, t, v, t.length⟩ e w' := by
  have hql := (atV_le hk).2
  rw [← hq] at hql
  have hsz : (s.size : Int) = (l.length : Int) := by have := hs.size; omega
  have HSK : Hid (∀ W, Calls Tryd.prog 24 #[.string s, .int .i64 (k : Int)] W fun e w' => e = .returned (.int .i64 (q : Int)) ∧ W = w') := Lib.hid fun W => by rw [hq]; exact rskip_ok s l hs hm k hk W
  have HPL : Hid (∀ W, Calls Tryd.prog 16 #[.string s, .int .i64 (q : Int)] W fun e w' => e = .returned (.tuple #[.int .i64 ((placeV l q).1 : Int), .int .i64 ((placeV l q).2 : Int)]) ∧ W = w') := Lib.hid fun W => rplace_ok s l hs hm q hql W
  have HRUN : Hid (∀ (d : Bool) W, Calls Tryd.prog 26 #[.string s, .int .i64 (q : Int), .bool d] W fun e w' => e = .returned (.int .i64 ((q + ((l.drop q).takeWhile (runB d)).length : Nat) : Int)) ∧ W = w') := Lib.hid fun d W => rrun_ok s l hs hm q hql d W
  obtain ⟨p, hp⟩ : ∃ p, p = placeV l q := ⟨_, rfl⟩
  unfold RnP
  rw [← hp] at HPL ⊢
  obtain ⟨pa, pb⟩ := p
  have e1 : ((q : Int) == (s.size : Int)) = false := by rw [beq_eq_false_iff_ne]; omega
  have hi := hs.index hlt
  have HL := Lib.hid (rletter_ok (l.getD q 0))
  have HD := Lib.hid (rdigit_ok (l.getD q 0))
  rw [h1] at HL
  rw [h2] at HD
  have hrb : runB true = alnumB := funext fun x => by unfold runB alnumB; rw [Bool.true_and, Bool.or_comm]
  have HRUN2 := Lib.hid (HRUN.out true)
  rw [hrb, ← ht] at HRUN2
  have htl : t.length ≤ (l.drop q).length := by rw [ht]; exact takeWhile_len _ _
  rw [List.length_drop] at htl
  have hcut := hs.cut (a := q) (b := q + t.length) (by omega) (by omega)
  rw [show q + t.length - q = t.length by omega, ht, ← tw_take, ← ht] at hcut
  have hst : Str (strB t) t := ⟨rfl, by rw [ht, tw_take]; exact (hs.2.drop q).take _⟩
  have hP := fun W => rnum_ok (strB t) t hst (by omega) W
  rw [hv] at hP
  have HP := Lib.hid hP
  generalize hN : q + t.length = N at *
  generalize hx : l.getD q 0 = x at *
  generalize htv : strB t = tv at *
  have HTV := Lib.hid htv
  have HN := Lib.hid hN
  obtain ⟨X, hX⟩ : ∃ X, X = (w.alloc (.cells #[.int .i64 0, .string ⟨#[]⟩, .int .u64 0, .int .i64 0, .int .i64 0] 42)).alloc (.cells #[.int .i64 0, .string ⟨#[]⟩, .int .u64 0, .int .i64 (pa : Int), .int .i64 (pb : Int)] 42) := ⟨_, rfl⟩
  have hx1 : X.heap[w.heap.size]? = some (.cells #[.int .i64 0, .string ⟨#[]⟩, .int .u64 0, .int .i64 0, .int .i64 0] 42 (0, 0)) := by rw [hX]; exact rw_row _ _ _ _ _
  have hx2 : X.heap[w.heap.size + 1]? = some (.cells #[.int .i64 0, .string ⟨#[]⟩, .int .u64 0, .int .i64 (pa : Int), .int .i64 (pb : Int)] 42 (0, 0)) := by rw [hX]; exact rw_two _ _ _ _ _
  have hxb : Below w.heap.size w X := by rw [hX]; exact rw_below _ _ _ _ _
  have HW : Hid (∀ w2, Below X.heap.size X w2 → w2.heap[w.heap.size]? = some (.cells #[.int .i64 0, .string ⟨#[]⟩, .int .u64 0, .int .i64 0, .int .i64 0] 42 (0, 0)) ∧ w2.heap[w.heap.size + 1]? = some (.cells #[.int .i64 0, .string ⟨#[]⟩, .int .u64 0, .int .i64 (pa : Int), .int .i64 (pb : Int)] 42 (0, 0)) ∧ Below w.heap.size w w2) :=
    Lib.hid fun w2 h => ⟨by rw [h.block _ (heap_lt hx1)]; exact hx1, by rw [h.block _ (heap_lt hx2)]; exact hx2, hxb.trans (h.mono hxb.size)⟩
  have HX := Lib.hid hX.symm
  clear hs hm hk hq hql hsz hlt HRUN hp h1 h2 hrb hx htv hN hP hv htl ht hst hx1 hx2 hxb hX
  go_enter Tryd.func15, Tryd.ntmps15
  go_wp2_with (first
    | (go_at_call 24; refine (HSK.out _).mono ?_; rintro e w1 ⟨rfl, rfl⟩)
    | (go_at_call 16; refine (HPL.out _).mono ?_; rintro e w1 ⟨rfl, rfl⟩)
    | (go_at_call 25; refine (HL.out _).mono ?_; rintro e w1 ⟨rfl, rfl⟩)
    | (go_at_call 27; refine (HD.out _).mono ?_; rintro e w1 ⟨rfl, rfl⟩)
    | (go_at_call 26; refine (HRUN2.out _).mono ?_; rintro e w1 ⟨rfl, rfl⟩))
  rw [HX.out]
  refine (HP.out X).mono ?_
  rintro e w2 ⟨rfl, hb⟩
  obtain ⟨r1, r2, hB⟩ := HW.out w2 hb
  have HR1 := Lib.hid r1
  have HR2 := Lib.hid r2
  have HB := Lib.hid hB
  have hl2 := heap_lt r2
  clear hb r1 hB
  unfold opt
  have d0 : w2.cell? ⟨w.heap.size + 1, 0, none⟩ = some (.int .i64 0) := cell_of_row _ _ 0 _ _ _ r2
  have d1 : w2.cell? ⟨w.heap.size + 1, 1, none⟩ = some (.string ⟨#[]⟩) := cell_of_row _ _ 1 _ _ _ r2
  have d2 : w2.cell? ⟨w.heap.size + 1, 2, none⟩ = some (.int .u64 0) := cell_of_row _ _ 2 _ _ _ r2
  have d3 : w2.cell? ⟨w.heap.size + 1, 3, none⟩ = some (.int .i64 (pa : Int)) := cell_of_row _ _ 3 _ _ _ r2
  have d4 : w2.cell? ⟨w.heap.size + 1, 4, none⟩ = some (.int .i64 (pb : Int)) := cell_of_row _ _ 4 _ _ _ r2
  have f0 : w2.frozen? ⟨w.heap.size + 1, 0, none⟩ = false := frozen_of_row _ _ 0 _ _ r2
  have f1 : w2.frozen? ⟨w.heap.size + 1, 1, none⟩ = false := frozen_of_row _ _ 1 _ _ r2
  have f2 : w2.frozen? ⟨w.heap.size + 1, 2, none⟩ = false := frozen_of_row _ _ 2 _ _ r2
  obtain ⟨w3, hw3⟩ : ∃ w3, w3 = ((w2.setCell ⟨w.heap.size + 1, 0, none⟩ (.int .i64 2)).setCell ⟨w.heap.size + 1, 1, none⟩ (.string tv)).setCell ⟨w.heap.size + 1, 2, none⟩ (.int .u64 v) := ⟨_, rfl⟩
  have HR3 : Hid (w3.heap[w.heap.size]? = some (.cells #[.int .i64 0, .string ⟨#[]⟩, .int .u64 0, .int .i64 0, .int .i64 0] 42 (0, 0))) := Lib.hid (by
    rw [hw3, heap_setCell_other _ _ w.heap.size _ (show w.heap.size ≠ w.heap.size + 1 by omega), heap_setCell_other _ _ w.heap.size _ (show w.heap.size ≠ w.heap.size + 1 by omega), heap_setCell_other _ _ w.heap.size _ (show w.heap.size ≠ w.heap.size + 1 by omega)]
    exact HR1.out)
  have HB3 : Hid (Below w.heap.size w w3) := Lib.hid (by
    rw [hw3]
    refine ⟨HB.out.os, HB.out.tape, HB.out.output, by simpa using HB.out.size, fun j hj => ?_⟩
    rw [heap_setCell_other _ _ j _ (show j ≠ w.heap.size + 1 by omega), heap_setCell_other _ _ j _ (show j ≠ w.heap.size + 1 by omega), heap_setCell_other _ _ j _ (show j ≠ w.heap.size + 1 by omega)]
    exact HB.out.block j hj)
  have HW3 : Hid (((w2.setCell ⟨w.heap.size + 1, 0, none⟩ (.int .i64 2)).setCell ⟨w.heap.size + 1, 1, none⟩ (.string tv)).setCell ⟨w.heap.size + 1, 2, none⟩ (.int .u64 v) = w3) := Lib.hid hw3.symm
  clear r2 hw3
  go_wp2_with (rw [HW3.out]; refine wpList_store_row rfl _ _ _ rfl w.heap.size #[.int .i64 2, .string tv, .int .u64 v, .int .i64 (pa : Int), .int .i64 (pb : Int)] rfl rfl _ _ HR3.out size5R rfl (tok_one _ _ _ _ _) ?_)
  refine bodyPost_ret (v := .tuple #[.agg #[.int .i64 2, .string tv, .int .u64 v, .int .i64 (pa : Int), .int .i64 (pb : Int)], .int .i64 (N : Int), .int .i64 0]) ?_ rfl ⟨by rw [← HTV.out, ← HN.out]; rfl, below_setRow HB3.out (Nat.le_refl _) _⟩
  refine results_ctt rfl _ _ _ _ _ _ rfl rfl rfl ?_
  exact resR _ _ (setRow_heap _ _ _ _ _ _ HR3.out) rfl

theorem rnext_ok (s : ByteArray) (l : List Nat) (hs : Str s l) (hm : l.length ≤ 2000000) (k : Nat) (hk : k ≤ l.length) (w : World) :
    Calls Tryd.prog 15 #[.string s, .int .i64 (k : Int)] w fun e w' => RnP w l (atV l k) (readL numV (l.drop (atV l k))) e w' := by
  have hql := (atV_le hk).2
  generalize hq : atV l k = q at *
  rcases Nat.lt_or_ge q l.length with hlt | hge
  · have hd := drop_at hlt
    cases h1 : letterB (l.getD q 0) with
    | true =>
      have e2 : readL numV (l.drop q) = ⟨0, 1, (l.drop q).takeWhile letterB, 0, ((l.drop q).takeWhile letterB).length⟩ := by rw [hd, read_cons, if_pos h1]
      rw [e2]
      exact rn_word s l hs hm k q hk hq.symm hlt h1 w
    | false =>
      cases h2 : digitB (l.getD q 0) with
      | true =>
        have e2 : readL numV (l.drop q) = readN ((l.drop q).takeWhile alnumB) (numV ((l.drop q).takeWhile alnumB)) := by rw [hd, read_cons, h1, if_neg (by decide), if_pos h2]
        rw [e2]
        obtain ⟨t, ht⟩ : ∃ t, t = (l.drop q).takeWhile alnumB := ⟨_, rfl⟩
        rw [← ht]
        cases hv : numV t with
        | none => exact rn_num0 s l hs hm k q hk hq.symm hlt h1 h2 t ht hv w
        | some v => exact rn_num1 s l hs hm k q hk hq.symm hlt h1 h2 t ht v hv w
      | false =>
        by_cases h3 : l.getD q 0 = 34
        · have e2 : readL numV (l.drop q) = readQ ((l.drop (q + 1)).length + 1) (body (l.drop (q + 1))) := by rw [hd, read_cons, h1, if_neg (by decide), h2, if_neg (by decide), if_pos h3]
          rw [e2]
          have hsc := scanV_in hlt h3
          cases hb : body (l.drop (q + 1)) with
          | none =>
            rw [hb, scanIn_none] at hsc
            exact rn_quote0 s l hs hm k q hk hq.symm hlt h1 h2 h3 hsc w
          | some z =>
            obtain ⟨n, t⟩ := z
            rw [hb] at hsc
            have hbl := body_len _ n t hb
            have hrl : (l.drop (q + 1)).length + (q + 1) = l.length := by rw [List.length_drop]; omega
            cases hn : nameB n with
            | false =>
              rw [scanIn_bad hn] at hsc
              have e3 : readQ ((l.drop (q + 1)).length + 1) (some (n, t)) = ⟨6, 0, [], 0, 0⟩ := by unfold readQ; simp [hn]
              rw [e3]
              exact rn_quote0 s l hs hm k q hk hq.symm hlt h1 h2 h3 hsc w
            | true =>
              rw [scanIn_good hn] at hsc
              have e3 : readQ ((l.drop (q + 1)).length + 1) (some (n, t)) = ⟨0, 3, n, 0, (l.drop (q + 1)).length + 1 - t.length⟩ := by unfold readQ; simp [hn]
              rw [e3]
              obtain ⟨E, hE⟩ : ∃ E, E = l.length - t.length := ⟨_, rfl⟩
              have e4 : (l.drop (q + 1)).length + 1 - t.length = E - q := by omega
              rw [e4]
              exact rn_quote1 s l hs hm k q hk hq.symm hlt h1 h2 h3 n E (by omega) (by rw [hsc, hE, Int.natCast_sub (by omega)]) w
        · cases h4 : signB (l.getD q 0) with
          | true =>
            have e2 : readL numV (l.drop q) = ⟨0, 4, [l.getD q 0], 0, 1⟩ := by rw [hd, read_cons, h1, if_neg (by decide), h2, if_neg (by decide), if_neg h3, if_pos h4]
            rw [e2]
            exact rn_sign s l hs hm k q hk hq.symm hlt h1 h2 h3 h4 w
          | false =>
            have e2 : readL numV (l.drop q) = ⟨3, 0, [], 0, 0⟩ := by rw [hd, read_cons, h1, if_neg (by decide), h2, if_neg (by decide), if_neg h3, h4, if_neg (by decide)]
            rw [e2]
            exact rn_none s l hs hm k q hk hq.symm hlt h1 h2 h3 h4 w
  · have hd : l.drop q = [] := List.drop_of_length_le hge
    rw [hd]
    exact rn_end s l hs hm k q hk hq.symm hge w

end Go.Proofs.YtmgohahjocdeeaaDoor
