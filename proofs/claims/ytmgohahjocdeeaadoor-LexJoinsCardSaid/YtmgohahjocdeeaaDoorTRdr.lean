/-
  Layer 6 (lex): the program's readers of the kinds of tokens. By the verifier.
-/
import Derived.Test.YtmgohahjocdeeaaDoorTCur
import Derived.Test.YtmgohahjocdeeaaDoorTRes
set_option linter.unusedVariables false
namespace Go.Proofs.YtmgohahjocdeeaaDoor
open Go.RowKit

def zeroT : Array Value := #[.int .i64 0, .string ⟨#[]⟩, .int .u64 0, .int .i64 0, .int .i64 0]
theorem tok_one (a d e : Int) (b : ByteArray) (c : Int) : (#[.int .i64 a, .string b, .int .u64 c, .int .i64 d, .int .i64 e] : Array Value).all (·.oneCell') = true := by
  simp only [List.all_toArray, List.all_cons, List.all_nil]
  rfl
theorem fau_one (a b c : Int) : (#[.int .i64 a, .int .i64 b, .int .i64 c] : Array Value).all (·.oneCell') = true := by
  simp only [List.all_toArray, List.all_cons, List.all_nil]
  rfl
theorem size5T : (Tryd.prog.info? 39).map (·.size) = some 5 := by kernel_rfl
theorem size3F : (Tryd.prog.info? 26).map (·.size) = some 3 := by kernel_rfl

theorem resT {w : World} {g : Nat} {cs : Array Value} (t : TypeId) (fr : Nat × Nat) (hg : w.heap[g]? = some (.cells cs t fr)) (hc : cs.size = 5) : ResAt w (.pointer (some ⟨g, 0, none⟩)) 39 cs := ResAt.mk1 t cs fr _ hg Tryd.underlying39 rfl (by rw [hc]; exact size5T)
theorem resF {w : World} {g : Nat} {cs : Array Value} (t : TypeId) (fr : Nat × Nat) (hg : w.heap[g]? = some (.cells cs t fr)) (hc : cs.size = 3) : ResAt w (.pointer (some ⟨g, 0, none⟩)) 26 cs := ResAt.mk1 t cs fr _ hg Tryd.underlying26 rfl (by rw [hc]; exact size3F)

/-- What a reader answers. -/
def RdP (W : World) (B : Nat) (s : ByteArray) (l : List Nat) (m : Nat) (R : Rd) (e : Ending) (w' : World) : Prop :=
  e = .returned (.tuple #[.agg (tokA ⟨R.kind, R.text, R.val, 0, 0⟩), .int .i64 (R.code : Int)]) ∧ (R.code = 0 → Cur w' B (placeV l (m + R.len)) s (m + R.len)) ∧ Sole B W w'

/-- A block of a call's own, made first. -/
structure Mk (W W1 : World) (B : Nat) (cs : Array Value) (t : TypeId) : Prop where
  row : W1.heap[W.heap.size]? = some (.cells cs t (0, 0))
  below : Below W.heap.size W W1
  sole : Sole B W W1
  size : W1.heap.size = W.heap.size + 1
theorem Mk.new (W : World) (B : Nat) (cs : Array Value) (t : TypeId) : Mk W (W.alloc (.cells cs t)) B cs t :=
  have hb : Below W.heap.size W (W.alloc (.cells cs t)) := (Below.refl _ _).alloc (Nat.le_refl _) _
  ⟨heap_alloc_new W _, hb, Sole.of_below (N := 0) hb, by simp⟩

theorem zread (s : ByteArray) (l : List Nat) (m B : Nat) (W : World) (h : Cur W B (placeV l m) s m) :
    Calls Tryd.prog 57 #[.pointer (some ⟨B, 0, none⟩)] W fun e w' => RdP W B s l m ⟨0, 0, [], 0, 0⟩ e w' := by
  obtain ⟨W1, hW1⟩ : ∃ W1, W1 = W.alloc (.cells zeroT 39) := ⟨_, rfl⟩
  have hk : Mk W W1 B zeroT 39 := by rw [hW1]; exact Mk.new _ _ _ _
  have hbox : W.alloc (.cells #[.int .i64 0, .string ⟨#[]⟩, .int .u64 0, .int .i64 0, .int .i64 0] 39) = W1 := hW1.symm
  have HZ := Lib.hid hk.row
  have HF : Hid (Cur (W1.setRow W.heap.size zeroT) B (placeV l (m + 0)) s (m + 0) ∧ Sole B W (W1.setRow W.heap.size zeroT)) :=
    Lib.hid ⟨(h.below hk.below).setRowOther (by have := h.lt; omega) _, hk.sole.own (Nat.le_refl _) _⟩
  clear hk hW1 h
  go_enter Tryd.func57, Tryd.ntmps57
  go_wp2_with ((refine wpList_store_row rfl _ _ _ rfl W.heap.size zeroT rfl rfl _ _ HZ.out size5T rfl (tok_one 0 0 0 ⟨#[]⟩ 0) ?_))
  refine bodyPost_ret (v := .tuple #[.agg zeroT, .int .i64 0]) ?_ rfl ⟨rfl, fun _ => HF.out.1, HF.out.2⟩
  refine results_ct rfl _ _ _ _ _ rfl rfl ?_
  exact resT _ _ (setRow_heap _ _ _ _ _ _ HZ.out) rfl

theorem nread (s : ByteArray) (l : List Nat) (m B : Nat) (W : World) (h : Cur W B (placeV l m) s m) :
    Calls Tryd.prog 64 #[.pointer (some ⟨B, 0, none⟩)] W fun e w' => RdP W B s l m ⟨3, 0, [], 0, 0⟩ e w' := by
  obtain ⟨W1, hW1⟩ : ∃ W1, W1 = W.alloc (.cells zeroT 39) := ⟨_, rfl⟩
  have hk : Mk W W1 B zeroT 39 := by rw [hW1]; exact Mk.new _ _ _ _
  have hbox : W.alloc (.cells #[.int .i64 0, .string ⟨#[]⟩, .int .u64 0, .int .i64 0, .int .i64 0] 39) = W1 := hW1.symm
  have HZ := Lib.hid hk.row
  have HF : Hid (Sole B W (W1.setRow W.heap.size zeroT)) := Lib.hid (hk.sole.own (Nat.le_refl _) _)
  clear hk hW1 h
  go_enter Tryd.func64, Tryd.ntmps64
  go_wp2_with ((refine wpList_store_row rfl _ _ _ rfl W.heap.size zeroT rfl rfl _ _ HZ.out size5T rfl (tok_one 0 0 0 ⟨#[]⟩ 0) ?_))
  refine bodyPost_ret (v := .tuple #[.agg zeroT, .int .i64 3]) ?_ rfl ⟨rfl, (fun h => by cases h), HF.out⟩
  refine results_ct rfl _ _ _ _ _ rfl rfl ?_
  exact resT _ _ (setRow_heap _ _ _ _ _ _ HZ.out) rfl

theorem wread (s : ByteArray) (l : List Nat) (hs : Str s l) (hm : l.length ≤ 2000000) (m B : Nat) (hml : m ≤ l.length) (W : World) (h : Cur W B (placeV l m) s m) :
    Calls Tryd.prog 59 #[.pointer (some ⟨B, 0, none⟩)] W fun e w' => RdP W B s l m ⟨0, 1, (l.drop m).takeWhile letterB, 0, ((l.drop m).takeWhile letterB).length⟩ e w' := by
  obtain ⟨W1, hW1⟩ : ∃ W1, W1 = W.alloc (.cells zeroT 39) := ⟨_, rfl⟩
  have hk : Mk W W1 B zeroT 39 := by rw [hW1]; exact Mk.new _ _ _ _
  have hbox : W.alloc (.cells #[.int .i64 0, .string ⟨#[]⟩, .int .u64 0, .int .i64 0, .int .i64 0] 39) = W1 := hW1.symm
  have hc1 := h.below hk.below
  have hBW := h.lt
  have hT := take_ok6 _ letterB bel_letter s l hs hm m B hml W1 hc1 _ rfl
  generalize (l.drop m).takeWhile letterB = t at *
  have HT := Lib.hid (hT.mono fun e w' q => And.intro q.1 (And.intro (q.2.2.keeps hk.row (by omega)) (And.intro (show Cur (w'.setRow W.heap.size #[.int .i64 1, .string (strB t), .int .u64 0, .int .i64 0, .int .i64 0]) B (placeV l (m + t.length)) s (m + t.length) from q.2.1.setRowOther (by omega) _) (show Sole B W (w'.setRow W.heap.size #[.int .i64 1, .string (strB t), .int .u64 0, .int .i64 0, .int .i64 0]) from (hk.sole.trans q.2.2).own (Nat.le_refl _) _))))
  clear hT hk hW1 h hc1 hs hBW
  go_enter Tryd.func59, Tryd.ntmps59
  go_wp2_with (first
    | (go_at_call 73; refine HT.out.mono ?_; rintro e w2 ⟨rfl, hz, hf⟩; have HZ := Lib.hid hz; have HF := Lib.hid hf; clear hz hf)
    | (refine wpList_store_row rfl _ _ _ rfl W.heap.size #[.int .i64 1, .string (strB t), .int .u64 0, .int .i64 0, .int .i64 0] rfl rfl _ _ HZ.out size5T rfl (tok_one _ _ _ _ _) ?_))
  refine bodyPost_ret (v := .tuple #[.agg #[.int .i64 1, .string (strB t), .int .u64 0, .int .i64 0, .int .i64 0], .int .i64 0]) ?_ rfl ⟨rfl, fun _ => HF.out.1, HF.out.2⟩
  refine results_ct rfl _ _ _ _ _ rfl rfl ?_
  exact resT _ _ (setRow_heap _ _ _ _ _ _ HZ.out) rfl

theorem nuread (s : ByteArray) (l : List Nat) (hs : Str s l) (hm : l.length ≤ 2000000) (m B : Nat) (hml : m ≤ l.length) (W : World) (h : Cur W B (placeV l m) s m) (hE : EnvAt B W) :
    Calls Tryd.prog 61 #[.pointer (some ⟨B, 0, none⟩)] W fun e w' => RdP W B s l m (readN ((l.drop m).takeWhile alnumB) (numV ((l.drop m).takeWhile alnumB))) e w' := by
  obtain ⟨W1, hW1⟩ : ∃ W1, W1 = W.alloc (.cells zeroT 39) := ⟨_, rfl⟩
  have hk : Mk W W1 B zeroT 39 := by rw [hW1]; exact Mk.new _ _ _ _
  have hbox : W.alloc (.cells #[.int .i64 0, .string ⟨#[]⟩, .int .u64 0, .int .i64 0, .int .i64 0] 39) = W1 := hW1.symm
  have hc1 := h.below hk.below
  have hBW := h.lt
  have hT := take_ok6 _ alnumB bel_alnum s l hs hm m B hml W1 hc1 _ rfl
  have hlen : ((l.drop m).takeWhile alnumB).length ≤ 140737488355328 := by
    have := takeWhile_len alnumB (l.drop m)
    rw [List.length_drop] at this
    omega
  have hst : Str (strB ((l.drop m).takeWhile alnumB)) ((l.drop m).takeWhile alnumB) := ⟨rfl, by rw [tw_take]; exact (hs.2.drop m).take _⟩
  generalize (l.drop m).takeWhile alnumB = t at *
  have HT := Lib.hid (hT.mono fun e w' q => And.intro q.1 (And.intro (q.2.2.keeps hk.row (by omega)) (And.intro q.2.1 (hk.sole.trans q.2.2))))
  have HP : Hid (∀ W2, Sole B W W2 → Calls Tryd.prog 75 #[.string (strB t)] W2 fun e w' => FoldRes (numV t) e ∧ Below W2.heap.size W2 w') := Lib.hid fun W2 h2 => pnum_ok _ t hst hlen W2 (hE.sole h2).env
  have HN : Hid (W.heap.size ≠ B) := Lib.hid (by omega)
  have HL : Hid (W.heap.size < W1.heap.size) := Lib.hid (by rw [hk.size]; omega)
  clear hT hk hW1 h hc1 hs hBW hE hst hlen
  cases hv : numV t with
  | none =>
    rw [hv] at HP
    go_enter Tryd.func61, Tryd.ntmps61
    go_wp2_with fail
    refine HT.out.mono ?_
    rintro e w2 ⟨rfl, hz, hc, hsl⟩
    have HC := Lib.hid (And.intro hz (And.intro hc hsl))
    clear hz hc hsl
    go_wp2_with fail
    refine (HP.out w2 HC.out.2.2).mono ?_
    rintro e w3 ⟨rfl, hb⟩
    have HZ : Hid (w3.heap[W.heap.size]? = some (.cells zeroT 39 (0, 0))) := Lib.hid (by
      have hz := HC.out.1
      have hlt : W.heap.size < w2.heap.size := by
        rcases Nat.lt_or_ge W.heap.size w2.heap.size with h1 | h1
        · exact h1
        · rw [Array.getElem?_eq_none h1] at hz; cases hz
      rw [hb.block _ hlt]; exact hz)
    have HF := Lib.hid ((HC.out.2.2.fresh hb).own (Nat.le_refl W.heap.size) zeroT)
    clear hb
    unfold opt
    go_wp2_with ((refine wpList_store_row rfl _ _ _ rfl W.heap.size zeroT rfl rfl _ _ HZ.out size5T rfl (tok_one 0 0 0 ⟨#[]⟩ 0) ?_))
    refine bodyPost_ret (v := .tuple #[.agg zeroT, .int .i64 5]) ?_ rfl ⟨rfl, (fun h => by cases h), HF.out⟩
    refine results_ct rfl _ _ _ _ _ rfl rfl ?_
    exact resT _ _ (setRow_heap _ _ _ _ _ _ HZ.out) rfl
  | some v =>
    rw [hv] at HP
    go_enter Tryd.func61, Tryd.ntmps61
    go_wp2_with fail
    refine HT.out.mono ?_
    rintro e w2 ⟨rfl, hz, hc, hsl⟩
    have HC := Lib.hid (And.intro hz (And.intro hc hsl))
    clear hz hc hsl
    go_wp2_with fail
    refine (HP.out w2 HC.out.2.2).mono ?_
    rintro e w3 ⟨rfl, hb⟩
    have HZ : Hid (w3.heap[W.heap.size]? = some (.cells zeroT 39 (0, 0))) := Lib.hid (by
      have hz := HC.out.1
      have hlt : W.heap.size < w2.heap.size := by
        rcases Nat.lt_or_ge W.heap.size w2.heap.size with h1 | h1
        · exact h1
        · rw [Array.getElem?_eq_none h1] at hz; cases hz
      rw [hb.block _ hlt]; exact hz)
    have HF := Lib.hid (And.intro (show Cur (w3.setRow W.heap.size #[.int .i64 2, .string (strB t), .int .u64 v, .int .i64 0, .int .i64 0]) B (placeV l (m + t.length)) s (m + t.length) from (HC.out.2.1.below hb).setRowOther (fun e => HN.out e.symm) _) ((HC.out.2.2.fresh hb).own (Nat.le_refl W.heap.size) #[.int .i64 2, .string (strB t), .int .u64 v, .int .i64 0, .int .i64 0]))
    clear hb
    unfold opt
    go_wp2_with ((refine wpList_store_row rfl _ _ _ rfl W.heap.size #[.int .i64 2, .string (strB t), .int .u64 v, .int .i64 0, .int .i64 0] rfl rfl _ _ HZ.out size5T rfl (tok_one _ _ _ _ _) ?_))
    refine bodyPost_ret (v := .tuple #[.agg #[.int .i64 2, .string (strB t), .int .u64 v, .int .i64 0, .int .i64 0], .int .i64 0]) ?_ rfl ⟨rfl, fun _ => HF.out.1, HF.out.2⟩
    refine results_ct rfl _ _ _ _ _ rfl rfl ?_
    exact resT _ _ (setRow_heap _ _ _ _ _ _ HZ.out) rfl

end Go.Proofs.YtmgohahjocdeeaaDoor
