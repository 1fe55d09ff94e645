/-
  WORDS FOR SLICES OF STRINGS, of no layer: a slice that reads as strings, append onto strings of the call's own, the library's Contains and Equal. By the verifier.
-/
import Derived.Test.YtpabccmnhaelnaaNStr
import Derived.Test.YtpabccmnhaelnaaShelf
import Derived.Lib.SlicesS
import Derived.SliceStrings
set_option linter.unusedVariables false
namespace Go.Proofs.Ytpabccmnhaelnaa
open Go.RowKit

/-- The strings that a slice holds. -/
def Sts (w : World) (A : Option Addr) (zs : List ByteArray) : Prop := Seg w A zs.length (fun i => .string (zs.getD i ByteArray.empty))

theorem Sts.below {w w' : World} {A : Option Addr} {zs : List ByteArray} (h : Sts w A zs) {B : Nat} (hB : w.heap.size ≤ B) (hb : Below B w w') : Sts w' A zs := Seg.below h hB hb

theorem Sts.some {w : World} {A : Option Addr} {zs : List ByteArray} (h : Sts w A zs) (h0 : 0 < zs.length) : ∃ b o, A = some ⟨b, o, none⟩ ∧ b < w.heap.size ∧ ∀ j, j < zs.length → w.cell? ⟨b, o + j, none⟩ = some (.string (zs.getD j ByteArray.empty)) := by
  obtain ⟨b, o, rfl, hb, -⟩ := h 0 h0
  refine ⟨b, o, rfl, hb, fun j hj => ?_⟩
  obtain ⟨b', o', he, -, hc⟩ := h j hj
  injection he with he
  injection he with h1 h2
  subst h1 h2
  exact hc

theorem contains_ok (A : Option Addr) (zs : List ByteArray) (c : Nat) (x : ByteArray) (w : World) (h : Sts w A zs) (hlen : zs.length ≤ 1000000) :
    Calls Try.prog 20 #[.slice A zs.length c, .string x] w fun e w' => e = .returned (.bool (Lib.containsS zs x)) ∧ w = w' := by
  rcases Nat.eq_zero_or_pos zs.length with h0 | h0
  · obtain rfl : zs = [] := List.eq_nil_of_length_eq_zero h0
    refine (Try.slices_Contains_string_empty A c x w).mono fun e w' ⟨he, hw⟩ => ⟨?_, hw.symm⟩
    rw [he]
    rfl
  · obtain ⟨b, o, rfl, hb, hc⟩ := h.some h0
    refine (Try.slices_Contains_string b o zs.length c zs x w (Nat.le_refl _) (by omega) hc).mono fun e w' ⟨he, hw⟩ => ⟨?_, hw.symm⟩
    rw [he, List.take_length]

theorem sequal_ok (A B : Option Addr) (xs ys : List ByteArray) (c d : Nat) (w : World) (h : Sts w A xs) (k : Sts w B ys) (hx : xs.length ≤ 1000000) (hy : ys.length ≤ 1000000) :
    Calls Try.prog 21 #[.slice A xs.length c, .slice B ys.length d] w fun e w' => e = .returned (.bool (decide (xs = ys))) ∧ Below w.heap.size w w' := by
  rcases Nat.eq_zero_or_pos xs.length with h0 | h0
  · obtain rfl : xs = [] := List.eq_nil_of_length_eq_zero h0
    refine (Try.slices_Equal_string_empty A B c ys.length d w (by omega)).mono fun e w' ⟨he, hw⟩ => ⟨?_, by rw [hw]; exact Below.refl _ _⟩
    rw [he]
    congr 2
    rw [Bool.eq_iff_iff, decide_eq_true_eq, decide_eq_true_eq]
    exact ⟨fun h => (List.eq_nil_of_length_eq_zero h).symm, fun h => by rw [← h]; rfl⟩
  · rcases Nat.eq_zero_or_pos ys.length with k0 | k0
    · have hne : xs.length ≠ ys.length := by omega
      refine (Try.slices_Equal_string_lens A B xs.length c ys.length d w hne).mono fun e w' ⟨he, hw⟩ => ⟨?_, by rw [hw]; exact Below.refl _ _⟩
      rw [he, decide_eq_false (fun h => hne (by rw [h]))]
    · obtain ⟨b1, o1, rfl, -, hc1⟩ := h.some h0
      obtain ⟨b2, o2, rfl, -, hc2⟩ := k.some k0
      refine (Try.slices_Equal_string b1 o1 xs.length c b2 o2 ys.length d xs ys w (Nat.le_refl _) (Nat.le_refl _) (by omega) (by omega) hc1 hc2).mono fun e w' ⟨he, q, hw⟩ => ⟨?_, by rw [hw]; exact below_drewN (Below.refl _ _) _⟩
      rw [he, List.take_length, List.take_length]

theorem infoS : (Try.prog.info? 9).map (fun i => (i.zero, i.size, i.bytes)) = some (some (.string ⟨#[]⟩), 1, 16) := by kernel_rfl

/-- Strings of the call's own. -/
def OwnZ (w : World) (base : Nat) (v : Value) (zs : List ByteArray) : Prop := w.ownsRow base 9 1 v zs.length (zs.map Value.string)

theorem ownz_lit (w : World) : OwnZ (w.alloc (.cells #[] 9)) w.heap.size (.slice (some ⟨w.heap.size, 0, none⟩) 0 0) [] :=
  World.ownsRow_lit w #[] 0 (Nat.le_refl _) (by unfold maxLen; omega) rfl

theorem OwnZ.sts {w : World} {base : Nat} {v : Value} {zs : List ByteArray} (h : OwnZ w base v zs) : ∃ A c, v = .slice A zs.length c ∧ Sts w A zs ∧ (A = none → c = 0) := by
  rcases h.2 with ⟨hv, hn⟩ | ⟨g, cap, cur, hv, hb, hg, hnc, hcm, hcs, htk⟩
  · have h0 : zs = [] := List.eq_nil_of_length_eq_zero hn
    subst h0
    exact ⟨none, 0, hv, (fun i hi => absurd hi (by simp)), fun _ => rfl⟩
  · refine ⟨some ⟨g, 0, none⟩, cap, hv, fun i hi => ?_, fun h => by cases h⟩
    have hlt : g < w.heap.size := by
      rcases Nat.lt_or_ge g w.heap.size with h1 | h1
      · exact h1
      · rw [Array.getElem?_eq_none h1] at hg; cases hg
    refine ⟨g, 0, rfl, hlt, ?_⟩
    have h' := h
    subst hv
    rw [Nat.zero_add, World.ownsRow.cellAt h i (by omega)]
    simp [List.getD, hi]

theorem zs_one (l : List ByteArray) : ∀ v ∈ l.map Value.string, v.oneCell' = true := by
  intro v hv
  obtain ⟨x, -, rfl⟩ := List.mem_map.1 hv
  rfl

theorem append_runs_z {w : World} (ty : TypeId) (base : Nat) (v : Value) (l : List ByteArray) (ho : OwnZ w base v l) (A : Option Addr) (m : List ByteArray) (c : Nat) (hm : Sts w A m) (hA : A = none → c = 0) (hlen : l.length + m.length ≤ 1000000) (hbase : base ≤ w.heap.size) :
    ∃ v' w', (Builtin.append_ #[38, 38] ty #[v, .slice A m.length c]).run Try.prog w = .ok v' w' ∧ OwnZ w' base v' (l ++ m) ∧ w.grownBy w' v.ownBlock := by
  obtain ⟨i, h2, h3, h4, h5⟩ := info_parts infoS
  rcases Nat.eq_zero_or_pos m.length with h0 | h0
  · have hm0 : m = [] := List.eq_nil_of_length_eq_zero h0
    subst hm0
    rw [List.append_nil]
    cases A with
    | none =>
      obtain rfl := hA rfl
      exact ⟨v, w, run_append_owned_none (P := Try.prog) (w := w) base 38 ty 9 i 1 Try.underlying38 h2 v l.length (l.map Value.string) ho, ho, World.grownBy.refl w _⟩
    | some a =>
      obtain ⟨v', w', hr, ho', hg, -⟩ := run_append_own (P := Try.prog) w base 38 ty 9 i (.string ⟨#[]⟩) 1 16 Try.underlying38 h2 h3 h4 h5 rfl (by omega) v l.length (l.map Value.string) ho a 0 c [] rfl (fun j u hu => by simp at hu) (fun u hu => by cases hu) (by unfold maxLen; omega) (by omega) hbase
      refine ⟨v', w', hr, ?_, hg⟩
      rw [List.append_nil] at ho'
      exact ho'
  · obtain ⟨b, o, rfl, hb, hc⟩ := hm.some h0
    have hnews : ∀ (j : Nat) u, (m.map Value.string)[j]? = some u → w.cell? ((⟨b, o, none⟩ : Addr).add j) = some u := by
      intro j u hu
      have hj : j < m.length := by
        rcases Nat.lt_or_ge j m.length with hj | hj
        · exact hj
        · rw [List.getElem?_eq_none (by simpa using hj)] at hu; cases hu
      have hadd : (⟨b, o, none⟩ : Addr).add j = ⟨b, o + j, none⟩ := by unfold Addr.add; split <;> simp_all
      rw [hadd, hc j hj, ← hu]
      simp [List.getD, hj]
    obtain ⟨v', w', hr, ho', hg, -⟩ := run_append_own (P := Try.prog) w base 38 ty 9 i (.string ⟨#[]⟩) 1 16 Try.underlying38 h2 h3 h4 h5 rfl (by omega) v l.length (l.map Value.string) ho ⟨b, o, none⟩ m.length c (m.map Value.string) (by rw [List.length_map, Nat.mul_one]) hnews (zs_one m) (by unfold maxLen; omega) (by omega) hbase
    refine ⟨v', w', hr, ?_, hg⟩
    unfold OwnZ
    rw [List.length_append, List.map_append]
    exact ho'

theorem wpList_append_z {w : World} {ops : Array Oper} {rest : List Oper} {o : Oper} {a : Act} {Q : Exit → Act → World → Prop} (hgd : o.guard = none) (s x : Operand)
    (hop : o.op = .call { callee := .builtin .append, args := #[s, x], argTypes := #[38, 38] })
    (base : Nat) (v : Value) (l : List ByteArray) (hs : a.eval s = v) (ho : OwnZ w base v l) (A : Option Addr) (m : List ByteArray) (k c : Nat) (hk : m.length = k) (hx : a.eval x = .slice A k c) (hm : Sts w A m) (hA : A = none → c = 0) (hlen : l.length + k ≤ 1000000) (hbase : base ≤ w.heap.size)
    (h : ∀ v' w', OwnZ w' base v' (l ++ m) → w.grownBy w' v.ownBlock → wpList Try.prog ops Q rest (a.put o.dst v') w') : wpList Try.prog ops Q (o :: rest) a w := by
  subst hk
  refine wpList_plain hgd fun K hK => ?_
  obtain ⟨v', w', hrun, h1, h2⟩ := append_runs_z o.type base v l ho A m c hm hA hlen hbase
  unfold Oper.wp
  simp [execOp, hop, resolve, invoke, builtin, hs, hx, hrun, Result.andThen]
  exact hK _ _ (h v' w' h1 h2)

theorem grown_belowz {B : Nat} {w0 w w' : World} {v : Value} {l : List ByteArray} (h : Below B w0 w) (ho : OwnZ w B v l) (hg : w.grownBy w' v.ownBlock) (hB : B ≤ w.heap.size) : Below B w0 w' :=
  h.grown hg hB fun k hk => (World.ownsRow.lt ho k hk).1

open Go.ChangeShapes Go.WideShapes
/-- Strings that came in. -/
theorem open_sts {H : Type} {enc : TypeId × Value → H} {P : Program} {t e : TypeId} {W : World} {v : Value} {d : DataW H} {p : List MemPlace} (ht : P.underlying t = some (.slice e)) (he : P.underlying e = some .string) (hc : P.cellsOf e = 1)
    (hv : Value.okWide P W .any 0 t v) (h : DataW.Trod enc P W 0 (fun _ => true) true t v d p) : ∃ (A : Option Addr) (zs : List ByteArray) (c : Nat), v = .slice A zs.length c ∧ Sts W A zs ∧ (A = none → c = 0) ∧ zs.length ≤ maxLen := by
  obtain ⟨a0, len, cap, rfl⟩ := okWide_slice ht hv
  obtain ⟨fuel, hf⟩ := h
  rcases open_strings ht he hc hf with ⟨hcs, -⟩ | ⟨a, len', cap', ss, hcs, -, hl, hm, hz, -, hcell, hwz⟩
  · simp [Value.cells] at hcs
    obtain ⟨rfl, rfl, rfl⟩ := hcs
    exact ⟨none, [], 0, rfl, (fun i hi => absurd hi (by simp)), fun _ => rfl, by simp⟩
  · simp [Value.cells] at hcs
    obtain ⟨rfl, rfl, rfl⟩ := hcs
    rw [if_pos rfl] at hz
    refine ⟨some a, ss.take len, cap, ?_, fun i hi => ?_, (fun h => by cases h), ?_⟩
    · rw [List.length_take, Nat.min_eq_left (by omega)]
    · rw [List.length_take] at hi
      have h0 := hcell i (by omega)
      obtain ⟨b, o, sp⟩ := a
      have hsp : sp = none := by
        have := hcell 0 (by omega)
        simpa [Addr.add] using World.cell?_spot this
      subst hsp
      rw [Lib.add_plain] at h0
      refine ⟨b, o, rfl, World.block_lt_of_cell? W _ h0, ?_⟩
      rw [h0]
      have hzi : i < ss.length := by omega
      simp [List.getD, show i < len by omega]
    · rw [List.length_take]; omega

end Go.Proofs.Ytpabccmnhaelnaa
