/-
  Layer 4: padded bytes, as plain mathematics and as an array of 30 bytes; equal arrays. By the verifier.
-/
import Derived.Test.YtpabccmnhaelnaaNStr
import Derived.Test.YtpabccmnhaelnaaNMath
import Derived.Stop.BytesEq
set_option linter.unusedVariables false
namespace Go.Proofs.Ytpabccmnhaelnaa
open Go.RowKit

/-- Thirty bytes: those of a list, and zeros. -/
def pad30 (l : List Nat) : List Nat := (List.range 30).map fun i => l.getD i 0
def arr30 (l : List Nat) : Array Value := rowOf 30 (fun i => V8 (l.getD i 0))
def same30 (l m : List Nat) : Bool := decide (pad30 l = pad30 m)
/-- What Pad pads. -/
def padV (l : List Nat) : List Nat := if nameB l then l else []

theorem pad30_len (l : List Nat) : (pad30 l).length = 30 := by simp [pad30]
theorem pad30_get (l : List Nat) {i : Nat} (hi : i < 30) : (pad30 l).getD i 0 = l.getD i 0 := by
  simp [pad30, List.getD, hi]
theorem pad30_bs {l : List Nat} (h : Bs l) : Bs (pad30 l) := by
  intro x hx
  obtain ⟨i, -, rfl⟩ := List.mem_map.1 hx
  exact h.get i
theorem arr30_pad (l : List Nat) : arr30 (pad30 l) = arr30 l := rowOf_congr fun i hi => by rw [pad30_get l hi]
theorem pad30_ext {l m : List Nat} : pad30 l = pad30 m ↔ ∀ i, i < 30 → l.getD i 0 = m.getD i 0 := by
  constructor
  · intro h i hi
    rw [← pad30_get l hi, h, pad30_get m hi]
  · intro h
    unfold pad30
    exact List.map_congr_left fun i hi => h i (List.mem_range.1 hi)
theorem pad30_self {l : List Nat} (h : l.length = 30) : pad30 l = l := by
  apply List.ext_getElem (by rw [pad30_len, h])
  intro i h1 h2
  have := pad30_get l (i := i) (by omega)
  simp [List.getD, h1, h2] at this
  exact this
theorem arr30_nil : arr30 [] = rowOf 30 (fun _ => V8 0) := rfl
theorem arr30_size (l : List Nat) : (arr30 l).size = 30 := rowOf_size _ _
theorem arr30_one (l : List Nat) : (arr30 l).all (·.oneCell') = true := rowOf_one fun _ _ => rfl

theorem zero30 : (Try.prog.info? 32).map (fun i => (i.zero, i.size)) = some (some (.agg (arr30 [])), 30) := by kernel_rfl

theorem arr30_cells (l : List Nat) (hl : Bs l) : arr30 l = (((pad30 l).map UInt8.ofNat).map Extern.Stop.cell).toArray := by
  unfold arr30 rowOf pad30
  congr 1
  rw [List.map_map, List.map_map]
  refine List.map_congr_left fun i _ => ?_
  have := hl.get i
  simp only [Function.comp]
  generalize l.getD i 0 = x at *
  have e : ((UInt8.ofNat x).toNat : Int) = (x : Int) := by
    simp
    omega
  show Value.int .u8 (x : Int) = Value.int .u8 ((UInt8.ofNat x).toNat : Int)
  rw [e]

theorem ofNat_inj {l m : List Nat} (hl : Bs l) (hm : Bs m) (h : l.map UInt8.ofNat = m.map UInt8.ofNat) : l = m := by
  refine strB_inj hl hm ?_
  rw [strB_list, strB_list, h]

theorem equal30 (d : Nat) (l m : List Nat) (hl : Bs l) (hm : Bs m) (w : World) : (Op.equalIn (d + 2) 32 (.agg (arr30 l)) (.agg (arr30 m))).run Try.prog w = .ok (same30 l m) w := by
  rw [arr30_cells l hl, arr30_cells m hm, run_equalIn_bytes w d 32 5 30 Try.underlying32 Try.underlying5 (Try.sizeOf5) _ _ (by simp [pad30_len]) (by simp [pad30_len])]
  congr 1
  unfold same30
  by_cases h : pad30 l = pad30 m
  · rw [h]
    simp
  · rw [decide_eq_false h, beq_eq_false_iff_ne]
    exact fun e => h (ofNat_inj (pad30_bs hl) (pad30_bs hm) e)

theorem eql30 (l m : List Nat) (hl : Bs l) (hm : Bs m) (w : World) : (binOp .eql 32 (.agg (arr30 l)) (.agg (arr30 m))).run Try.prog w = .ok (.bool (same30 l m)) w := by
  rw [run_eql_struct, equal30 9998 l m hl hm]
  rfl
theorem neq30 (l m : List Nat) (hl : Bs l) (hm : Bs m) (w : World) : (binOp .neq 32 (.agg (arr30 l)) (.agg (arr30 m))).run Try.prog w = .ok (.bool (!(same30 l m))) w := by
  rw [run_neq_struct, equal30 9998 l m hl hm]
  rfl

/-- What Unpad answers. -/
def unpadY (b : List Nat) (n : Int) : Bool := decide (0 ≤ n ∧ n ≤ 30) && unpadB b n.toNat
def unpadN (b : List Nat) (n : Int) : List Nat := if unpadY b n then b.take n.toNat else []

theorem unpad_neg {b : List Nat} {n : Int} (h : n < 0) : unpadY b n = false := by
  unfold unpadY
  rw [decide_eq_false (by omega)]
  rfl
theorem unpad_long {b : List Nat} {n : Int} (h : 30 < n) : unpadY b n = false := by
  unfold unpadY
  rw [decide_eq_false (by omega)]
  rfl
theorem unpad_nat (b : List Nat) {k : Nat} (h : k ≤ 30) : unpadY b (k : Int) = (nameB (b.take k) && (b.drop k).all fun x => decide (x = 0)) := by
  unfold unpadY unpadB
  rw [decide_eq_true (by omega), Int.toNat_natCast, decide_eq_true h]
  simp only [Bool.true_and]
theorem unpad_bad {b : List Nat} {k : Nat} (h : k ≤ 30) (hn : nameB (b.take k) = false) : unpadY b (k : Int) = false := by rw [unpad_nat b h, hn]; rfl

theorem take_get (b : List Nat) (k i : Nat) : (b.take k).getD i 0 = if i < k then b.getD i 0 else 0 := by
  by_cases h : i < k
  · rw [if_pos h]
    simp [List.getD, h]
  · rw [if_neg h]
    simp [List.getD, List.getElem?_take, h]

theorem unpad_same {b : List Nat} (hb : b.length = 30) {k : Nat} (h : k ≤ 30) (hn : nameB (b.take k) = true) : unpadY b (k : Int) = same30 (b.take k) b := by
  rw [unpad_nat b h, hn, Bool.true_and]
  unfold same30
  rw [Bool.eq_iff_iff, decide_eq_true_eq, pad30_ext, List.all_eq_true]
  constructor
  · intro hz i hi
    rw [take_get]
    by_cases hik : i < k
    · rw [if_pos hik]
    · rw [if_neg hik]
      have hm : b.getD i 0 ∈ b.drop k := by
        refine List.mem_iff_getElem.2 ⟨i - k, by rw [List.length_drop]; omega, ?_⟩
        have e : k + (i - k) = i := by omega
        simp [List.getD, e, show i < b.length by omega]
      have := hz _ hm
      simp at this
      simp [List.getD]
      omega
  · intro hz x hx
    obtain ⟨j, hj, rfl⟩ := List.mem_iff_getElem.1 hx
    rw [List.length_drop] at hj
    have := hz (k + j) (by omega)
    rw [take_get, if_neg (by omega)] at this
    simp [List.getD, show k + j < b.length by omega] at this
    simp
    omega

/-- A name's bytes are unpadded at its length. -/
theorem unpad_name {l : List Nat} (h : nameB l = true) : unpadY (pad30 l) (l.length : Int) = true ∧ (pad30 l).take l.length = l := by
  have h30 := ((nameB_iff l).1 h).2.1
  have ht : (pad30 l).take l.length = l := by
    apply List.ext_getElem (by rw [List.length_take, pad30_len]; omega)
    intro i h1 h2
    have := pad30_get l (i := i) (by omega)
    simp [List.getD, h2, pad30_len, show i < 30 by omega] at this
    simpa using this
  refine ⟨?_, ht⟩
  rw [unpad_same (pad30_len l) h30 (by rw [ht]; exact h), ht]
  unfold same30
  rw [decide_eq_true_eq, pad30_ext]
  exact fun i hi => (pad30_get l hi).symm

/-- Zeros are no name. -/
theorem unpad_zeros (n : Int) : unpadY (pad30 []) n = false := by
  by_cases h0 : n < 0
  · exact unpad_neg h0
  · by_cases h1 : 30 < n
    · exact unpad_long h1
    · obtain ⟨k, rfl⟩ : ∃ k : Nat, n = (k : Int) := ⟨n.toNat, by omega⟩
      refine unpad_bad (by omega) ?_
      cases hn : nameB ((pad30 []).take k) with
      | false => rfl
      | true =>
        obtain ⟨h2, h3, h4⟩ := (nameB_iff _).1 hn
        have := h4 0 (by omega)
        rw [take_get] at this
        split at this
        · rw [pad30_get _ (by omega)] at this
          exact absurd this (by decide)
        · exact absurd this (by decide)

/-- One length alone. -/
theorem unpadY_once {b : List Nat} (hb : b.length = 30) {n m : Nat} (hn : unpadY b (n : Int) = true) (hm : unpadY b (m : Int) = true) : n = m := by
  unfold unpadY at hn hm
  rw [Bool.and_eq_true, Int.toNat_natCast] at hn hm
  exact unpad_once hb hn.2 hm.2

end Go.Proofs.Ytpabccmnhaelnaa
