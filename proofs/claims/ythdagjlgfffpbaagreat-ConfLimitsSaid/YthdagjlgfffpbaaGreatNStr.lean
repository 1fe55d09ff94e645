/-
  WORDS FOR STRINGS, of no layer: a string that is a list of bytes: its length, a byte of it, its parts, joined strings, equal strings, conversions. By the verifier.
-/
import Derived.Test.YthdagjlgfffpbaaGreatMMem
import Derived.WalkSpells
import Derived.WalkLawsBesides
set_option linter.unusedVariables false
namespace Go.Proofs.YthdagjlgfffpbaaGreat
open Go.RowKit

theorem strB_mk (l : List Nat) : strB l = ⟨(l.map UInt8.ofNat).toArray⟩ := by
  apply ByteArray.ext
  apply Array.ext'
  rw [← ByteArray.toList_eq, strB_list]

theorem strB_size (l : List Nat) : (strB l).size = l.length := by
  rw [strB_mk]
  show (List.toArray _).size = _
  simp

theorem strB_add (l m : List Nat) : strB l ++ strB m = strB (l ++ m) := by
  rw [strB_mk, strB_mk, strB_mk, ByteArray.mk_append_mk, List.map_append]

theorem strB_extract (l : List Nat) (a b : Nat) : (strB l).extract a b = strB ((l.drop a).take (b - a)) := by
  rw [strB_mk, strB_mk, ByteArray.extract_mk, List.map_take, List.map_drop]

theorem strB_eq {l m : List Nat} (hl : Bs l) (hm : Bs m) : ((strB l).toList == (strB m).toList) = decide (l = m) := by
  by_cases h : l = m
  · subst h
    simp
  · rw [decide_eq_false h, beq_eq_false_iff_ne]
    exact fun e => h (strB_inj hl hm e)

/-- The bytes of any string. -/
def bytesOf (s : ByteArray) : List Nat := s.data.toList.map UInt8.toNat

theorem bytesOf_bs (s : ByteArray) : Bs (bytesOf s) := by
  intro x hx
  obtain ⟨c, -, rfl⟩ := List.mem_map.1 hx
  exact c.toNat_lt

theorem strB_bytesOf (s : ByteArray) : strB (bytesOf s) = s := by
  rw [strB_mk]
  apply ByteArray.ext
  apply Array.ext'
  have e : (UInt8.ofNat ∘ UInt8.toNat) = id := funext fun c => by simp
  show (List.map UInt8.ofNat (bytesOf s)).toArray.toList = _
  unfold bytesOf
  rw [List.map_map, e, List.map_id]

/-- A string that has these bytes. -/
def Str (s : ByteArray) (l : List Nat) : Prop := s = strB l ∧ Bs l

theorem Str.of (s : ByteArray) : Str s (bytesOf s) := ⟨(strB_bytesOf s).symm, bytesOf_bs s⟩
theorem Str.size {s : ByteArray} {l : List Nat} (h : Str s l) : s.size = l.length := by rw [h.1, strB_size]
theorem Str.ext {s t : ByteArray} {l : List Nat} (h : Str s l) (k : Str t l) : s = t := by rw [h.1, k.1]

theorem str_get (s : ByteArray) (l : List Nat) (h : s = ⟨(l.map UInt8.ofNat).toArray⟩) (k : Nat) (hk : k < s.size) (hl : k < l.length) : s[k]'hk = UInt8.ofNat (l.getD k 0) := by
  subst h
  show (List.map UInt8.ofNat l).toArray[k] = _
  simp [List.getD, hl]

theorem Str.index {s : ByteArray} {l : List Nat} (h : Str s l) {k : Nat} (hk : k < l.length) (w : World) :
    (Instr.index 9 (.string s) (.int .i64 (k : Int))).run Tryz.prog w = .ok (.int .u8 ((l.getD k 0 : Nat) : Int)) w := by
  have hs := h.size
  rw [run_index_string w 9 s .i64 (k : Int) Tryz.underlying9, dif_pos ⟨by omega, by omega⟩]
  have hg : s[(k : Int).toNat]'(by omega) = UInt8.ofNat (l.getD k 0) := str_get s l (h.1.trans (strB_mk l)) k (by omega) hk
  rw [hg]
  have := h.2.get k
  generalize l.getD k 0 = x at *
  have e : ((UInt8.ofNat x).toNat : Int) = (x : Int) := by
    simp
    omega
  rw [e]

theorem Str.from {s : ByteArray} {l : List Nat} (h : Str s l) {k : Nat} (hk : k ≤ l.length) (w : World) :
    ∃ t, Str t (l.drop k) ∧ (Instr.slice 9 (.string s) (some (.int .i64 (k : Int))) none none).run Tryz.prog w = .ok (.string t) w := by
  have hs := h.size
  refine ⟨strB (l.drop k), ⟨rfl, h.2.drop k⟩, ?_⟩
  rw [run_slice_string_from_if w 9 s .i64 (k : Int) Tryz.underlying9, if_pos ⟨by omega, by omega⟩, hs, h.1, Int.toNat_natCast, strB_extract]
  rw [List.take_of_length_le (by simp)]

theorem Str.cut {s : ByteArray} {l : List Nat} (h : Str s l) {a b : Nat} (hab : a ≤ b) (hb : b ≤ l.length) (w : World) :
    (Instr.slice 9 (.string s) (some (.int .i64 (a : Int))) (some (.int .i64 (b : Int))) none).run Tryz.prog w = .ok (.string (strB ((l.drop a).take (b - a)))) w := by
  have hs := h.size
  rw [run_slice_string w 9 s .i64 .i64 (a : Int) (b : Int) Tryz.underlying9 (by omega) (by omega) (by omega), h.1, Int.toNat_natCast, Int.toNat_natCast, strB_extract]

theorem Str.one {s : ByteArray} {l : List Nat} (h : Str s l) {k : Nat} (hk : k < l.length) (w : World) :
    (Instr.slice 9 (.string s) (some (.int .i64 (k : Int))) (some (.int .i64 ((k : Int) + 1))) none).run Tryz.prog w = .ok (.string (strB [l.getD k 0])) w := by
  have := h.cut (a := k) (b := k + 1) (by omega) (by omega) w
  have e : (l.drop k).take (k + 1 - k) = [l.getD k 0] := by
    rw [List.drop_eq_getElem_cons hk]
    have e1 : k + 1 - k = 1 := by omega
    rw [e1, List.take_succ_cons, List.take_zero]
    simp [List.getD, hk]
  rw [e] at this
  have e2 : ((k + 1 : Nat) : Int) = (k : Int) + 1 := by omega
  rw [e2] at this
  exact this

theorem Str.add {s t : ByteArray} {l m : List Nat} (h : Str s l) (k : Str t m) (hlen : l.length + m.length ≤ 9223372036854775807) (w : World) :
    (Op.stringOp .add s t).run Tryz.prog w = .ok (.string (strB (l ++ m))) w := by
  rw [run_string_add_sum w s t (by rw [h.size, k.size]; exact hlen), h.1, k.1, strB_add]

theorem Str.join {s t : ByteArray} {l m : List Nat} (h : Str s l) (k : Str t m) : Str (s ++ t) (l ++ m) := ⟨by rw [h.1, k.1, strB_add], h.2.append k.2⟩

theorem Str.beq {s t : ByteArray} {l m : List Nat} (h : Str s l) (k : Str t m) : (s.toList == t.toList) = decide (l = m) := by
  rw [h.1, k.1, strB_eq h.2 k.2]

theorem Str.nil : Str ByteArray.empty [] := ⟨rfl, fun x hx => by cases hx⟩

end Go.Proofs.YthdagjlgfffpbaaGreat
