/-
  strconv.ParseUint, as it is called from outside, to the bases 10 and 16. By the verifier.
-/
import Derived.Test.YtmgohahjocdeeaaDoorPu
import Derived.Test.YtmgohahjocdeeaaDoorEnv
import Derived.Shelf.Pu.ErrVarParseUint
set_option linter.unusedVariables false
namespace Go.Proofs.YtmgohahjocdeeaaDoor
open Go.RowKit

/-- What strconv.ParseUint returns. -/
def PuOut (o : Option Nat) (e : Ending) : Prop :=
  match o with
  | some n => e = .returned (.tuple #[.int .u64 n, .nilIface])
  | none => ∃ (x : Int) (p : Value), e = .returned (.tuple #[.int .u64 x, .iface 124 p])

set_option maxRecDepth 100000 in
theorem pu16_empty (w : World) :
    Calls Tryd.prog 88 #[.string ⟨#[]⟩, .int .i64 16, .int .i64 64] w fun e w' => e = .returned (.tuple #[.int .u64 0, .iface 122 (.int .i64 2)]) ∧ w = w' := by
  go_enter Tryd.func88, Tryd.ntmps88
  go_wp2
  go_ret2
  exact ⟨rfl, rfl⟩

def parse16 (l : List UInt8) : Option Nat := if l = [] then none else p16 0 l

theorem pu16_all (t : ByteArray) (hmax : t.size ≤ 140737488355328) (w : World) :
    Calls Tryd.prog 88 #[.string t, .int .i64 16, .int .i64 64] w fun e w' => PuIn (parse16 t.data.toList) e ∧ Below w.heap.size w w' := by
  by_cases h : t.size = 0
  · obtain ⟨⟨l⟩⟩ := t
    have hl : l = [] := List.eq_nil_of_length_eq_zero h
    subst hl
    exact (pu16_empty w).mono fun _ _ ⟨he, hw⟩ => ⟨⟨0, 2, Or.inr rfl, he⟩, by subst hw; exact Below.refl _ _⟩
  · have hne : t.data.toList ≠ [] := by
      intro e
      have : t.data.toList.length = 0 := by rw [e]; rfl
      exact h (by simpa using this)
    have e : parse16 t.data.toList = p16 0 t.data.toList := if_neg hne
    rw [e]
    exact pu16_in t h (by omega) w

theorem toError_ok (k : Int) (hk : k = 1 ∨ k = 2) (fn s : ByteArray) (w : World) (hlim : s.size ≤ 281474976710656) (he : Env w) :
    Calls Tryd.prog 89 #[.string fn, .string s, .int .i64 16, .int .i64 64, .iface 122 (.int .i64 k)] w fun e w' => (∃ p, e = .returned (.iface 124 p)) ∧ Below w.heap.size w w' := by
  rcases hk with rfl | rfl
  · obtain ⟨te, pe, hc⟩ := he.rng
    exact (Tryd.strconv_toError_range fn s 16 64 _ w hlim hc (Or.inr ⟨te, pe, rfl⟩)).mono fun _ _ ⟨N, h1, _, _, h4⟩ => ⟨⟨_, h1⟩, h4⟩
  · obtain ⟨te, pe, hc⟩ := he.syn
    exact (Tryd.strconv_toError_syntax fn s 16 64 _ w hlim hc (Or.inr ⟨te, pe, rfl⟩)).mono fun _ _ ⟨N, h1, _, _, h4⟩ => ⟨⟨_, h1⟩, h4⟩

theorem pu16_ok (s : ByteArray) (hmax : s.size ≤ 140737488355328) (w : World) (he : Env w) :
    Calls Tryd.prog 85 #[.string s, .int .i64 16, .int .i64 64] w fun e w' => PuOut (parse16 s.data.toList) e ∧ Below w.heap.size w w' := by
  have H := Lib.hid (pu16_all s hmax w)
  have HE := Lib.hid he
  clear he
  generalize parse16 s.data.toList = r at *
  go_enter Tryd.func85, Tryd.ntmps85
  go_wp2_with fail
  refine H.out.mono ?_
  rintro e w1 ⟨hr, hb1⟩
  rcases r with _ | r
  · obtain ⟨x, k, hk, rfl⟩ := hr
    have HK := Lib.hid hk
    clear hk
    go_wp2_with fail
    refine (toError_ok k HK.out _ s w1 (by omega) (HE.out.below hb1)).mono ?_
    rintro e w2 ⟨⟨p, rfl⟩, hb2⟩
    go_wp2_with fail
    go_ret2
    exact ⟨⟨x, p, rfl⟩, hb1.trans (hb2.mono hb1.size)⟩
  · obtain rfl := hr
    go_wp2_with fail
    go_ret2
    exact ⟨rfl, hb1⟩

/-- To the base 10. -/
def parse10 (l : List UInt8) : Option Nat := match Go.Lib.parseUintB 64 l with
  | .ok u => some u
  | _ => none

theorem parse10_lt {l : List UInt8} {u : Nat} (h : parse10 l = some u) : u < 18446744073709551616 := by
  unfold parse10 at h
  split at h
  · rename_i hu
    injection h with h
    subst h
    have := Go.Lib.parseUintB_le hu
    omega
  · cases h

theorem pu10_ok (s : ByteArray) (hmax : s.size ≤ 140737488355328) (w : World) (he : Env w) :
    Calls Tryd.prog 85 #[.string s, .int .i64 10, .int .i64 64] w fun e w' => PuOut (parse10 s.data.toList) e ∧ Below w.heap.size w w' := by
  unfold parse10
  obtain ⟨te, pe, hc⟩ := he.syn
  obtain ⟨tr, pr, hr⟩ := he.rng
  rcases hh : Go.Lib.parseUintB 64 s.data.toList with u | _ | _
  · refine (Any.strconv_ParseUint_10_at64_ok Tryd.laysPu14 s (by omega) u hh w).mono ?_
    rintro e w' ⟨rfl, hw⟩
    refine ⟨rfl, ?_⟩
    rcases hw with rfl | rfl
    · exact Below.refl _ _
    · exact Lib.bytesWorld_below w _ s
  · exact (Any.strconv_ParseUint_10_at64_syntax Tryd.laysPu14 s (by omega) hh _ w hc (Or.inr ⟨te, pe, rfl⟩)).mono fun _ _ ⟨N, h1, _, _, h4⟩ => ⟨⟨_, _, h1⟩, h4⟩
  · exact (Any.strconv_ParseUint_10_at64_range Tryd.laysPu14 s (by omega) hh _ w hr (Or.inr ⟨tr, pr, rfl⟩)).mono fun _ _ ⟨N, h1, _, _, h4⟩ => ⟨⟨_, _, h1⟩, h4⟩

end Go.Proofs.YtmgohahjocdeeaaDoor
