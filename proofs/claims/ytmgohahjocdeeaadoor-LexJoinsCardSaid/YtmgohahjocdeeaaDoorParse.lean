/-
  num.Parse. By the verifier.
-/
import Derived.Test.YtmgohahjocdeeaaDoorPuB
import Derived.Test.YtmgohahjocdeeaaDoorFu
set_option linter.unusedVariables false
namespace Go.Proofs.YtmgohahjocdeeaaDoor
open Go.RowKit

/-- A string is equal to another one, as the walk asks it. -/
theorem str_eq (a b : List UInt8) : ((⟨a.toArray⟩ : ByteArray) = ⟨b.toArray⟩) ↔ a = b := by
  constructor
  · intro h
    have := congrArg (fun s : ByteArray => s.data.toList) h
    simpa using this
  · rintro rfl; rfl

/-- The forms: to the base 10, and with 0x to the base 16. -/
def form10 (u : Nat) : List UInt8 := digs 10 u
def form16 (u : Nat) : List UInt8 := 48 :: 120 :: digs 16 u

/-- What num.exact returns. -/
def exactO (o : Option Nat) (fm : Nat → List UInt8) (s : List UInt8) : Option Int :=
  match o with
  | some u => if fm u = s then some (u : Int) else none
  | none => none

/-- What a form has to be. -/
structure Form (f : FuncId) (fm : Nat → List UInt8) : Prop where
  enters : ∀ args w, (callFunc f args).run Tryd.prog w = .ok (.enter f args) w
  call : ∀ (u : Nat) (w : World), u < 18446744073709551616 → Env w → Calls Tryd.prog f #[.int .u64 u] w fun e w' => e = .returned (.string ⟨(fm u).toArray⟩) ∧ Below w.heap.size w w'

theorem form10_form : Form 82 form10 := ⟨enters_of Tryd.func82 (by kernel_rfl) rfl, fun u w hu he => decimal_ok u hu w he⟩
theorem form16_form : Form 81 form16 := ⟨enters_of Tryd.func81 (by kernel_rfl) rfl, fun u w hu he => hex_ok u hu w he⟩

theorem exact_ok (f : FuncId) (fm : Nat → List UInt8) (hf : Form f fm) (b : Int) (o : Option Nat) (s t : List UInt8) (w : World) (he : Env w)
    (hlt : ∀ u, o = some u → u < 18446744073709551616)
    (hp : Calls Tryd.prog 85 #[.string ⟨t.toArray⟩, .int .i64 b, .int .i64 64] w fun e w' => PuOut o e ∧ Below w.heap.size w w') :
    Calls Tryd.prog 80 #[.string ⟨s.toArray⟩, .string ⟨t.toArray⟩, .int .i64 b, .func (.func f) #[] #[]] w fun e w' => FoldRes (exactO o fm s) e ∧ Below w.heap.size w w' := by
  have HP := Lib.hid hp
  have HE := Lib.hid he
  have HL := Lib.hid hlt
  have hen := hf.enters
  have HF := Lib.hid hf
  clear hp he hlt hf
  rcases o with _ | u
  · go_enter Tryd.func80, Tryd.ntmps80
    go_wp2_with fail
    refine HP.out.mono ?_
    rintro e w1 ⟨⟨x, p, rfl⟩, hb1⟩
    go_wp2_with fail
    go_ret2
    exact ⟨rfl, hb1⟩
  · have hu := HL.out u rfl
    by_cases hs : fm u = s
    · have hr : exactO (some u) fm s = some (u : Int) := if_pos hs
      rw [hr]
      have HS := Lib.hid hs
      clear hs hr
      go_enter Tryd.func80, Tryd.ntmps80
      go_wp2_with fail
      refine HP.out.mono ?_
      rintro e w1 ⟨rfl, hb1⟩
      go_wp2_with fail
      go_at_fn f
      refine (HF.out.call u w1 hu (HE.out.below hb1)).mono ?_
      rintro e w2 ⟨rfl, hb2⟩
      rw [HS.out]
      go_wp2_with fail
      go_ret2
      exact ⟨rfl, hb1.trans (hb2.mono hb1.size)⟩
    · have hr : exactO (some u) fm s = none := if_neg hs
      rw [hr]
      have hne : (fm u == s) = false := by rw [beq_eq_false_iff_ne]; exact hs
      clear hs hr
      go_enter Tryd.func80, Tryd.ntmps80
      go_wp2_with fail
      refine HP.out.mono ?_
      rintro e w1 ⟨rfl, hb1⟩
      go_wp2_with fail
      go_at_fn f
      refine (HF.out.call u w1 hu (HE.out.below hb1)).mono ?_
      rintro e w2 ⟨rfl, hb2⟩
      go_wp2_with fail
      go_ret2
      exact ⟨rfl, hb1.trans (hb2.mono hb1.size)⟩

/-- num.Parse -/
def parseO (s : List UInt8) : Option Int :=
  if Lib.hasPrefix s [48, 120] = true then exactO (parse16 (Lib.trimPrefix s [48, 120])) form16 s else exactO (parse10 s) form10 s

theorem trim_len (s p : List UInt8) : (Lib.trimPrefix s p).length ≤ s.length := by
  unfold Lib.trimPrefix
  split <;> simp

theorem parse16_lt {l : List UInt8} {u : Nat} (h : parse16 l = some u) : u < 18446744073709551616 := by
  unfold parse16 at h
  split at h
  · cases h
  · exact p16_lt _ _ _ (by omega) h

theorem parse_ok (s : List UInt8) (hmax : s.length ≤ 140737488355328) (w : World) (he : Env w) :
    Calls Tryd.prog 75 #[.string ⟨s.toArray⟩] w fun e w' => FoldRes (parseO s) e ∧ Below w.heap.size w w' := by
  have hcut := Tryd.strings_CutPrefix ⟨s.toArray⟩ ⟨#[48, 120]⟩ w
  by_cases hp : Lib.hasPrefix s [48, 120] = true
  · have hr : parseO s = exactO (parse16 (Lib.trimPrefix s [48, 120])) form16 s := if_pos hp
    rw [hr]
    have HC : Hid (Calls Tryd.prog 79 #[.string ⟨s.toArray⟩, .string ⟨#[48, 120]⟩] w fun e w' => e = .returned (.tuple #[.string ⟨(Lib.trimPrefix s [48, 120]).toArray⟩, .bool true]) ∧ w = w') :=
      Lib.hid (hcut.mono fun _ _ ⟨h1, h2⟩ => ⟨by rw [h1, ← hp], h2.symm⟩)
    have ht := trim_len s [48, 120]
    generalize Lib.trimPrefix s [48, 120] = t at *
    have HP : Hid (Calls Tryd.prog 80 #[.string ⟨s.toArray⟩, .string ⟨t.toArray⟩, .int .i64 16, .func (.func 81) #[] #[]] w fun e w' => FoldRes (exactO (parse16 t) form16 s) e ∧ Below w.heap.size w w') :=
      Lib.hid (exact_ok _ _ form16_form 16 (parse16 t) s t w he (fun u h => parse16_lt h) (by
        have := pu16_ok ⟨t.toArray⟩ (by show t.toArray.size ≤ _; simp; omega) w he
        simpa using this))
    generalize exactO (parse16 t) form16 s = r at *
    clear hcut hp hr he
    go_enter Tryd.func75, Tryd.ntmps75
    go_wp2_with fail
    refine HC.out.mono ?_
    rintro e w1 ⟨rfl, rfl⟩
    go_wp2_with fail
    refine HP.out.mono ?_
    rintro e w1 ⟨rfl, hb1⟩
    unfold opt
    rcases r with _ | r
    · go_wp2_with fail
      go_ret2
      exact ⟨rfl, hb1⟩
    · go_wp2_with fail
      go_ret2
      exact ⟨rfl, hb1⟩
  · have hr : parseO s = exactO (parse10 s) form10 s := if_neg hp
    rw [hr]
    have hpf : Lib.hasPrefix s [48, 120] = false := by simpa using hp
    have HC : Hid (∃ t : List UInt8, Calls Tryd.prog 79 #[.string ⟨s.toArray⟩, .string ⟨#[48, 120]⟩] w fun e w' => e = .returned (.tuple #[.string ⟨t.toArray⟩, .bool false]) ∧ w = w') :=
      Lib.hid ⟨Lib.trimPrefix s [48, 120], hcut.mono fun _ _ ⟨h1, h2⟩ => ⟨by rw [h1, ← hpf], h2.symm⟩⟩
    have HP : Hid (Calls Tryd.prog 80 #[.string ⟨s.toArray⟩, .string ⟨s.toArray⟩, .int .i64 10, .func (.func 82) #[] #[]] w fun e w' => FoldRes (exactO (parse10 s) form10 s) e ∧ Below w.heap.size w w') :=
      Lib.hid (exact_ok _ _ form10_form 10 (parse10 s) s s w he (fun u h => parse10_lt h) (by
        have := pu10_ok ⟨s.toArray⟩ (by show s.toArray.size ≤ _; simp; omega) w he
        simpa using this))
    generalize exactO (parse10 s) form10 s = r at *
    clear hcut hp hr he hpf
    obtain ⟨t, ht⟩ := HC.out
    have HT := Lib.hid ht
    clear ht HC
    go_enter Tryd.func75, Tryd.ntmps75
    go_wp2_with fail
    refine HT.out.mono ?_
    rintro e w1 ⟨rfl, rfl⟩
    go_wp2_with fail
    refine HP.out.mono ?_
    rintro e w1 ⟨rfl, hb1⟩
    unfold opt
    rcases r with _ | r
    · go_wp2_with fail
      go_ret2
      exact ⟨rfl, hb1⟩
    · go_wp2_with fail
      go_ret2
      exact ⟨rfl, hb1⟩

end Go.Proofs.YtmgohahjocdeeaaDoor
