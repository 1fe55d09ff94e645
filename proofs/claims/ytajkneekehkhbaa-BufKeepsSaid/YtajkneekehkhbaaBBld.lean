/-
  Layer 3 (buf): slices.Clone, and a builder in memory. By the verifier.
-/
import Derived.Test.YtajkneekehkhbaaMApp
import Derived.Test.YtajkneekehkhbaaBDirty
import Derived.Lib.SliceRun
set_option linter.unusedVariables false
namespace Go.Proofs.Ytajkneekehkhbaa
open Go.RowKit

theorem clonev_ok (A : Option Addr) (l : List Nat) (c : Nat) (w : World) (hl : Bys w A l) (hn : l.length ≤ 100000) :
    Calls Try.prog 37 #[.slice A l.length c] w fun e w' => NewO w l e w' := by
  have q : ∀ (w : World) (a : Option Addr) (n c : Nat), (binOp .eql 24 (.slice a n c) (.slice none 0 0)).run Try.prog w = .ok (.bool a.isNone) w := fun w a n c => Lib.run_eql_slice_nil w _ _ a n c 0 0 Try.underlying24
  cases A with
  | none =>
    have h0 : l = [] := by
      rcases Nat.eq_zero_or_pos l.length with h0 | h0
      · exact List.eq_nil_of_length_eq_zero h0
      · obtain ⟨b, o, hA, -⟩ := hl.1 0 h0
        cases hA
    subst h0
    go_enter Try.func37, Try.ntmps37
    go_wp2_with fail
    go_ret
    exact ⟨_, rfl, own_empty _ _, Below.refl _ _⟩
  | some a =>
    have HO := Lib.hid (own_lit w)
    have hA1 : Below w.heap.size w (w.alloc (.cells #[] 5)) := (Below.refl _ _).alloc (Nat.le_refl _) _
    have HB := Lib.hid (hl.below (Nat.le_refl _) hA1)
    have hsz : w.heap.size ≤ (w.alloc (.cells #[] 5)).heap.size := by simp
    clear hl
    go_enter Try.func37, Try.ntmps37
    go_wp2_with (with_reducible refine wpList_append_t 24 Try.underlying24 rfl (.tmp 5) (.tmp 6) rfl w.heap.size (.slice (some ⟨w.heap.size, 0, none⟩) 0 0) [] rfl HO.out (some a) l l.length c rfl rfl HB.out (by simp; omega) hsz ?_; intro v1 w1 ho1 hg1 hf1; have hb1 := grown_below hA1 HO.out hg1 hsz; rw [List.nil_append] at ho1; have HO1 := Lib.hid ho1; clear ho1 hg1 hf1)
    go_ret
    exact ⟨v1, rfl, HO1.out, hb1⟩

theorem cloneb_ok (A : Option Addr) (l : List Nat) (c : Nat) (w : World) (hl : Bys w A l) (hn : l.length ≤ 100000) :
    Calls Try.prog 38 #[.slice A l.length c] w fun e w' => NewO w l e w' := by
  have q : ∀ (w : World) (a : Option Addr) (n c : Nat), (binOp .eql 22 (.slice a n c) (.slice none 0 0)).run Try.prog w = .ok (.bool a.isNone) w := fun w a n c => Lib.run_eql_slice_nil w _ _ a n c 0 0 Try.underlying22
  cases A with
  | none =>
    have h0 : l = [] := by
      rcases Nat.eq_zero_or_pos l.length with h0 | h0
      · exact List.eq_nil_of_length_eq_zero h0
      · obtain ⟨b, o, hA, -⟩ := hl.1 0 h0
        cases hA
    subst h0
    go_enter Try.func38, Try.ntmps38
    go_wp2_with fail
    go_ret
    exact ⟨_, rfl, own_empty _ _, Below.refl _ _⟩
  | some a =>
    have HO := Lib.hid (own_lit w)
    have hA1 : Below w.heap.size w (w.alloc (.cells #[] 5)) := (Below.refl _ _).alloc (Nat.le_refl _) _
    have HB := Lib.hid (hl.below (Nat.le_refl _) hA1)
    have hsz : w.heap.size ≤ (w.alloc (.cells #[] 5)).heap.size := by simp
    clear hl
    go_enter Try.func38, Try.ntmps38
    go_wp2_with (with_reducible refine wpList_append_t 22 Try.underlying22 rfl (.tmp 5) (.tmp 6) rfl w.heap.size (.slice (some ⟨w.heap.size, 0, none⟩) 0 0) [] rfl HO.out (some a) l l.length c rfl rfl HB.out (by simp; omega) hsz ?_; intro v1 w1 ho1 hg1 hf1; have hb1 := grown_below hA1 HO.out hg1 hsz; rw [List.nil_append] at ho1; have HO1 := Lib.hid ho1; clear ho1 hg1 hf1)
    go_ret
    exact ⟨v1, rfl, HO1.out, hb1⟩

theorem clonev_nil (w : World) : Calls Try.prog 37 #[.slice none 0 0] w fun e w' => e = .returned (.slice none 0 0) ∧ w = w' := by
  have q : ∀ (w : World) (a : Option Addr) (n c : Nat), (binOp .eql 24 (.slice a n c) (.slice none 0 0)).run Try.prog w = .ok (.bool a.isNone) w := fun w a n c => Lib.run_eql_slice_nil w _ _ a n c 0 0 Try.underlying24
  go_enter Try.func37, Try.ntmps37
  go_wp2_with fail
  go_ret
  exact ⟨rfl, rfl⟩

/-- A builder: the block that holds it, the block of its bytes, and the bytes. -/
def Bld (w : World) (B : Nat) (g : Option Nat) (l : List Nat) : Prop := ∃ v, Row w B 73 1 (fun _ => v) ∧ OwnB w 0 v l ∧ v.ownBlock = g ∧ Bs l

/-- A builder's blocks. -/
def SB (B : Nat) (g : Option Nat) (k : Nat) : Prop := k = B ∨ g = some k

theorem Bld.ne {w : World} {B : Nat} {g : Option Nat} {l : List Nat} (h : Bld w B g l) : g ≠ some B := by
  obtain ⟨v, hr, ho, hg, -⟩ := h
  rintro rfl
  rcases ho.2 with ⟨hv, -⟩ | ⟨k, cap, cur, hv, -, hk, -⟩
  · rw [hv] at hg; cases hg
  · rw [hv] at hg
    injection hg with hg
    have hg : k = B := hg
    subst hg
    unfold Row at hr
    rw [hr] at hk
    injection hk with hk
    injection hk with _ hk
    exact absurd hk (by decide)
theorem Bld.lt {w : World} {B : Nat} {g : Option Nat} {l : List Nat} (h : Bld w B g l) : B < w.heap.size ∧ ∀ k, g = some k → k < w.heap.size := by
  obtain ⟨v, hr, ho, hg, -⟩ := h
  exact ⟨hr.lt, fun k hk => (ho.lt (hg.trans hk)).2⟩
theorem Bld.turn {S : Nat → Prop} {w w' : World} {B : Nat} {g : Option Nat} {l : List Nat} (h : Bld w B g l) (ht : Turn S w w') (h1 : ¬ S B) (h2 : ∀ k, g = some k → ¬ S k) : Bld w' B g l := by
  obtain ⟨v, hr, ho, hg, hb⟩ := h
  exact ⟨v, ht.row hr h1, ht.own ho (fun k hk => h2 k (hg.symm.trans hk)), hg, hb⟩
theorem Bld.below {w w' : World} {B : Nat} {g : Option Nat} {l : List Nat} (h : Bld w B g l) (hb : Below w.heap.size w w') : Bld w' B g l :=
  h.turn (S := fun _ => False) (Turn.of_below hb) id (fun _ _ => id)
theorem Bld.bs {w : World} {B : Nat} {g : Option Nat} {l : List Nat} (h : Bld w B g l) : Bs l := by
  obtain ⟨v, hr, ho, hg, hb⟩ := h
  exact hb

/-- What a method of a builder leaves. -/
structure Moved (w w' : World) (B : Nat) (g g' : Option Nat) (l' : List Nat) : Prop where
  bld : Bld w' B g' l'
  turn : Turn (SB B g) w w'
  fresh : g' = g ∨ ∃ k, g' = some k ∧ w.heap.size ≤ k

theorem Moved.refl {w : World} {B : Nat} {g : Option Nat} {l : List Nat} (h : Bld w B g l) : Moved w w B g g l := ⟨h, Turn.refl _ _, .inl rfl⟩
theorem Moved.trans {a b c : World} {B : Nat} {g g1 g2 : Option Nat} {l1 l2 : List Nat} (h : Moved a b B g g1 l1) (k : Moved b c B g1 g2 l2) : Moved a c B g g2 l2 := by
  refine ⟨k.bld, h.turn.trans k.turn fun i hi hs => ?_, ?_⟩
  · rcases hs with rfl | hs
    · exact .inl rfl
    · rcases h.fresh with rfl | ⟨j, hj, hj2⟩
      · exact .inr hs
      · rw [hj] at hs; injection hs with hs; omega
  · rcases k.fresh with rfl | ⟨j, hj, hj2⟩
    · exact h.fresh
    · exact .inr ⟨j, hj, Nat.le_trans h.turn.size hj2⟩
theorem Moved.pre {a b c : World} {B : Nat} {g g2 : Option Nat} {l2 : List Nat} (h : Below a.heap.size a b) (k : Moved b c B g g2 l2) : Moved a c B g g2 l2 :=
  ⟨k.bld, (Turn.of_below h).trans k.turn fun _ _ hs => hs, by
    rcases k.fresh with hf | ⟨j, hj, hj2⟩
    · exact .inl hf
    · exact .inr ⟨j, hj, Nat.le_trans h.size hj2⟩⟩
theorem Moved.post {a b c : World} {B : Nat} {g g2 : Option Nat} {l2 : List Nat} (h : Moved a b B g g2 l2) (k : Below b.heap.size b c) : Moved a c B g g2 l2 :=
  ⟨h.bld.below k, h.turn.trans (Turn.of_below (S := SB B g) k) fun _ _ hs => hs, h.fresh⟩
/-- What lies apart from a builder's blocks stays, and stays apart. -/
theorem Moved.bys {w w' : World} {B : Nat} {g g' : Option Nat} {l' : List Nat} (h : Moved w w' B g g' l') {A : Option Addr} {m : List Nat} (hm : Bys w A m) (hne : ∀ a, A = some a → ¬ SB B g a.block) : Bys w' A m := h.turn.bys hm hne
theorem Moved.apart {w w' : World} {B : Nat} {g g' : Option Nat} {l' : List Nat} (h : Moved w w' B g g' l') {k : Nat} (hk : k < w.heap.size) (hne : ¬ SB B g k) : ¬ SB B g' k := by
  rintro (rfl | hs)
  · exact hne (.inl rfl)
  · rcases h.fresh with rfl | ⟨j, hj, hj2⟩
    · exact hne (.inr hs)
    · rw [hj] at hs; injection hs with hs; omega
theorem Moved.below {w w' : World} {B : Nat} {g g' : Option Nat} {l' : List Nat} (h : Moved w w' B g g' l') {N : Nat} (hN : N ≤ w.heap.size) (hB : N ≤ B) (hg : ∀ k, g = some k → N ≤ k) : Below N w w' :=
  h.turn.below (fun k hk => by rcases hk with rfl | hk; (· exact hB); (· exact hg k hk)) hN
theorem Moved.own {w w' : World} {B : Nat} {g g' : Option Nat} {l' : List Nat} (h : Moved w w' B g g' l') {N : Nat} (hN : N ≤ w.heap.size) (hg : ∀ k, g = some k → N ≤ k) : ∀ k, g' = some k → N ≤ k := by
  intro k hk
  rcases h.fresh with rfl | ⟨j, hj, hj2⟩
  · exact hg k hk
  · rw [hj] at hk; injection hk with hk; omega

/-- A method that answers nothing. -/
def AddRes (w : World) (B : Nat) (g : Option Nat) (l' : List Nat) (e : Ending) (w' : World) : Prop := e = .returned (.tuple #[]) ∧ ∃ g', Moved w w' B g g' l'
/-- A new builder. -/
def NewBld (w : World) (l : List Nat) (e : Ending) (w' : World) : Prop := ∃ B g, e = .returned (.pointer (some ⟨B, 0, none⟩)) ∧ Bld w' B g l ∧ Below w.heap.size w w' ∧ w.heap.size ≤ B ∧ ∀ k, g = some k → w.heap.size ≤ k

theorem new_ok (A : Option Addr) (l : List Nat) (c : Nat) (w : World) (hl : Bys w A l) (hn : l.length ≤ 100000) :
    Calls Try.prog 20 #[.slice A l.length c] w fun e w' => NewBld w l e w' := by
  have HC := Lib.hid (cloneb_ok A l c w hl hn)
  have HB := Lib.hid hl.2
  clear hl hn
  go_enter Try.func20, Try.ntmps20
  go_wp2_with fail
  refine HC.out.mono ?_
  rintro e w1 ⟨v, rfl, ho, hb⟩
  obtain ⟨A1, c1, rfl, hy, hc1, ha1, hn1⟩ := ho.slice HB.out.1 HB.out.2
  have HO := Lib.hid ho
  clear ho hy hc1 ha1 hn1
  go_wp2_with fail
  go_ret
  have hB1 : Below w.heap.size w (w1.alloc (.cells #[.slice A1 l.length c1] 73)) := hb.alloc hb.size _
  refine ⟨w1.heap.size, Value.ownBlock (.slice A1 l.length c1), rfl, ⟨_, heap_alloc_new w1 _, (HO.out.base (Nat.zero_le _)).below ((Below.refl _ _).alloc (Nat.le_refl _) _), rfl, HB.out.1⟩, hB1, hb.size, fun k hk => (HO.out.lt hk).1⟩

end Go.Proofs.Ytajkneekehkhbaa
