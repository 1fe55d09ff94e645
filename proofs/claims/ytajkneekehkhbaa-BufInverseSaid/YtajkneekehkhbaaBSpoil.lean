/-
  Layer 3 (buf): bytes of the call's own that are written one after the other. By the verifier.
-/
import Derived.Test.YtajkneekehkhbaaBAlive
set_option linter.unusedVariables false
namespace Go.Proofs.Ytajkneekehkhbaa
open Go.RowKit

theorem Bs.set {l : List Nat} (h : Bs l) (k y : Nat) (hy : y < 256) : Bs (l.set k y) := fun x hx => by
  rcases List.mem_or_eq_of_mem_set hx with hx | rfl
  · exact h x hx
  · exact hy

theorem OwnB.store {w : World} {base g n cap : Nat} {l : List Nat} (h : OwnB w base (.slice (some ⟨g, 0, none⟩) n cap) l) (hn : l.length = n) (k y : Nat) :
    OwnB (w.setCell ⟨g, k, none⟩ (V8 y)) base (.slice (some ⟨g, 0, none⟩) n cap) (l.set k y) ∧ Turn (fun j => j = g) w (w.setCell ⟨g, k, none⟩ (V8 y)) := by
  subst hn
  obtain ⟨h1, h2⟩ := World.ownsRow.stored h k (V8 y)
  refine ⟨?_, (Turn.of_grown h2).mono fun i _ hi => by injection hi with hi; exact hi.symm⟩
  unfold OwnB
  rw [List.length_set, List.map_set]
  exact h1

theorem OwnB.cell {w : World} {base g n cap : Nat} {l : List Nat} (h : OwnB w base (.slice (some ⟨g, 0, none⟩) n cap) l) (hn : l.length = n) (k : Nat) (hk : k < n) :
    w.cell? ⟨g, k, none⟩ = some (V8 (l.getD k 0)) ∧ w.frozen? ⟨g, k, none⟩ = false := by
  subst hn
  refine ⟨?_, World.ownsRow.frozenAt h k⟩
  rw [World.ownsRow.cellAt h k (by omega)]
  simp [List.getD, hk]

/-- Bytes of the call's own have been written over; nothing else has turned. -/
def Spoil (w0 wr : World) (v : Value) (n : Nat) : Prop := ∃ S, OwnB wr 0 v S ∧ Bs S ∧ S.length = n ∧ Turn (fun j => v.ownBlock = some j) w0 wr

theorem Spoil.refl {w : World} {v : Value} {l : List Nat} {base : Nat} (h : OwnB w base v l) (hl : Bs l) : Spoil w w v l.length := ⟨l, h.base (Nat.zero_le _), hl, rfl, Turn.refl _ _⟩
/-- A round's store. -/
theorem Spoil.at {w0 wr : World} {A : Option Addr} {n c : Nat} (h : Spoil w0 wr (.slice A n c) n) {k : Nat} (hk : k < n) :
    ∃ g x, A = some ⟨g, 0, none⟩ ∧ x < 256 ∧ wr.cell? ⟨g, k, none⟩ = some (.int .u8 ((x : Nat) : Int)) ∧ wr.frozen? ⟨g, k, none⟩ = false ∧ ∀ y : Nat, y < 256 → Spoil w0 (wr.setCell ⟨g, k, none⟩ (V8 y)) (.slice A n c) n := by
  obtain ⟨S, ho, hb, hn, ht⟩ := h
  rcases ho.2 with ⟨h0, h1⟩ | ⟨g, cap, cur, hv, -⟩
  · omega
  · injection hv with hA hn' hc
    subst hA
    obtain ⟨h1, h2⟩ := ho.cell hn k hk
    refine ⟨g, S.getD k 0, rfl, hb.get k, h1, h2, fun y hy => ?_⟩
    obtain ⟨h3, h4⟩ := ho.store hn k y
    exact ⟨S.set k y, h3, hb.set k y hy, by rw [List.length_set, hn], ht.trans h4 fun i _ hi => by rw [hi]; rfl⟩

end Go.Proofs.Ytajkneekehkhbaa
