/-
  Layer 3 (buf): the methods of a builder that append. By the verifier.
-/
import Derived.Test.YtajkneekehkhbaaBBld
set_option linter.unusedVariables false
namespace Go.Proofs.Ytajkneekehkhbaa
open Go.RowKit

theorem add_nil (A : Option Addr) (n c : Nat) (w : World) :
    Calls Try.prog 28 #[.pointer none, .slice A n c] w fun e w' => e = .returned (.tuple #[]) ∧ w = w' := by
  go_enter Try.func28, Try.ntmps28
  go_wp2_with fail
  go_end0
  exact ⟨rfl, rfl⟩

/-- A builder's cell is written anew. -/
theorem Bld.store {w w1 : World} {B : Nat} {g : Option Nat} {l l' : List Nat} (hb : Bld w B g l) {v' : Value} (ho : OwnB w1 0 v' l') (hg : w.grownBy w1 g) (hf : v'.ownBlock = g ∨ v'.ownBlock = some w.heap.size) (hl : Bs l') :
    Moved w (w1.setCell ⟨B, 0, none⟩ v') B g v'.ownBlock l' := by
  have hne := hb.ne
  have hlt := hb.lt
  obtain ⟨v, hr, -, -, -⟩ := hb
  have ht := Turn.of_grown hg
  have hr1 : Row w1 B 73 1 (fun _ => v) := ht.row hr (fun e => hne e)
  have hs : Turn (SB B g) w (w1.setCell ⟨B, 0, none⟩ v') := (ht.mono (S' := SB B g) (fun i _ hi => Or.inr hi)).setCell (Or.inl rfl) v'
  have hvB : v'.ownBlock ≠ some B := by
    rcases hf with hf | hf
    · rw [hf]; exact hne
    · rw [hf]
      intro e
      injection e with e
      have := hlt.1
      omega
  refine ⟨⟨v', (hr1.set (by omega) v').congr fun i hi => by rw [if_pos (by omega)], ?_, rfl, hl⟩, hs, ?_⟩
  · exact ((Turn.refl (fun k => k = B) w1).setCell rfl v').own ho (fun k hk e => hvB (by rw [hk, e]))
  · rcases hf with hf | hf
    · exact .inl hf
    · exact .inr ⟨_, hf, Nat.le_refl _⟩

/-- What a builder's cell holds. -/
theorem Bld.cell {w : World} {B : Nat} {g : Option Nat} {l : List Nat} (h : Bld w B g l) (hm : l.length ≤ maxLen) :
    ∃ A c, OwnB w 0 (.slice A l.length c) l ∧ (Value.slice A l.length c).ownBlock = g ∧ w.cell? ⟨B, 0, none⟩ = some (.slice A l.length c) ∧ w.frozen? ⟨B, 0, none⟩ = false ∧ Bys w A l ∧ l.length ≤ c ∧ (∀ a, A = some a → g = some a.block ∧ a.off = 0 ∧ a.spot = none) ∧ (A = none → c = 0) := by
  obtain ⟨v, hr, ho, hg, hb⟩ := h
  obtain ⟨A, c, rfl, hy, hc, ha, hn⟩ := ho.slice hb hm
  exact ⟨A, c, ho, hg, hr.cell (by omega), hr.free 0, hy, hc, fun a h => ⟨hg.symm.trans (ha a h).1, (ha a h).2⟩, hn⟩

set_option maxHeartbeats 1000000 in
theorem add_ok (B : Nat) (g : Option Nat) (l : List Nat) (A : Option Addr) (m : List Nat) (c : Nat) (w : World) (hb : Bld w B g l) (hm : Bys w A m) (hlen : l.length + m.length ≤ 1000000) :
    Calls Try.prog 28 #[.pointer (some ⟨B, 0, none⟩), .slice A m.length c] w fun e w' => AddRes w B g (l ++ m) e w' := by
  obtain ⟨A0, c0, ho, hg, hcell, hfr, hy, hc0, ha, hn⟩ := hb.cell (by unfold maxLen; omega)
  have HB := Lib.hid hb
  have HO := Lib.hid ho
  have HG := Lib.hid hg
  have HM := Lib.hid hm
  have hBlt := hb.lt.1
  have hne := hb.ne
  have HNE := Lib.hid hne
  clear hb ho hg hm hy hc0 ha hn hne
  go_enter Try.func28, Try.ntmps28
  go_wp2_with ((with_reducible refine wpList_append_t 22 Try.underlying22 rfl (.tmp 10) (.tmp 11) rfl 0 (.slice A0 l.length c0) l rfl HO.out A m m.length c rfl rfl HM.out hlen (Nat.zero_le _) ?_); intro v1 w1 ho1 hg1 hf1; rw [HG.out] at hg1 hf1; have hB1 : B < w1.heap.size := Nat.lt_of_lt_of_le hBlt hg1.size; obtain ⟨A1, c1, hv1, hy1, -⟩ := ho1.slice (HB.out.bs.append HM.out.2.1) (by rw [List.length_append]; unfold maxLen; omega); rw [List.length_append] at hv1; subst hv1; have hcell1 : w1.cell? ⟨B, 0, none⟩ = some (.slice A0 l.length c0) := (World.cell?_of_block (w := w) (a := ⟨B, 0, none⟩) (hg1.block B hBlt (fun e => HNE.out e.symm))).trans hcell; have hfr1 : w1.frozen? ⟨B, 0, none⟩ = false := (World.frozen?_of_block (w := w) (a := ⟨B, 0, none⟩) (hg1.block B hBlt (fun e => HNE.out e.symm))).trans hfr; have HF := Lib.hid (And.intro ho1 (And.intro hg1 hf1)); clear ho1 hg1 hf1 hy1)
  go_end0
  exact ⟨rfl, _, HB.out.store HF.out.1 HF.out.2.1 HF.out.2.2 (HB.out.bs.append HM.out.2.1)⟩

end Go.Proofs.Ytajkneekehkhbaa
