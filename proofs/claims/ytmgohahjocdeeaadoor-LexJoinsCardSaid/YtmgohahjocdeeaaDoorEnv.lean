/-
  The package-level variables that the library's number functions read, as the program's text lays them. By the verifier.
-/
import Derived.Test.YtmgohahjocdeeaaDoorBase
import Derived.Test.YtmgohahjocdeeaaDoorShelf
set_option linter.unusedVariables false
namespace Go.Proofs.YtmgohahjocdeeaaDoor
open Go.RowKit

structure Env (w : World) : Prop where
  syn : ∃ te pe, w.cell? ⟨1, 0, none⟩ = some (.iface te pe)
  rng : ∃ te pe, w.cell? ⟨2, 0, none⟩ = some (.iface te pe)
  pow : Lib.TabIs Tryd.prog w "internal/strconv.uint64pow10" .u64 Lib.pow10Tab
  tz : w.cell? ⟨5, 15, none⟩ = some (.int .u8 4)

theorem lt_of_cell {w : World} {b o : Nat} {v : Value} (h : w.cell? ⟨b, o, none⟩ = some v) : b < w.heap.size := World.block_lt_of_cell? w _ h

theorem var_below {P : Program} {n : String} {cs : Array Value} {w w' : World} (h : w.var? P n = some cs) (hb : Below w.heap.size w w') : w'.var? P n = some cs := by
  unfold World.var? at h ⊢
  cases hg : P.globalNamed n with
  | none => rw [hg] at h; cases h
  | some g =>
    rw [hg] at h
    simp only [Option.bind] at h ⊢
    have hlt : g < w.heap.size := by
      rcases Nat.lt_or_ge g w.heap.size with hl | hl
      · exact hl
      · rw [Array.getElem?_eq_none hl] at h; cases h
    rw [hb.block g hlt]
    exact h

theorem Env.below {w w' : World} (h : Env w) (hb : Below w.heap.size w w') : Env w' where
  syn := by
    obtain ⟨te, pe, hc⟩ := h.syn
    exact ⟨te, pe, by rw [hb.cell (lt_of_cell hc)]; exact hc⟩
  rng := by
    obtain ⟨te, pe, hc⟩ := h.rng
    exact ⟨te, pe, by rw [hb.cell (lt_of_cell hc)]; exact hc⟩
  pow := var_below h.pow hb
  tz := by rw [hb.cell (lt_of_cell h.tz)]; exact h.tz

theorem Env.alloc {w : World} (h : Env w) (o : Obj) : Env (w.alloc o) := h.below ((Below.refl _ _).alloc (Nat.le_refl _) _)
theorem Env.drew {w : World} (h : Env w) : Env w.drew := h.below (Below.refl _ _).drew
theorem Env.drewN {w : World} (h : Env w) (n : Nat) : Env (w.drewN n) := h.below (below_drewN (Below.refl _ _) n)

end Go.Proofs.YtmgohahjocdeeaaDoor
