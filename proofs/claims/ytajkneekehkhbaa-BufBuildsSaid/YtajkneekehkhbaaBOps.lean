/-
  Layer 3 (buf): calls that came in. By the verifier.
-/
import Derived.Test.YtajkneekehkhbaaBAlive
import Derived.Deep.Slices
import Derived.Deep.Fields
import Derived.ChangeSame
import Derived.Deep.LoopGhost
set_option linter.unusedVariables false
namespace Go.Proofs.Ytajkneekehkhbaa
open Go.RowKit Go.ChangeShapes Go.WideShapes

/-- A call, as it came in. -/
structure OpV where
  k : Int
  n : Int
  x : Nat
  d : List Nat

/-- A call in memory. -/
structure OpIn (w : World) (b f : Nat) (o : OpV) (Ad : Option Addr) (cd : Nat) : Prop where
  c0 : w.cell? ⟨b, f, none⟩ = some (.int .i64 o.k)
  c1 : w.cell? ⟨b, f + 1, none⟩ = some (.int .i64 o.n)
  c2 : w.cell? ⟨b, f + 2, none⟩ = some (.int .u64 (o.x : Int))
  c3 : w.cell? ⟨b, f + 3, none⟩ = some (.slice Ad o.d.length cd)
  lt : b < w.heap.size
  bys : Bys w Ad o.d
  cap : o.d.length ≤ cd
  hk : I64 o.k
  hn : I64 o.n
  hx : o.x < 18446744073709551616
  ha : ∀ a, Ad = some a → a.block < w.heap.size ∨ o.d = []

theorem OpIn.below {w w' : World} {b f : Nat} {o : OpV} {Ad : Option Addr} {cd : Nat} (h : OpIn w b f o Ad cd) (hb : Below w.heap.size w w') : OpIn w' b f o Ad cd :=
  ⟨(bcell hb b _ h.lt).trans h.c0, (bcell hb b _ h.lt).trans h.c1, (bcell hb b _ h.lt).trans h.c2, (bcell hb b _ h.lt).trans h.c3, Nat.lt_of_lt_of_le h.lt hb.size, h.bys.below (Nat.le_refl _) hb, h.cap, h.hk, h.hn, h.hx, fun a ha => (h.ha a ha).imp (fun h1 => Nat.lt_of_lt_of_le h1 hb.size) id⟩

/-- Calls that came in: element i lies at 4 i cells behind the address. -/
def Ops (w : World) (A : Option Addr) (l : List OpV) : Prop := (∀ i (h : i < l.length), ∃ b f Ad cd, A = some ⟨b, f, none⟩ ∧ OpIn w b (f + i * 4) l[i] Ad cd) ∧ l.length ≤ maxLen

theorem Ops.below {w w' : World} {A : Option Addr} {l : List OpV} (h : Ops w A l) (hb : Below w.heap.size w w') : Ops w' A l := by
  refine ⟨fun i hi => ?_, h.2⟩
  obtain ⟨b, f, Ad, cd, hA, ho⟩ := h.1 i hi
  exact ⟨b, f, Ad, cd, hA, ho.below hb⟩

section
variable {H : Type} {enc : TypeId × Value → H} {P : Program}
/-- Bytes in a field. -/
theorem field_bytes {t e : TypeId} {W : World} {v : Value} {fuel : Nat} {x : DataW H × List MemPlace} (ht : P.underlying t = some (.slice e)) (he : P.underlying e = some (.int .u8)) (hc : P.cellsOf e = 1)
    (h : DataW.trod enc P W 0 (fun _ => true) true fuel t [v] = some x) : ∃ (A : Option Addr) (l : List Nat) (c : Nat), v = .slice A l.length c ∧ Bys W A l ∧ l.length ≤ c ∧ (∀ a, A = some a → a.block < W.heap.size ∨ l = []) := by
  rcases open_ints ht he hc h with ⟨hcs, -⟩ | ⟨a, len, cap, zs, hcs, -, hl, hm, hz, -, hcell, hwz⟩
  · obtain rfl : v = .slice none 0 0 := by simpa using hcs
    exact ⟨none, [], 0, rfl, ⟨fun i hi => absurd hi (by simp), fun z hz => absurd hz (by simp), by simp⟩, by simp, fun a ha => by cases ha⟩
  · obtain rfl : v = .slice (some a) len cap := by simpa using hcs
    simp only [if_true] at hz
    have hlen : ((zs.take len).map Int.toNat).length = len := by rw [List.length_map, List.length_take]; omega
    have hwf : ∀ z ∈ zs, 0 ≤ z ∧ z < 256 := fun z hz' => by
      have := hwz z hz'
      simp [Lit.wf, IntKind.min, IntKind.max, IntKind.signed, IntKind.bits] at this
      omega
    have hby : Bys W (some a) ((zs.take len).map Int.toNat) := by
      refine ⟨fun i hi => ?_, fun z hz' => ?_, by rw [hlen]; omega⟩
      · rw [hlen] at hi
        have h0 := hcell i (by omega)
        obtain ⟨b, o, sp⟩ := a
        have hsp : sp = none := by
          have := hcell 0 (by omega)
          simpa [Addr.add] using World.cell?_spot this
        subst hsp
        rw [Lib.add_plain] at h0
        refine ⟨b, o, rfl, World.block_lt_of_cell? W _ h0, ?_⟩
        rw [h0]
        have hzi : i < zs.length := by omega
        have := hwf zs[i] (List.getElem_mem hzi)
        simp [V8, List.getD, hi, hzi]
        omega
      · obtain ⟨y, hy, rfl⟩ := List.mem_map.1 hz'
        have := hwf y (List.mem_of_mem_take hy)
        omega
    refine ⟨some a, (zs.take len).map Int.toNat, cap, by rw [hlen], hby, by rw [hlen]; omega, fun a' ha' => ?_⟩
    by_cases h0 : (zs.take len).map Int.toNat = []
    · exact .inr h0
    · obtain ⟨b, o, hA, hb, -⟩ := hby.1 0 (by cases hq : (zs.take len).map Int.toNat with | nil => exact absurd hq h0 | cons _ _ => simp)
      left
      rw [hA] at ha'
      injection ha' with ha'
      subst ha'
      exact hb
end

section
variable {H : Type} {enc : TypeId × Value → H}
theorem open_ops {W : World} {v : Value} {d : DataW H} {p : List MemPlace} (hv : Value.okWide Try.prog W .any 0 44 v) (h : DataW.Trod enc Try.prog W 0 (fun _ => true) true 44 v d p) :
    ∃ (A : Option Addr) (l : List OpV) (c : Nat), v = .slice A l.length c ∧ Ops W A l := by
  have hC : Try.prog.cellsOf 49 = 4 := by kernel_rfl
  obtain ⟨a0, len, cap, rfl⟩ := okWide_slice Try.underlying44 hv
  obtain ⟨fuel, hf⟩ := h
  rcases Deep.open_slice Try.underlying44 hf with ⟨hcs, -⟩ | ⟨a, len', cap', m, n, D, Pl, hcs, -, hl, hm, hmm, -, hi⟩
  · simp [Value.cells] at hcs
    obtain ⟨rfl, rfl, rfl⟩ := hcs
    exact ⟨none, [], 0, rfl, fun i hi => absurd hi (by simp), by simp⟩
  · simp [Value.cells] at hcs
    obtain ⟨rfl, rfl, rfl⟩ := hcs
    simp only [if_true] at hmm
    have hspot : 0 < len → a.spot = none := fun h0 => by
      obtain ⟨cs', hc, -⟩ := hi 0 (by omega)
      rw [hC] at hc
      obtain ⟨_, hcl, hat⟩ := World.cells?_some hc
      have g := hat 0 (by omega)
      rw [List.getElem?_eq_getElem (by omega)] at g
      have := World.cell?_spot g
      simpa [Addr.add] using this
    have hex : ∀ i, i < len → ∃ o : OpV, ∃ b f Ad cd, a = ⟨b, f, none⟩ ∧ OpIn W b (f + i * 4) o Ad cd := by
      intro i hlt
      obtain ⟨cs', hc, ht'⟩ := hi i (by omega)
      rw [hC] at hc
      obtain ⟨_, hcl, hat⟩ := World.cells?_some hc
      obtain ⟨xs, n', _, _, _, hxl, hfl⟩ := DataW.trod_struct Try.underlying49 ht'
      match cs', hcl with
      | [e0, e1, e2, e3], _ =>
        have f0 := hfl 0 _ rfl
        have f1 := hfl 1 _ rfl
        have f2 := hfl 2 _ rfl
        have f3 := hfl 3 _ rfl
        match xs, hxl with
        | [x0, x1, x2, x3], _ =>
          have ci : Try.prog.cellsOf 3 = 1 := by kernel_rfl
          have cu : Try.prog.cellsOf 33 = 1 := by kernel_rfl
          have cb : Try.prog.cellsOf 22 = 1 := by kernel_rfl
          obtain ⟨k0, hk0, _, hw0⟩ := DataW.trod_int Try.underlying3 f0
          obtain ⟨k1, hk1, _, hw1⟩ := DataW.trod_int Try.underlying3 f1
          obtain ⟨k2, hk2, _, hw2⟩ := DataW.trod_int Try.underlying33 f2
          obtain ⟨Ad, dl, cd, rfl, hby, hcd, had⟩ := field_bytes Try.underlying22 Try.underlying5 (by kernel_rfl) f3
          obtain rfl : e0 = .int .i64 k0 := by simpa [ci] using hk0
          obtain rfl : e1 = .int .i64 k1 := by simpa [ci] using hk1
          obtain rfl : e2 = .int .u64 k2 := by simpa [cu] using hk2
          have g0 := hat 0 (by omega)
          have g1 := hat 1 (by omega)
          have g2 := hat 2 (by omega)
          have g3 := hat 3 (by omega)
          obtain ⟨b, f, sp⟩ := a
          have hsp : sp = none := hspot (by omega)
          subst hsp
          have had2 : ∀ j : Nat, ((⟨b, f, none⟩ : Addr).add (i * 4)).add j = ⟨b, f + i * 4 + j, none⟩ := fun j => by
            rw [Lib.add_plain, Lib.add_plain]
          rw [had2] at g0 g1 g2 g3
          simp [Lit.wf, IntKind.min, IntKind.max, IntKind.signed, IntKind.bits] at hw0 hw1 hw2
          obtain ⟨x, rfl⟩ := Int.eq_ofNat_of_zero_le hw2.1
          exact ⟨⟨k0, k1, x, dl⟩, b, f, Ad, cd, rfl, g0, g1, g2, g3, World.block_lt_of_cell? W _ g0, hby, hcd, (by show I64 k0; unfold I64; omega), (by show I64 k1; unfold I64; omega), (by show x < 18446744073709551616; omega), had⟩
    have hpick : ∃ l : List OpV, l.length = len ∧ ∀ i (h : i < l.length), ∃ b f Ad cd, a = ⟨b, f, none⟩ ∧ OpIn W b (f + i * 4) l[i] Ad cd := by
      refine ⟨(List.range len).map fun i => if h : i < len then Classical.choose (hex i h) else ⟨0, 0, 0, []⟩, by simp, fun i hi => ?_⟩
      have hi' : i < len := by simpa using hi
      have := Classical.choose_spec (hex i hi')
      simpa [hi'] using this
    obtain ⟨l, hll, hl2⟩ := hpick
    refine ⟨some a, l, cap, by rw [hll], fun i hi => ?_, by rw [hll]; omega⟩
    obtain ⟨b, f, Ad, cd, rfl, ho⟩ := hl2 i hi
    exact ⟨b, f, Ad, cd, rfl, ho⟩
end

end Go.Proofs.Ytajkneekehkhbaa
