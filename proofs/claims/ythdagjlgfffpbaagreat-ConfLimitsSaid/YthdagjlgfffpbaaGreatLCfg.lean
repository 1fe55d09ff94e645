/-
  Layer 5 (conf): a configuration that is handed in, opened. By the verifier.
-/
import Derived.Test.YthdagjlgfffpbaaGreatGCfg
import Derived.ChangeMaps5
import Derived.WideShapes
import Derived.Deep.Slices
set_option linter.unusedVariables false
namespace Go.Proofs.YthdagjlgfffpbaaGreat
open Go.RowKit Go.ChangeShapes Go.WideShapes Go.ChangeAt

section
variable {H : Type} {enc : TypeId × Value → H} {P : Program}

/-- A slice of records of k cells: what each element opens to makes the list. -/
theorem open_recs {α : Type} {t e : TypeId} {k : Nat} {W : World} {v : Value} {fuel : Nat} {x : DataW H × List MemPlace} (f : α → List Value) (ok : α → Prop) (hf : ∀ x, (f x).length = k) (hk : 0 < k) (ht : P.underlying t = some (.slice e)) (hc : P.cellsOf e = k)
    (helem : ∀ (cs : List Value) (n : Nat) (y : DataW H × List MemPlace), cs.length = k → DataW.trod enc P W 0 (fun _ => true) true n e cs = some y → ∃ r : α, ok r ∧ cs = f r)
    (h : DataW.trod enc P W 0 (fun _ => true) true fuel t [v] = some x) : ∃ (A : Option Addr) (l : List α) (c : Nat), v = .slice A l.length c ∧ Recs W A c l f ∧ ∀ r ∈ l, ok r := by
  rcases Deep.open_slice ht h with ⟨hcs, -⟩ | ⟨a, len, cap, m, n, D, Pl, hcs, -, hl, hm, hmm, -, hi⟩
  · obtain rfl : v = .slice none 0 0 := by simpa using hcs
    exact ⟨none, [], 0, rfl, ⟨Cells.nil _ _, fun _ => rfl, by simp, by simp⟩, fun r hr => by cases hr⟩
  · obtain rfl : v = .slice (some a) len cap := by simpa using hcs
    simp only [if_true] at hmm
    rw [hc] at hi
    have hex : ∀ i, i < len → ∃ r : α, ok r ∧ ∀ j v, (f r)[j]? = some v → W.cell? ((a.add (i * k)).add j) = some v := by
      intro i hlt
      obtain ⟨cs', hcc, ht'⟩ := hi i (by omega)
      obtain ⟨_, hcl, hat⟩ := World.cells?_some hcc
      obtain ⟨r, hr, rfl⟩ := helem cs' n _ hcl ht'
      refine ⟨r, hr, fun j v hv => ?_⟩
      have hj : j < k := by
        rcases Nat.lt_or_ge j k with h1 | h1
        · exact h1
        · rw [List.getElem?_eq_none (by rw [hf]; exact h1)] at hv; cases hv
      rw [hat j hj]
      exact hv
    have hpick : ∃ l : List α, l.length = len ∧ ∀ i (h : i < l.length), ok l[i] ∧ ∀ j v, (f l[i])[j]? = some v → W.cell? ((a.add (i * k)).add j) = some v := by
      rcases Nat.eq_zero_or_pos len with h0 | h0
      · exact ⟨[], by simp [h0], fun i hi => absurd hi (by simp)⟩
      · haveI : Inhabited α := ⟨Classical.choose (hex 0 h0)⟩
        refine ⟨(List.range len).map fun i => if h : i < len then Classical.choose (hex i h) else default, by simp, fun i hi => ?_⟩
        have hi' : i < len := by simpa using hi
        have := Classical.choose_spec (hex i hi')
        simpa [hi'] using this
    obtain ⟨l, hll, hl2⟩ := hpick
    have hmax : maxLen = 9223372036854775807 := by rfl
    refine ⟨some a, l, cap, by rw [hll], ⟨?_, (fun h => by cases h), by rw [hll]; exact hl, by omega⟩, fun r hr => ?_⟩
    · intro i hi
      have hflat := flat_len f k hf l
      have hq : i / k < l.length := by
        rw [Nat.div_lt_iff_lt_mul hk]
        omega
      have hm2 : i % k < k := Nat.mod_lt _ hk
      have hsplit : i / k * k + i % k = i := Nat.div_add_mod' i k
      obtain ⟨-, hcell⟩ := hl2 (i / k) hq
      have hat := flat_at f k hf l (i / k) hq (i % k) hm2
      rw [hsplit] at hat
      have hget : (l.flatMap f)[i]? = some ((l.flatMap f).getD i undef) := by
        rw [List.getD_eq_getElem?_getD, List.getElem?_eq_getElem hi]
        rfl
      have h1 := hcell (i % k) ((l.flatMap f).getD i undef) (by rw [← hat]; exact hget)
      obtain ⟨b, o, sp⟩ := a
      have hsp : sp = none := by
        have h00 : 0 < l.length := Nat.lt_of_le_of_lt (Nat.zero_le _) hq
        have g0 := (hl2 0 h00).2 0 ((f l[0])[0]'(by rw [hf]; exact hk)) (List.getElem?_eq_getElem _)
        have := World.cell?_spot g0
        simpa [Addr.add] using this
      subst hsp
      rw [Lib.add_plain, Lib.add_plain, Nat.add_assoc, hsplit] at h1
      exact ⟨b, o, rfl, World.block_lt_of_cell? W _ h1, h1⟩
    · obtain ⟨i, hi, rfl⟩ := List.mem_iff_getElem.1 hr
      exact (hl2 i hi).1

theorem list3 {α : Type} : ∀ {l : List α}, l.length = 3 → ∃ a b c, l = [a, b, c]
  | [a, b, c], _ => ⟨a, b, c, rfl⟩
theorem list4 {α : Type} : ∀ {l : List α}, l.length = 4 → ∃ a b c d, l = [a, b, c, d]
  | [a, b, c, d], _ => ⟨a, b, c, d, rfl⟩
theorem list5 {α : Type} : ∀ {l : List α}, l.length = 5 → ∃ a b c d e, l = [a, b, c, d, e]
  | [a, b, c, d, e], _ => ⟨a, b, c, d, e, rfl⟩
theorem list6 {α : Type} : ∀ {l : List α}, l.length = 6 → ∃ a b c d e f, l = [a, b, c, d, e, f]
  | [a, b, c, d, e, f], _ => ⟨a, b, c, d, e, f, rfl⟩
theorem nat_of_u {k : Int} {B : Nat} (h0 : 0 ≤ k) (h1 : k < (B : Int)) : ∃ n : Nat, n < B ∧ k = (n : Int) := ⟨k.toNat, by omega, by omega⟩
end

section
variable {H : Type} {enc : TypeId × Value → H} {W : World}

theorem u16_field {cs : List Value} {n : Nat} {y : DataW H × List MemPlace} (h : DataW.trod enc Tryz.prog W 0 (fun _ => true) true n 32 cs = some y) : ∃ z : Nat, z < 65536 ∧ cs = [.int .u16 (z : Int)] := by
  obtain ⟨k, hk, _, hw⟩ := DataW.trod_int Tryz.underlying32 h
  simp [Lit.wf, IntKind.min, IntKind.max, IntKind.signed, IntKind.bits] at hw
  obtain ⟨z, h1, rfl⟩ := nat_of_u (B := 65536) hw.1 (by omega)
  exact ⟨z, h1, hk⟩
theorem u64_field {cs : List Value} {n : Nat} {y : DataW H × List MemPlace} (h : DataW.trod enc Tryz.prog W 0 (fun _ => true) true n 25 cs = some y) : ∃ z : Nat, z < 18446744073709551616 ∧ cs = [.int .u64 (z : Int)] := by
  obtain ⟨k, hk, _, hw⟩ := DataW.trod_int Tryz.underlying25 h
  simp [Lit.wf, IntKind.min, IntKind.max, IntKind.signed, IntKind.bits] at hw
  obtain ⟨z, h1, rfl⟩ := nat_of_u (B := 18446744073709551616) hw.1 (by omega)
  exact ⟨z, h1, hk⟩
theorem u32_field {cs : List Value} {n : Nat} {y : DataW H × List MemPlace} (h : DataW.trod enc Tryz.prog W 0 (fun _ => true) true n 37 cs = some y) : ∃ z : Nat, z < 4294967296 ∧ cs = [.int .u32 (z : Int)] := by
  obtain ⟨k, hk, _, hw⟩ := DataW.trod_int Tryz.underlying37 h
  simp [Lit.wf, IntKind.min, IntKind.max, IntKind.signed, IntKind.bits] at hw
  obtain ⟨z, h1, rfl⟩ := nat_of_u (B := 4294967296) hw.1 (by omega)
  exact ⟨z, h1, hk⟩

/-- The fields of a struct, each with its cells. -/
theorem fields_of {t : TypeId} {fs : Array Field} {n : Nat} {cs : List Value} {y : DataW H × List MemPlace} (ht : Tryz.prog.underlying t = some (.struct fs)) (h : DataW.trod enc Tryz.prog W 0 (fun _ => true) true n t cs = some y) :
    ∃ m, ∀ (i : Nat) (f : Field), fs[i]? = some f → ∃ z, DataW.trod enc Tryz.prog W 0 (fun _ => true) true m f.type ((cs.drop f.offset).take (Tryz.prog.cellsOf f.type)) = some z := by
  obtain ⟨xs, m, _, _, _, hxl, hfl⟩ := DataW.trod_struct ht h
  refine ⟨m, fun i f hf => ?_⟩
  have hi : i < xs.length := by rw [hxl]; exact (Array.getElem?_eq_some_iff.1 hf).1
  exact ⟨xs[i], by rw [hfl i f hf, List.getElem?_eq_getElem hi]⟩

theorem cells2 : Tryz.prog.cellsOf 32 = 1 := by kernel_rfl
theorem cells6 : Tryz.prog.cellsOf 25 = 1 := by kernel_rfl
theorem cells3 : Tryz.prog.cellsOf 37 = 1 := by kernel_rfl
theorem cells1 : Tryz.prog.cellsOf 5 = 1 := by kernel_rfl
theorem cellsS : Tryz.prog.cellsOf 9 = 1 := by kernel_rfl
theorem cellsB : Tryz.prog.cellsOf 4 = 1 := by kernel_rfl

theorem open_part (cs : List Value) (n : Nat) (y : DataW H × List MemPlace) (hl : cs.length = 4) (h : DataW.trod enc Tryz.prog W 0 (fun _ => true) true n 36 cs = some y) : ∃ r : PartR, r.ok ∧ cs = partV r := by
  obtain ⟨e0, e1, e2, e3, rfl⟩ := list4 hl
  obtain ⟨m, hm⟩ := fields_of Tryz.underlying36 h
  obtain ⟨_, f0⟩ := hm 0 _ rfl
  obtain ⟨_, f1⟩ := hm 1 _ rfl
  obtain ⟨_, f2⟩ := hm 2 _ rfl
  obtain ⟨_, f3⟩ := hm 3 _ rfl
  obtain ⟨z0, w0, h0⟩ := u16_field f0
  obtain ⟨s, h1, _, w1⟩ := DataW.trod_string Tryz.underlying9 f1
  obtain ⟨z2, w2, h2⟩ := u64_field f2
  obtain ⟨z3, w3, h3⟩ := u64_field f3
  simp [cells2, cells6, cellsS] at h0 h1 h2 h3
  subst h0 h1 h2 h3
  have hmax : maxLen = 9223372036854775807 := by rfl
  exact ⟨⟨z0, s, z2, z3⟩, ⟨w0, by show s.size ≤ _; omega, w2, w3⟩, rfl⟩

theorem open_win (cs : List Value) (n : Nat) (y : DataW H × List MemPlace) (hl : cs.length = 3) (h : DataW.trod enc Tryz.prog W 0 (fun _ => true) true n 45 cs = some y) : ∃ r : WinR, r.ok ∧ cs = winV r := by
  obtain ⟨e0, e1, e2, rfl⟩ := list3 hl
  obtain ⟨m, hm⟩ := fields_of Tryz.underlying45 h
  obtain ⟨_, f0⟩ := hm 0 _ rfl
  obtain ⟨_, f1⟩ := hm 1 _ rfl
  obtain ⟨_, f2⟩ := hm 2 _ rfl
  obtain ⟨z0, w0, h0⟩ := u64_field f0
  obtain ⟨z1, w1, h1⟩ := u64_field f1
  obtain ⟨z2, w2, h2⟩ := u16_field f2
  simp [cells2, cells6] at h0 h1 h2
  subst h0 h1 h2
  exact ⟨⟨z0, z1, z2⟩, ⟨w0, w1, w2⟩, rfl⟩

theorem open_reg (cs : List Value) (n : Nat) (y : DataW H × List MemPlace) (hl : cs.length = 5) (h : DataW.trod enc Tryz.prog W 0 (fun _ => true) true n 47 cs = some y) : ∃ r : RegR, r.ok ∧ cs = regV r := by
  obtain ⟨e0, e1, e2, e3, e4, rfl⟩ := list5 hl
  obtain ⟨m, hm⟩ := fields_of Tryz.underlying47 h
  obtain ⟨_, f0⟩ := hm 0 _ rfl
  obtain ⟨_, f1⟩ := hm 1 _ rfl
  obtain ⟨_, f2⟩ := hm 2 _ rfl
  obtain ⟨_, f3⟩ := hm 3 _ rfl
  obtain ⟨_, f4⟩ := hm 4 _ rfl
  obtain ⟨z0, w0, h0⟩ := u64_field f0
  obtain ⟨z1, w1, h1⟩ := u64_field f1
  obtain ⟨z2, w2, h2⟩ := u16_field f2
  obtain ⟨k3, h3, _, w3⟩ := DataW.trod_int Tryz.underlying5 f3
  simp [Lit.wf, IntKind.min, IntKind.max, IntKind.signed, IntKind.bits] at w3
  obtain ⟨z3, w3', rfl⟩ := nat_of_u (B := 256) w3.1 (by omega)
  obtain ⟨b, h4, _⟩ := DataW.trod_bool Tryz.underlying4 f4
  simp [cells2, cells6, cellsB, cells1] at h0 h1 h2 h3 h4
  subst h0 h1 h2 h3 h4
  exact ⟨⟨z0, z1, z2, z3, b⟩, ⟨w0, w1, w2, w3'⟩, rfl⟩

theorem open_port (cs : List Value) (n : Nat) (y : DataW H × List MemPlace) (hl : cs.length = 6) (h : DataW.trod enc Tryz.prog W 0 (fun _ => true) true n 39 cs = some y) : ∃ r : PortR, r.ok ∧ cs = portV r := by
  obtain ⟨e0, e1, e2, e3, e4, e5, rfl⟩ := list6 hl
  obtain ⟨m, hm⟩ := fields_of Tryz.underlying39 h
  obtain ⟨_, f0⟩ := hm 0 _ rfl
  obtain ⟨_, f1⟩ := hm 1 _ rfl
  obtain ⟨_, f2⟩ := hm 2 _ rfl
  obtain ⟨_, f3⟩ := hm 3 _ rfl
  obtain ⟨_, f4⟩ := hm 4 _ rfl
  obtain ⟨_, f5⟩ := hm 5 _ rfl
  obtain ⟨z0, w0, h0⟩ := u16_field f0
  obtain ⟨z1, w1, h1⟩ := u16_field f1
  obtain ⟨s, h2, _, w2⟩ := DataW.trod_string Tryz.underlying9 f2
  obtain ⟨b3, h3, _⟩ := DataW.trod_bool Tryz.underlying4 f3
  obtain ⟨b4, h4, _⟩ := DataW.trod_bool Tryz.underlying4 f4
  obtain ⟨z5, w5, h5⟩ := u32_field f5
  simp [cells2, cells3, cellsB, cellsS] at h0 h1 h2 h3 h4 h5
  subst h0 h1 h2 h3 h4 h5
  have hmax : maxLen = 9223372036854775807 := by rfl
  exact ⟨⟨z0, z1, s, b3, b4, z5⟩, ⟨w0, w1, by show s.size ≤ _; omega, w5⟩, rfl⟩

theorem open_dests {v : Value} {n : Nat} {y : DataW H × List MemPlace} (h : DataW.trod enc Tryz.prog W 0 (fun _ => true) true n 31 [v] = some y) :
    ∃ (A : Option Addr) (l : List Nat) (c : Nat), v = .slice A l.length c ∧ Cells W A (l.map U16) ∧ (A = none → c = 0) ∧ l.length ≤ c ∧ l.length ≤ 9223372036854775807 ∧ ∀ r ∈ l, r < 65536 := by
  obtain ⟨A, l, c, rfl, hr, ho⟩ := open_recs (fun n : Nat => [U16 n]) (fun n => n < 65536) (k := 1) (fun _ => rfl) (by omega) Tryz.underlying31 cells2 (fun cs n y hl h => by
    obtain ⟨z, h1, h2⟩ := u16_field h
    exact ⟨z, h1, h2⟩) h
  have hm : l.flatMap (fun n : Nat => [U16 n]) = l.map U16 := by
    clear hr ho h
    induction l with
    | nil => rfl
    | cons a l ih => rw [List.flatMap_cons, ih]; rfl
  exact ⟨A, l, c, rfl, by rw [← hm]; exact hr.cells, hr.nil, hr.fit, hr.max, ho⟩

theorem open_chan (cs : List Value) (n : Nat) (y : DataW H × List MemPlace) (hl : cs.length = 3) (h : DataW.trod enc Tryz.prog W 0 (fun _ => true) true n 34 cs = some y) : ∃ r : ChanC, (r.r.ok ∧ DestsIn W r) ∧ cs = chanV r := by
  obtain ⟨e0, e1, e2, rfl⟩ := list3 hl
  obtain ⟨m, hm⟩ := fields_of Tryz.underlying34 h
  have cd : Tryz.prog.cellsOf 31 = 1 := by kernel_rfl
  obtain ⟨_, f0⟩ := hm 0 _ rfl
  obtain ⟨_, f1⟩ := hm 1 _ rfl
  obtain ⟨_, f2⟩ := hm 2 _ rfl
  obtain ⟨z0, w0, h0⟩ := u16_field f0
  obtain ⟨z1, w1, h1⟩ := u16_field f1
  simp [cells2] at h0 h1
  have t2 : List.take (Tryz.prog.cellsOf 31) (List.drop 2 [e0, e1, e2]) = [e2] := by rw [cd]; rfl
  obtain ⟨A, l, c, h2, hc, hn, hf, hx, ho⟩ := open_dests (v := e2) (by rw [← t2]; exact f2)
  subst h0 h1 h2
  exact ⟨⟨⟨z0, z1, l⟩, A, c⟩, ⟨⟨w0, w1, ho⟩, ⟨hc, hn, hf, hx⟩⟩, rfl⟩

set_option maxRecDepth 100000 in
/-- A configuration that is handed in. -/
theorem open_cfg {v : Value} {d : DataW H} {p : List MemPlace} (hv : Value.okWide Tryz.prog W .any 0 30 v) (h : DataW.Trod enc Tryz.prog W 0 (fun _ => true) true 30 v d p) :
    ∃ (c : ConfR) (q : CfgQ), v = cfgV c q ∧ CfgIn W c q := by
  obtain ⟨cs, rfl, hs⟩ := okWide_struct Tryz.underlying30 hv
  have hC : Tryz.prog.cellsOf 30 = 6 := by kernel_rfl
  rw [hC] at hs
  obtain ⟨fuel, hf⟩ := h
  obtain ⟨cs⟩ := cs
  obtain ⟨e0, e1, e2, e3, e4, e5, rfl⟩ := list6 (show cs.length = 6 from hs)
  obtain ⟨m, hm⟩ := fields_of Tryz.underlying30 hf
  have k1 : Tryz.prog.cellsOf 23 = 1 := by kernel_rfl
  have k2 : Tryz.prog.cellsOf 26 = 1 := by kernel_rfl
  have k3 : Tryz.prog.cellsOf 27 = 1 := by kernel_rfl
  have k4 : Tryz.prog.cellsOf 24 = 1 := by kernel_rfl
  have k5 : Tryz.prog.cellsOf 28 = 1 := by kernel_rfl
  obtain ⟨_, f0⟩ := hm 0 _ rfl
  obtain ⟨_, f1⟩ := hm 1 _ rfl
  obtain ⟨_, f2⟩ := hm 2 _ rfl
  obtain ⟨_, f3⟩ := hm 3 _ rfl
  obtain ⟨_, f4⟩ := hm 4 _ rfl
  obtain ⟨_, f5⟩ := hm 5 _ rfl
  obtain ⟨z0, w0, h0⟩ := u64_field f0
  simp [cells6, Value.cells] at h0
  have t1 : List.take (Tryz.prog.cellsOf 23) (List.drop 1 [e0, e1, e2, e3, e4, e5]) = [e1] := by rw [k1]; rfl
  have t2 : List.take (Tryz.prog.cellsOf 26) (List.drop 2 [e0, e1, e2, e3, e4, e5]) = [e2] := by rw [k2]; rfl
  have t3 : List.take (Tryz.prog.cellsOf 27) (List.drop 3 [e0, e1, e2, e3, e4, e5]) = [e3] := by rw [k3]; rfl
  have t4 : List.take (Tryz.prog.cellsOf 24) (List.drop 4 [e0, e1, e2, e3, e4, e5]) = [e4] := by rw [k4]; rfl
  have t5 : List.take (Tryz.prog.cellsOf 28) (List.drop 5 [e0, e1, e2, e3, e4, e5]) = [e5] := by rw [k5]; rfl
  obtain ⟨A1, l1, c1, h1, r1, o1⟩ := open_recs partV PartR.ok (k := 4) (fun _ => rfl) (by omega) Tryz.underlying23 (by kernel_rfl) open_part (v := e1) (by rw [← t1]; exact f1)
  obtain ⟨A2, l2, c2, h2, r2, o2⟩ := open_recs winV WinR.ok (k := 3) (fun _ => rfl) (by omega) Tryz.underlying26 (by kernel_rfl) open_win (v := e2) (by rw [← t2]; exact f2)
  obtain ⟨A3, l3, c3, h3, r3, o3⟩ := open_recs regV RegR.ok (k := 5) (fun _ => rfl) (by omega) Tryz.underlying27 (by kernel_rfl) open_reg (v := e3) (by rw [← t3]; exact f3)
  obtain ⟨A4, l4, c4, h4, r4, o4⟩ := open_recs portV PortR.ok (k := 6) (fun _ => rfl) (by omega) Tryz.underlying24 (by kernel_rfl) open_port (v := e4) (by rw [← t4]; exact f4)
  obtain ⟨A5, l5, c5, h5, r5, o5⟩ := open_recs chanV (fun r => r.r.ok ∧ DestsIn W r) (k := 3) (fun _ => rfl) (by omega) Tryz.underlying28 (by kernel_rfl) open_chan (v := e5) (by rw [← t5]; exact f5)
  subst h0 h1 h2 h3 h4 h5
  refine ⟨⟨z0, l1, l2, l3, l4, l5.map (·.r)⟩, ⟨A1, c1, A2, c2, A3, c3, A4, c4, A5, c5, l5⟩, ?_, ⟨r1, r2, r3, r4, r5, rfl, fun x hx => (o5 x hx).2, w0, o1, o2, o3, o4, fun x hx => ?_⟩⟩
  · unfold cfgV
    simp
  · obtain ⟨y, hy, rfl⟩ := List.mem_map.1 hx
    exact (o5 y hy).1
end

end Go.Proofs.YthdagjlgfffpbaaGreat
