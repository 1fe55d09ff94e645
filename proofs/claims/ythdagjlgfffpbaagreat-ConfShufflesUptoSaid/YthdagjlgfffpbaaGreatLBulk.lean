/-
  Layer 5 (conf): a configuration that is handed in, opened, with its size. By the verifier.
-/
import Derived.Test.YthdagjlgfffpbaaGreatLCfg
import Derived.Test.YthdagjlgfffpbaaGreatRows
set_option linter.unusedVariables false
namespace Go.Proofs.YthdagjlgfffpbaaGreat
open Go.RowKit Go.ChangeShapes Go.WideShapes Go.ChangeAt

section
variable {H : Type} {enc : TypeId × Value → H} {P : Program}

theorem bulk_part {d : DataW H} {l : List (DataW H)} (h : d ∈ l) : Rows.uptoBulk d ≤ Rows.uptoBulkAll l := by
  induction l with
  | nil => cases h
  | cons x r ih =>
    simp only [Rows.uptoBulkAll]
    cases List.mem_cons.1 h with
    | inl e => subst e; omega
    | inr e => have := ih e; omega
theorem bulk_append (l r : List (DataW H)) : Rows.uptoBulkAll (l ++ r) = Rows.uptoBulkAll l + Rows.uptoBulkAll r := by
  induction l with
  | nil => simp [Rows.uptoBulkAll]
  | cons x l ih => simp only [List.cons_append, Rows.uptoBulkAll, ih]; omega
theorem bulk_sum {α : Type} (m : α → Nat) : ∀ (l : List α) (D : Nat → DataW H), (∀ i (h : i < l.length), m l[i] ≤ Rows.uptoBulk (D i)) → (l.map m).sum ≤ Rows.uptoBulkAll ((List.range l.length).map D)
  | [], D, _ => Nat.zero_le _
  | a :: l, D, h => by
    have h0 := h 0 (by simp)
    have h1 := bulk_sum m l (fun i => D (i + 1)) (fun i hi => by have := h (i + 1) (by simp; omega); simpa using this)
    simp only [List.length_cons, List.range_succ_eq_map, List.map_cons, List.map_map, Rows.uptoBulkAll, List.sum_cons]
    simp only [List.getElem_cons_zero] at h0
    have e : (D ∘ Nat.succ) = fun i => D (i + 1) := rfl
    rw [e]
    omega

/-- A slice of records of k cells, each with a size. -/
theorem open_recsB {α : Type} {t e : TypeId} {k : Nat} {W : World} {v : Value} {fuel : Nat} {x : DataW H × List MemPlace} (f : α → List Value) (ok : α → Prop) (m : α → Nat) (hf : ∀ x, (f x).length = k) (hk : 0 < k) (ht : P.underlying t = some (.slice e)) (hc : P.cellsOf e = k)
    (helem : ∀ (cs : List Value) (n : Nat) (y : DataW H × List MemPlace), cs.length = k → DataW.trod enc P W 0 (fun _ => true) true n e cs = some y → ∃ r : α, ok r ∧ cs = f r ∧ m r ≤ Rows.uptoBulk y.1)
    (h : DataW.trod enc P W 0 (fun _ => true) true fuel t [v] = some x) : ∃ (A : Option Addr) (l : List α) (c : Nat), v = .slice A l.length c ∧ Recs W A c l f ∧ (∀ r ∈ l, ok r) ∧ (l.map m).sum + 1 ≤ Rows.uptoBulk x.1 := by
  rcases Deep.open_slice ht h with ⟨hcs, hx⟩ | ⟨a, len, cap, mm, n, D, Pl, hcs, -, hl, hm, hmm, hx, hi⟩
  · obtain rfl : v = .slice none 0 0 := by simpa using hcs
    exact ⟨none, [], 0, rfl, ⟨Cells.nil _ _, fun _ => rfl, by simp, by simp⟩, fun r hr => (by cases hr), by rw [hx]; simp [Rows.uptoBulk]⟩
  · obtain rfl : v = .slice (some a) len cap := by simpa using hcs
    simp only [if_true] at hmm
    rw [hc] at hi
    have hex : ∀ i, i < len → ∃ r : α, (ok r ∧ m r ≤ Rows.uptoBulk (D i)) ∧ ∀ j v, (f r)[j]? = some v → W.cell? ((a.add (i * k)).add j) = some v := by
      intro i hlt
      obtain ⟨cs', hcc, ht'⟩ := hi i (by omega)
      obtain ⟨_, hcl, hat⟩ := World.cells?_some hcc
      obtain ⟨r, hr, rfl, hmr⟩ := helem cs' n _ hcl ht'
      refine ⟨r, ⟨hr, hmr⟩, fun j v hv => ?_⟩
      have hj : j < k := by
        rcases Nat.lt_or_ge j k with h1 | h1
        · exact h1
        · rw [List.getElem?_eq_none (by rw [hf]; exact h1)] at hv; cases hv
      rw [hat j hj]
      exact hv
    have hpick : ∃ l : List α, l.length = len ∧ ∀ i (h : i < l.length), (ok l[i] ∧ m l[i] ≤ Rows.uptoBulk (D i)) ∧ ∀ j v, (f l[i])[j]? = some v → W.cell? ((a.add (i * k)).add j) = some v := by
      rcases Nat.eq_zero_or_pos len with h0 | h0
      · exact ⟨[], by simp [h0], fun i hi => absurd hi (by simp)⟩
      · haveI : Inhabited α := ⟨Classical.choose (hex 0 h0)⟩
        refine ⟨(List.range len).map fun i => if h : i < len then Classical.choose (hex i h) else default, by simp, fun i hi => ?_⟩
        have hi' : i < len := by simpa using hi
        have := Classical.choose_spec (hex i hi')
        simpa [hi'] using this
    obtain ⟨l, hll, hl2⟩ := hpick
    have hmax : maxLen = 9223372036854775807 := by rfl
    refine ⟨some a, l, cap, by rw [hll], ⟨?_, (fun h => by cases h), by rw [hll]; exact hl, by omega⟩, fun r hr => ?_, ?_⟩
    · intro i hi
      have hflat := flat_len f k hf l
      have hq : i / k < l.length := by
        rw [Nat.div_lt_iff_lt_mul hk]
        omega
      have hm2 : i % k < k := Nat.mod_lt _ hk
      have hsplit : i / k * k + i % k = i := Nat.div_add_mod' i k
      obtain ⟨-, hcell⟩ := hl2 (i / k) hq
      have hat := flat_at f k hf l (i / k) hq (i % k) hm2
      rw [hsplit] at hat
      have hget : (l.flatMap f)[i]? = some ((l.flatMap f).getD i undef) := by
        rw [List.getD_eq_getElem?_getD, List.getElem?_eq_getElem hi]
        rfl
      have h1 := hcell (i % k) ((l.flatMap f).getD i undef) (by rw [← hat]; exact hget)
      obtain ⟨b, o, sp⟩ := a
      have hsp : sp = none := by
        have h00 : 0 < l.length := Nat.lt_of_le_of_lt (Nat.zero_le _) hq
        have g0 := (hl2 0 h00).2 0 ((f l[0])[0]'(by rw [hf]; exact hk)) (List.getElem?_eq_getElem _)
        have := World.cell?_spot g0
        simpa [Addr.add] using this
      subst hsp
      rw [Lib.add_plain, Lib.add_plain, Nat.add_assoc, hsplit] at h1
      exact ⟨b, o, rfl, World.block_lt_of_cell? W _ h1, h1⟩
    · obtain ⟨i, hi, rfl⟩ := List.mem_iff_getElem.1 hr
      exact (hl2 i hi).1.1
    · have hs := bulk_sum m l D fun i hi => (hl2 i hi).1.2
      rw [hll] at hs
      rw [hx]
      simp only [Rows.uptoBulk]
      omega

end

section
variable {H : Type} {enc : TypeId × Value → H} {W : World}

theorem bulk_one (d : DataW H) : 1 ≤ Rows.uptoBulk d := by
  cases d with
  | lit l => cases l <;> simp [Rows.uptoBulk]
  | nil => simp [Rows.uptoBulk]
  | ptr d => simp [Rows.uptoBulk]
  | slice elems spare => simp [Rows.uptoBulk]
  | agg parts => simp [Rows.uptoBulk]
  | iface t d => simp [Rows.uptoBulk]
  | map entries => simp [Rows.uptoBulk]
  | held h => simp [Rows.uptoBulk]

/-- The fields of a struct, each with its cells and its reading. -/
theorem fields_ofB {t : TypeId} {fs : Array Field} {n : Nat} {cs : List Value} {y : DataW H × List MemPlace} (ht : Tryz.prog.underlying t = some (.struct fs)) (h : DataW.trod enc Tryz.prog W 0 (fun _ => true) true n t cs = some y) :
    ∃ m, ∃ xs : List (DataW H × List MemPlace), xs.length = fs.size ∧ y.1 = .agg (xs.map (·.1)) ∧ ∀ (i : Nat) (f : Field), fs[i]? = some f → ∃ z, xs[i]? = some z ∧ DataW.trod enc Tryz.prog W 0 (fun _ => true) true m f.type ((cs.drop f.offset).take (Tryz.prog.cellsOf f.type)) = some z := by
  obtain ⟨xs, m, _, hy, _, hxl, hfl⟩ := DataW.trod_struct ht h
  refine ⟨m, xs, hxl, by rw [hy], fun i f hf => ?_⟩
  have hi : i < xs.length := by rw [hxl]; exact (Array.getElem?_eq_some_iff.1 hf).1
  exact ⟨xs[i], List.getElem?_eq_getElem hi, by rw [hfl i f hf, List.getElem?_eq_getElem hi]⟩

theorem open_destsB {v : Value} {n : Nat} {y : DataW H × List MemPlace} (h : DataW.trod enc Tryz.prog W 0 (fun _ => true) true n 31 [v] = some y) :
    ∃ (A : Option Addr) (l : List Nat) (c : Nat), v = .slice A l.length c ∧ Cells W A (l.map U16) ∧ (A = none → c = 0) ∧ l.length ≤ c ∧ l.length ≤ 9223372036854775807 ∧ (∀ r ∈ l, r < 65536) ∧ l.length ≤ Rows.uptoBulk y.1 := by
  obtain ⟨A, l, c, rfl, hr, ho, hs⟩ := open_recsB (fun n : Nat => [U16 n]) (fun n => n < 65536) (fun _ => 1) (k := 1) (fun _ => rfl) (by omega) Tryz.underlying31 cells2 (fun cs n y hl h => by
    obtain ⟨z, h1, h2⟩ := u16_field h
    exact ⟨z, h1, h2, bulk_one _⟩) h
  have hm : l.flatMap (fun n : Nat => [U16 n]) = l.map U16 := by
    clear hr ho h hs
    induction l with
    | nil => rfl
    | cons a l ih => rw [List.flatMap_cons, ih]; rfl
  have hsum : (l.map fun _ => 1).sum = l.length := by
    clear hr ho h hs hm
    induction l with
    | nil => rfl
    | cons a l ih => rw [List.map_cons, List.sum_cons, ih, List.length_cons, Nat.add_comm]
  exact ⟨A, l, c, rfl, by rw [← hm]; exact hr.cells, hr.nil, hr.fit, hr.max, ho, by omega⟩

theorem open_chanB (cs : List Value) (n : Nat) (y : DataW H × List MemPlace) (hl : cs.length = 3) (h : DataW.trod enc Tryz.prog W 0 (fun _ => true) true n 34 cs = some y) : ∃ r : ChanC, (r.r.ok ∧ DestsIn W r) ∧ cs = chanV r ∧ r.r.dests.length + 1 ≤ Rows.uptoBulk y.1 := by
  obtain ⟨e0, e1, e2, rfl⟩ := list3 hl
  obtain ⟨m, xs, hxl, hy, hm⟩ := fields_ofB Tryz.underlying34 h
  have cd : Tryz.prog.cellsOf 31 = 1 := by kernel_rfl
  obtain ⟨_, -, f0⟩ := hm 0 _ rfl
  obtain ⟨_, -, f1⟩ := hm 1 _ rfl
  obtain ⟨y2, g2, f2⟩ := hm 2 _ rfl
  obtain ⟨z0, w0, h0⟩ := u16_field f0
  obtain ⟨z1, w1, h1⟩ := u16_field f1
  simp [cells2] at h0 h1
  have t2 : List.take (Tryz.prog.cellsOf 31) (List.drop 2 [e0, e1, e2]) = [e2] := by rw [cd]; rfl
  obtain ⟨A, l, c, h2, hc, hn, hf, hx, ho, hb⟩ := open_destsB (v := e2) (by rw [← t2]; exact f2)
  subst h0 h1 h2
  refine ⟨⟨⟨z0, z1, l⟩, A, c⟩, ⟨⟨w0, w1, ho⟩, ⟨hc, hn, hf, hx⟩⟩, rfl, ?_⟩
  have hp : y2.1 ∈ xs.map (·.1) := List.mem_map_of_mem (List.mem_of_getElem? g2)
  have hq := bulk_part hp
  rw [hy]
  simp only [Rows.uptoBulk]
  show l.length + 1 ≤ _
  omega

theorem sum_one {α : Type} (l : List α) : (l.map fun _ => 1).sum = l.length := by
  induction l with
  | nil => rfl
  | cons a l ih => rw [List.map_cons, List.sum_cons, ih, List.length_cons, Nat.add_comm]
theorem sum_ch (l : List ChanC) : (l.map fun r => r.r.dests.length + 1).sum = l.length + ((l.map (·.r)).map fun d => d.dests.length).sum := by
  induction l with
  | nil => rfl
  | cons a l ih =>
    simp only [List.map_cons, List.sum_cons, List.length_cons]
    rw [ih]
    omega
theorem open_partB (cs : List Value) (n : Nat) (y : DataW H × List MemPlace) (hl : cs.length = 4) (h : DataW.trod enc Tryz.prog W 0 (fun _ => true) true n 36 cs = some y) : ∃ r : PartR, r.ok ∧ cs = partV r ∧ 1 ≤ Rows.uptoBulk y.1 := by
  obtain ⟨r, a1, a2⟩ := open_part cs n y hl h
  exact ⟨r, a1, a2, bulk_one _⟩
theorem open_winB (cs : List Value) (n : Nat) (y : DataW H × List MemPlace) (hl : cs.length = 3) (h : DataW.trod enc Tryz.prog W 0 (fun _ => true) true n 45 cs = some y) : ∃ r : WinR, r.ok ∧ cs = winV r ∧ 1 ≤ Rows.uptoBulk y.1 := by
  obtain ⟨r, a1, a2⟩ := open_win cs n y hl h
  exact ⟨r, a1, a2, bulk_one _⟩
theorem open_regB (cs : List Value) (n : Nat) (y : DataW H × List MemPlace) (hl : cs.length = 5) (h : DataW.trod enc Tryz.prog W 0 (fun _ => true) true n 47 cs = some y) : ∃ r : RegR, r.ok ∧ cs = regV r ∧ 1 ≤ Rows.uptoBulk y.1 := by
  obtain ⟨r, a1, a2⟩ := open_reg cs n y hl h
  exact ⟨r, a1, a2, bulk_one _⟩
theorem open_portB (cs : List Value) (n : Nat) (y : DataW H × List MemPlace) (hl : cs.length = 6) (h : DataW.trod enc Tryz.prog W 0 (fun _ => true) true n 39 cs = some y) : ∃ r : PortR, r.ok ∧ cs = portV r ∧ 1 ≤ Rows.uptoBulk y.1 := by
  obtain ⟨r, a1, a2⟩ := open_port cs n y hl h
  exact ⟨r, a1, a2, bulk_one _⟩
theorem bulk5 {d0 d1 d2 d3 d4 d5 : DataW H} {xs : List (DataW H × List MemPlace)} {y0 y1 y2 y3 y4 y5 : DataW H × List MemPlace} (hl : xs.length = 6) (h1 : xs[1]? = some y1) (h2 : xs[2]? = some y2) (h3 : xs[3]? = some y3) (h4 : xs[4]? = some y4) (h5 : xs[5]? = some y5) :
    Rows.uptoBulk y1.1 + Rows.uptoBulk y2.1 + Rows.uptoBulk y3.1 + Rows.uptoBulk y4.1 + Rows.uptoBulk y5.1 ≤ Rows.uptoBulkAll (xs.map (·.1)) := by
  obtain ⟨a, b, c, d, e, f, rfl⟩ := list6 hl
  simp at h1 h2 h3 h4 h5
  subst h1 h2 h3 h4 h5
  simp only [List.map_cons, List.map_nil, Rows.uptoBulkAll]
  omega

set_option maxRecDepth 100000 in
/-- A configuration that is handed in, with its size. -/
theorem open_cfgB {v : Value} {d : DataW H} {p : List MemPlace} (hv : Value.okWide Tryz.prog W .any 0 30 v) (h : DataW.Trod enc Tryz.prog W 0 (fun _ => true) true 30 v d p) :
    ∃ (c : ConfR) (q : CfgQ), v = cfgV c q ∧ CfgIn W c q ∧ c.ps.length + c.ws.length + c.rs.length + c.ts.length + c.cs.length + c.links ≤ Rows.uptoBulk d := by
  obtain ⟨cs, rfl, hs⟩ := okWide_struct Tryz.underlying30 hv
  have hC : Tryz.prog.cellsOf 30 = 6 := by kernel_rfl
  rw [hC] at hs
  obtain ⟨fuel, hf⟩ := h
  obtain ⟨cs⟩ := cs
  obtain ⟨e0, e1, e2, e3, e4, e5, rfl⟩ := list6 (show cs.length = 6 from hs)
  obtain ⟨m, xs, hxl, hy, hm⟩ := fields_ofB Tryz.underlying30 hf
  have k1 : Tryz.prog.cellsOf 23 = 1 := by kernel_rfl
  have k2 : Tryz.prog.cellsOf 26 = 1 := by kernel_rfl
  have k3 : Tryz.prog.cellsOf 27 = 1 := by kernel_rfl
  have k4 : Tryz.prog.cellsOf 24 = 1 := by kernel_rfl
  have k5 : Tryz.prog.cellsOf 28 = 1 := by kernel_rfl
  obtain ⟨y0, g0, f0⟩ := hm 0 _ rfl
  obtain ⟨y1, g1, f1⟩ := hm 1 _ rfl
  obtain ⟨y2, g2, f2⟩ := hm 2 _ rfl
  obtain ⟨y3, g3, f3⟩ := hm 3 _ rfl
  obtain ⟨y4, g4, f4⟩ := hm 4 _ rfl
  obtain ⟨y5, g5, f5⟩ := hm 5 _ rfl
  obtain ⟨z0, w0, h0⟩ := u64_field f0
  simp [cells6, Value.cells] at h0
  have t1 : List.take (Tryz.prog.cellsOf 23) (List.drop 1 [e0, e1, e2, e3, e4, e5]) = [e1] := by rw [k1]; rfl
  have t2 : List.take (Tryz.prog.cellsOf 26) (List.drop 2 [e0, e1, e2, e3, e4, e5]) = [e2] := by rw [k2]; rfl
  have t3 : List.take (Tryz.prog.cellsOf 27) (List.drop 3 [e0, e1, e2, e3, e4, e5]) = [e3] := by rw [k3]; rfl
  have t4 : List.take (Tryz.prog.cellsOf 24) (List.drop 4 [e0, e1, e2, e3, e4, e5]) = [e4] := by rw [k4]; rfl
  have t5 : List.take (Tryz.prog.cellsOf 28) (List.drop 5 [e0, e1, e2, e3, e4, e5]) = [e5] := by rw [k5]; rfl
  obtain ⟨A1, l1, c1, h1, r1, o1, s1⟩ := open_recsB partV PartR.ok (fun _ => 1) (k := 4) (fun _ => rfl) (by omega) Tryz.underlying23 (by kernel_rfl) open_partB (v := e1) (by rw [← t1]; exact f1)
  obtain ⟨A2, l2, c2, h2, r2, o2, s2⟩ := open_recsB winV WinR.ok (fun _ => 1) (k := 3) (fun _ => rfl) (by omega) Tryz.underlying26 (by kernel_rfl) open_winB (v := e2) (by rw [← t2]; exact f2)
  obtain ⟨A3, l3, c3, h3, r3, o3, s3⟩ := open_recsB regV RegR.ok (fun _ => 1) (k := 5) (fun _ => rfl) (by omega) Tryz.underlying27 (by kernel_rfl) open_regB (v := e3) (by rw [← t3]; exact f3)
  obtain ⟨A4, l4, c4, h4, r4, o4, s4⟩ := open_recsB portV PortR.ok (fun _ => 1) (k := 6) (fun _ => rfl) (by omega) Tryz.underlying24 (by kernel_rfl) open_portB (v := e4) (by rw [← t4]; exact f4)
  obtain ⟨A5, l5, c5, h5, r5, o5, s5⟩ := open_recsB chanV (fun r => r.r.ok ∧ DestsIn W r) (fun r => r.r.dests.length + 1) (k := 3) (fun _ => rfl) (by omega) Tryz.underlying28 (by kernel_rfl) open_chanB (v := e5) (by rw [← t5]; exact f5)
  subst h0 h1 h2 h3 h4 h5
  refine ⟨⟨z0, l1, l2, l3, l4, l5.map (·.r)⟩, ⟨A1, c1, A2, c2, A3, c3, A4, c4, A5, c5, l5⟩, ?_, ⟨r1, r2, r3, r4, r5, rfl, fun x hx => (o5 x hx).2, w0, o1, o2, o3, o4, fun x hx => ?_⟩, ?_⟩
  · unfold cfgV
    simp
  · obtain ⟨y, hy, rfl⟩ := List.mem_map.1 hx
    exact (o5 y hy).1
  · have hb := bulk5 (d0 := y0.1) (d1 := y0.1) (d2 := y0.1) (d3 := y0.1) (d4 := y0.1) (d5 := y0.1) (y0 := y0) hxl g1 g2 g3 g4 g5
    have hch := sum_ch l5
    rw [sum_one] at s1
    rw [sum_one] at s2
    rw [sum_one] at s3
    rw [sum_one] at s4
    rw [hch] at s5
    have hd : d = .agg (xs.map (·.1)) := hy
    rw [hd]
    simp only [Rows.uptoBulk]
    show l1.length + l2.length + l3.length + l4.length + (l5.map (·.r)).length + ((l5.map (·.r)).map fun d => d.dests.length).sum ≤ _
    rw [List.length_map]
    omega

end

end Go.Proofs.YthdagjlgfffpbaaGreat
