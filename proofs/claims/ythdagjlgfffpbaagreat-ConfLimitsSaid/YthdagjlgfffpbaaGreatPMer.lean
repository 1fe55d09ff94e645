/-
  Layer 5 (conf): the program's Merge. By the verifier.
-/
import Derived.Test.YthdagjlgfffpbaaGreatPMst
set_option linter.unusedVariables false
namespace Go.Proofs.YthdagjlgfffpbaaGreat
open Go.RowKit

theorem MSt.stay {w W W' : World} {B : Nat} {K : List (Nat × Obj)} {c : ConfR} {q : CfgQ} {S : Nat → Prop} (h : MSt w B K W c q) (ht : Turn S W W') (hS : ∀ b, S b → w.heap.size ≤ b ∧ b ≠ B ∧ (∀ k ∈ K, b ≠ k.1) ∧ some b ∉ q.slots) : MSt w B K W' c q := by
  refine ⟨h.own.stay ht (fun b hb hs => (hS b hs).2.2.2 hb), ?_, Nat.lt_of_lt_of_le h.lt ht.size, h.ge, fun k hk => ⟨?_, Nat.lt_of_lt_of_le (h.keep k hk).2.1 ht.size, (h.keep k hk).2.2⟩, h.out, h.below.trans (ht.below (fun b hb => (hS b hb).1) h.below.size)⟩
  · rw [ht.block B h.lt (fun hs => (hS B hs).2.1 rfl)]
    exact h.all
  · rw [ht.block k.1 (h.keep k hk).2.1 (fun hs => (hS k.1 hs).2.2.1 k hk rfl)]
    exact (h.keep k hk).1

/-- A channel more. -/
theorem MSt.push {w W W' : World} {B : Nat} {K : List (Nat × Obj)} {c : ConfR} {q : CfgQ} (h : MSt w B K W c q) (x : ChanC) (hx : OwnC W w.heap.size 32 1 (.slice x.A x.r.dests.length x.cap) x.r.dests.length (x.r.dests.map U16))
    (hf : ∀ b, blk x.A = some b → some b ∉ q.slots ∧ b ≠ B ∧ ∀ k ∈ K, b ≠ k.1) {v' : Value} (ho : OwnC W' w.heap.size 34 3 v' (c.cs.length + 1) (q.ch.flatMap chanV ++ chanV x))
    (hg : W.grownBy W' (Value.ownBlock (.slice q.A5 c.cs.length q.c5))) (hn : v'.ownBlock = Value.ownBlock (.slice q.A5 c.cs.length q.c5) ∨ v'.ownBlock = some W.heap.size) :
    ∃ A' c', v' = .slice A' (c.cs.length + 1) c' ∧ App W W' 4 q A' ∧ MSt w B K (W'.setCell ⟨B, 5, none⟩ (.slice A' (c.cs.length + 1) c')) { c with cs := c.cs ++ [x.r] } { q with A5 := A', c5 := c', ch := q.ch ++ [x] } := by
  obtain ⟨A', c', rfl, -, -, -, -, -⟩ := ho.cells
  rw [own_blk] at hn hg
  rw [own_blk] at hn
  have hsl : q.slots[4]? = some (blk q.A5) := rfl
  have ha : App W W' 4 q A' := by
    refine ⟨(Turn.of_grown hg).mono fun b _ hb => by rw [hsl, hb], ?_⟩
    rcases hn with hn | hn
    · exact Or.inl (by rw [hsl, hn])
    · exact Or.inr hn
  obtain ⟨ht, hA, hK, hb⟩ := h.rest ha (.slice A' (c.cs.length + 1) c')
  obtain ⟨s1, s2, -, -⟩ := h.stays ha
  have hB : ∀ b, some b ∈ q.slots → b ≠ B := fun b hb => (h.out b hb).1
  have hss : ({ q with A5 := A', c5 := c', ch := q.ch ++ [x] } : CfgQ).slots = q.slots.set 4 (blk A') ++ [blk x.A] := by
    simp [CfgQ.slots]
  have hxn : ∀ b, blk x.A = some b → some b ∉ q.slots.set 4 (blk A') := by
    intro b hb hm
    rcases slots_set_mem hm with hm | hm
    · exact (hf b hb).1 hm
    · rcases ha.blk with h1 | h1
      · rw [← hm] at h1
        exact (hf b hb).1 (List.mem_of_getElem? h1)
      · rw [← hm] at h1
        injection h1 with h1
        have := (own_lt hx hb).2
        omega
  refine ⟨A', c', rfl, ha, ?_, ?_, Nat.lt_of_lt_of_le h.lt ht.size, h.ge, hK, fun b hb => ?_, hb⟩
  · refine ⟨?_, ?_, ?_, ?_, ?_, ?_, fun y hy => ?_, ?_⟩
    · exact own_stay h.own.ps ht (own_apart (w := w) (W := W) (base := 0) (c := c) h.own.sep hB (i := 4) (j := 0) (by omega) rfl)
    · exact own_stay h.own.ws ht (own_apart (w := w) (W := W) (base := 0) (c := c) h.own.sep hB (i := 4) (j := 1) (by omega) rfl)
    · exact own_stay h.own.rs ht (own_apart (w := w) (W := W) (base := 0) (c := c) h.own.sep hB (i := 4) (j := 2) (by omega) rfl)
    · exact own_stay h.own.ts ht (own_apart (w := w) (W := W) (base := 0) (c := c) h.own.sep hB (i := 4) (j := 3) (by omega) rfl)
    · have e1 : (c.cs ++ [x.r]).length = c.cs.length + 1 := by simp
      have e2 : (q.ch ++ [x]).flatMap chanV = q.ch.flatMap chanV ++ chanV x := by simp
      rw [e1, e2]
      exact own_stay (S := fun b => b = B) ho (Turn.setCell (S := fun b => b = B) (B := B) (Turn.refl _ _) rfl _) fun b hb => (hA b hb).1
    · simp [h.own.ch]
    · rcases List.mem_append.1 hy with hy | hy
      · obtain ⟨n, hn', hy'⟩ := List.mem_iff_getElem.1 hy
        refine own_stay (h.own.ds y hy) ht (own_apart (w := w) (W := W) (base := 0) (c := c) h.own.sep hB (i := 4) (j := 5 + n) (by omega) ?_)
        unfold CfgQ.slots
        rw [List.getElem?_append_right (by simp), List.getElem?_map]
        simp [hn', hy']
      · rw [List.mem_singleton] at hy
        subst hy
        refine own_stay hx ht fun b hb => ?_
        rintro (h1 | h1)
        · exact (hf b hb).1 (List.mem_of_getElem? h1)
        · exact (hf b hb).2.1 h1
    · rw [hss]
      exact (h.own.sep.set (N := W.heap.size) (fun b hb => (h.own.lt hb).2) ha.blk).push hxn
  · rw [heap_setCell_same _ _ _ _ _ _ s1]
    congr 2
    simp [cfgA]
  · rw [hss] at hb
    rcases List.mem_append.1 hb with hb | hb
    · rcases slots_set_mem hb with hb | hb
      · exact h.out b hb
      · exact hA b hb.symm
    · rw [List.mem_singleton] at hb
      exact (hf b hb.symm).2

def q0 : CfgQ := ⟨none, 0, none, 0, none, 0, none, 0, none, 0, []⟩
def cfg0 (frame : Nat) : ConfR := ⟨frame, [], [], [], [], []⟩
def zeroC : Array Value := #[.int .u64 0, .slice none 0 0, .slice none 0 0, .slice none 0 0, .slice none 0 0, .slice none 0 0]

theorem own0 (w : World) (base frame : Nat) : OwnCfg w base (cfg0 frame) q0 :=
  ⟨OwnC.nil _ _ _ _, OwnC.nil _ _ _ _, OwnC.nil _ _ _ _, OwnC.nil _ _ _ _, OwnC.nil _ _ _ _, rfl, fun x hx => (by cases hx), by simp [Sep, CfgQ.slots, q0, blk]⟩

/-- Configurations one after the other. -/
def mergeR (frame : Nat) (L : List ConfR) : ConfR := ⟨frame, L.flatMap (·.ps), L.flatMap (·.ws), L.flatMap (·.rs), L.flatMap (·.ts), L.flatMap (·.cs)⟩

theorem mergeR_zero (frame : Nat) : mergeR frame [] = cfg0 frame := rfl

/-- Merge begins. -/
theorem mst0 (w : World) (frame : Nat) : MSt w (w.heap.size + 1) [(w.heap.size, .cells zeroC 30)] ((w.alloc (.cells zeroC 30)).alloc (.cells (cfgA (cfg0 frame) q0) 30)) (cfg0 frame) q0 := by
  have hA : Below w.heap.size w (w.alloc (.cells zeroC 30)) := (Below.refl _ _).alloc (Nat.le_refl _) _
  have hs : (w.alloc (.cells zeroC 30)).heap.size = w.heap.size + 1 := by simp
  have hB : Below (w.alloc (.cells zeroC 30)).heap.size (w.alloc (.cells zeroC 30)) ((w.alloc (.cells zeroC 30)).alloc (.cells (cfgA (cfg0 frame) q0) 30)) := (Below.refl _ _).alloc (Nat.le_refl _) _
  refine ⟨own0 _ _ _, alloc2_row w _ _, by simp, by omega, fun k hk => ?_, fun b hb => ?_, hA.trans (hB.mono hA.size)⟩
  · rw [List.mem_singleton] at hk
    subst hk
    refine ⟨?_, by simp; omega, by simp⟩
    rw [hB.block _ (by omega)]
    exact heap_alloc_new w _
  · simp [CfgQ.slots, q0, blk] at hb

end Go.Proofs.YthdagjlgfffpbaaGreat

/-
  Layer 5 (conf): the program's Merge, walked. By the verifier.
-/
set_option linter.unusedVariables false
namespace Go.Proofs.YthdagjlgfffpbaaGreat
open Go.RowKit

theorem winV_c1 (x : WinR) : ∀ v ∈ winV x, v.oneCell' = true := by
  intro v hv
  simp only [winV, List.mem_cons, List.not_mem_nil, or_false] at hv
  rcases hv with rfl | rfl | rfl <;> rfl
theorem partV_c1 (x : PartR) : ∀ v ∈ partV x, v.oneCell' = true := by
  intro v hv
  simp only [partV, List.mem_cons, List.not_mem_nil, or_false] at hv
  rcases hv with rfl | rfl | rfl | rfl <;> rfl
theorem regV_c1 (x : RegR) : ∀ v ∈ regV x, v.oneCell' = true := by
  intro v hv
  simp only [regV, List.mem_cons, List.not_mem_nil, or_false] at hv
  rcases hv with rfl | rfl | rfl | rfl | rfl <;> rfl
theorem portV_c1 (x : PortR) : ∀ v ∈ portV x, v.oneCell' = true := by
  intro v hv
  simp only [portV, List.mem_cons, List.not_mem_nil, or_false] at hv
  rcases hv with rfl | rfl | rfl | rfl | rfl | rfl <;> rfl
theorem chanV_c1 (x : ChanC) : ∀ v ∈ chanV x, v.oneCell' = true := by
  intro v hv
  simp only [chanV, List.mem_cons, List.not_mem_nil, or_false] at hv
  rcases hv with rfl | rfl | rfl <;> rfl
theorem flat_one {α : Type} {f : α → List Value} (h : ∀ x, ∀ v ∈ f x, v.oneCell' = true) (l : List α) : ∀ v ∈ l.flatMap f, v.oneCell' = true := by
  intro v hv
  obtain ⟨x, -, hx⟩ := List.mem_flatMap.1 hv
  exact h x v hx

/-- Configuration k of a list of them. -/
theorem cfgs_at {w : World} {A : Option Addr} {L : List (ConfR × CfgQ)} (h : Cells w A (L.flatMap fun p => (cfgA p.1 p.2).toList)) {k : Nat} (hk : k < L.length) :
    ∃ b o, A = some ⟨b, o, none⟩ ∧ ∀ W, Below w.heap.size w W → ∀ j v, (cfgA L[k].1 L[k].2)[j]? = some v → W.cell? ⟨b, o + k * 6 + j, none⟩ = some v := by
  have hlen : (L.flatMap fun p => (cfgA p.1 p.2).toList).length = L.length * 6 := flat_len _ 6 (fun _ => rfl) L
  obtain ⟨b, o, rfl, hb, hc⟩ := h.some (by rw [hlen]; omega)
  refine ⟨b, o, rfl, fun W hW j v hv => ?_⟩
  have hj : j < 6 := (Array.getElem?_eq_some_iff.1 hv).1
  rw [bcell hW b _ hb, Nat.add_assoc]
  refine hc (k * 6 + j) v ?_
  rw [flat_at (fun p : ConfR × CfgQ => (cfgA p.1 p.2).toList) 6 (fun _ => rfl) L k hk j hj, Array.getElem?_toList]
  exact hv

theorem mergeR_succ (frame : Nat) {L : List ConfR} {k : Nat} (hk : k < L.length) : mergeR frame (L.take (k + 1)) =
    { frame := frame, ps := (mergeR frame (L.take k)).ps ++ L[k].ps, ws := (mergeR frame (L.take k)).ws ++ L[k].ws, rs := (mergeR frame (L.take k)).rs ++ L[k].rs, ts := (mergeR frame (L.take k)).ts ++ L[k].ts, cs := (mergeR frame (L.take k)).cs ++ L[k].cs } := by
  simp only [mergeR, List.take_succ_eq_append_getElem hk, List.flatMap_append, List.flatMap_singleton]

theorem flat_le {α β : Type} (f : α → List β) (n : Nat) : ∀ (l : List α), (∀ x ∈ l, (f x).length ≤ n) → (l.flatMap f).length ≤ l.length * n
  | [], _ => by simp
  | a :: l, h => by
    have h1 := h a (List.mem_cons_self ..)
    have h2 := flat_le f n l (fun x hx => h x (List.mem_cons_of_mem _ hx))
    rw [List.flatMap_cons, List.length_append, List.length_cons, Nat.add_mul, Nat.one_mul]
    omega
theorem mergeR_small (frame : Nat) (L : List ConfR) (h : ∀ c ∈ L, Small c 1000) (hL : L.length ≤ 100) : Small (mergeR frame L) 100000 := by
  refine ⟨?_, ?_, ?_, ?_, ?_, fun x hx => ?_⟩
  · have := flat_le (fun c : ConfR => c.ps) 1000 L (fun c hc => (h c hc).ps)
    show (L.flatMap (·.ps)).length ≤ _
    omega
  · have := flat_le (fun c : ConfR => c.ws) 1000 L (fun c hc => (h c hc).ws)
    show (L.flatMap (·.ws)).length ≤ _
    omega
  · have := flat_le (fun c : ConfR => c.rs) 1000 L (fun c hc => (h c hc).rs)
    show (L.flatMap (·.rs)).length ≤ _
    omega
  · have := flat_le (fun c : ConfR => c.ts) 1000 L (fun c hc => (h c hc).ts)
    show (L.flatMap (·.ts)).length ≤ _
    omega
  · have := flat_le (fun c : ConfR => c.cs) 1000 L (fun c hc => (h c hc).cs)
    show (L.flatMap (·.cs)).length ≤ _
    omega
  · obtain ⟨c, hc, hxc⟩ := List.mem_flatMap.1 (show x ∈ L.flatMap (·.cs) from hx)
    have := (h c hc).ds x hxc
    omega

theorem MSt.lt2 {w W : World} {B X : Nat} {o : Obj} {K : List (Nat × Obj)} {c : ConfR} {q : CfgQ} (h : MSt w B ((X, o) :: K) W c q) : X < W.heap.size ∧ X ≠ B := (h.keep _ (List.mem_cons_self ..)).2

/-- The destinations of a channel have been cloned. -/
structure ChSt (w : World) (B X : Nat) (K : List (Nat × Obj)) (c : ConfR) (q : CfgQ) (x : ChanR) (A' : Option Addr) (c' : Nat) (V : World) : Prop where
  st : MSt w B K V c q
  row : V.heap[X]? = some (.cells #[.int .u16 (x.id : Int), .int .u16 (x.src : Int), .slice A' x.dests.length c'] 34)
  own : OwnC V w.heap.size 32 1 (.slice A' x.dests.length c') x.dests.length (x.dests.map U16)
  new : ∀ b, blk A' = some b → some b ∉ q.slots ∧ b ≠ B ∧ ∀ k ∈ K, b ≠ k.1

theorem chan_step {w V0 V1 V2 : World} {B X : Nat} {K : List (Nat × Obj)} {c : ConfR} {q : CfgQ} {x : ChanR} {A1 A' : Option Addr} {n1 c1 c' : Nat}
    (h : MSt w B ((X, .cells #[.int .u16 (x.id : Int), .int .u16 (x.src : Int), .slice A1 n1 c1] 34) :: K) V1 c q) (hX : w.heap.size ≤ X) (ho : OwnC V1 V0.heap.size 32 1 (.slice A' x.dests.length c') x.dests.length (x.dests.map U16)) (h2 : V1.setCell ⟨X, 2, none⟩ (.slice A' x.dests.length c') = V2)
    (hK : ∀ k ∈ K, k.1 ≠ X) (h0 : MSt w B ((X, .cells #[.int .u16 (x.id : Int), .int .u16 (x.src : Int), .slice A1 n1 c1] 34) :: K) V0 c q) : ChSt w B X K c q x A' c' V2 := by
  subst h2
  have hk := h.keep _ (List.mem_cons_self ..)
  have hn : ∀ b, blk A' = some b → V0.heap.size ≤ b ∧ b < V1.heap.size := fun b hb => own_lt ho hb
  have hXl : X < V0.heap.size := h0.lt2.1
  refine ⟨(h.drop fun k hk => List.mem_cons_of_mem _ hk).stay (S := fun b => b = X) (Turn.setCell (S := fun b => b = X) (B := X) (Turn.refl _ _) rfl _) (fun b hb => ?_), ?_, ?_, fun b hb => ?_⟩
  · subst hb
    exact ⟨hX, hk.2.2, fun k hk' => (hK k hk').symm, fun hm => (h.out b hm).2 _ (List.mem_cons_self ..) rfl⟩
  · rw [heap_setCell_same _ _ _ _ _ _ hk.1]
    rfl
  · refine own_stay (S := fun b => b = X) (ho.base h0.below.size) (Turn.setCell (S := fun b => b = X) (B := X) (Turn.refl _ _) rfl _) fun b hb => ?_
    have := hn b hb
    omega
  · have hnb := hn b hb
    refine ⟨fun hm => ?_, ?_, fun k hk' => ?_⟩
    · have := (h0.own.lt hm).2
      omega
    · have := h0.lt
      omega
    · have := (h0.keep k (List.mem_cons_of_mem _ hk')).2.1
      omega

theorem chan_step2 {w V2 V3 : World} {B X Z : Nat} {K : List (Nat × Obj)} {c : ConfR} {q : CfgQ} {x : ChanR} {A' : Option Addr} {c' : Nat} (h : ChSt w B X K c q x A' c' V2)
    (h3 : V2.alloc (.cells #[.int .u16 (x.id : Int), .int .u16 (x.src : Int), .slice A' x.dests.length c'] 34) = V3) (hZ : Z = V2.heap.size) :
    MSt w B K V3 c q ∧ Cells V3 (some ⟨Z, 0, none⟩) (chanV ⟨x, A', c'⟩) ∧ OwnC V3 w.heap.size 32 1 (.slice A' x.dests.length c') x.dests.length (x.dests.map U16) ∧ ∀ b, blk A' = some b → some b ∉ q.slots ∧ b ≠ B ∧ ∀ k ∈ K, b ≠ k.1 := by
  subst h3 hZ
  have hb : Below V2.heap.size V2 (V2.alloc (.cells #[.int .u16 (x.id : Int), .int .u16 (x.src : Int), .slice A' x.dests.length c'] 34)) := (Below.refl _ _).alloc (Nat.le_refl _) _
  exact ⟨h.st.more hb, cells_lit V2 _ _ _ rfl, h.own.below hb, h.new⟩

theorem merge_end {w wr : World} {c : ConfR} {q : CfgQ} (h : MSt w (w.heap.size + 1) [(w.heap.size, .cells zeroC 30)] wr c q) : OwnCfg (wr.setRow w.heap.size (cfgA c q)) w.heap.size c q ∧ Below w.heap.size w (wr.setRow w.heap.size (cfgA c q)) := by
  have ht : Turn (fun b => b = w.heap.size) wr (wr.setRow w.heap.size (cfgA c q)) := ⟨rfl, rfl, rfl, by simp, fun k _ hk => setRow_other wr _ k _ hk⟩
  exact ⟨h.own.stay ht fun b hb he => (h.out b hb).2 _ (List.mem_cons_self ..) he, h.below.trans (ht.below (fun b hb => by rw [hb]; exact Nat.le_refl _) h.below.size)⟩

/-- What Merge leaves when it is at its loop. -/
def MAt (w : World) (frame : Nat) (L : List ConfR) (wr : World) : Prop := ∃ q, MSt w (w.heap.size + 1) [(w.heap.size, .cells zeroC 30)] wr (mergeR frame L) q

set_option maxHeartbeats 8000000 in
theorem merge_ok (frame : Nat) (L : List (ConfR × CfgQ)) (A : Option Addr) (cap : Nat) (w : World) (hA : Cells w A (L.flatMap fun p => (cfgA p.1 p.2).toList)) (hin : ∀ p ∈ L, CfgIn w p.1 p.2 ∧ Small p.1 1000) (hL : L.length ≤ 100) :
    Calls Tryz.prog 32 #[.int .u64 (frame : Int), .slice A L.length cap] w fun e w' => ∃ q, e = .returned (cfgV (mergeR frame (L.map (·.1))) q) ∧ OwnCfg w' w.heap.size (mergeR frame (L.map (·.1))) q ∧ Below w.heap.size w w' := by
  have HAT := Lib.hid (fun (k : Nat) (hk : k < L.length) => cfgs_at hA hk)
  have HIN := Lib.hid hin
  have HLM : Hid ((L.map (·.1)).length = L.length) := Lib.hid (by simp)
  obtain ⟨M, hM⟩ : ∃ M, M = L.map (·.1) := ⟨_, rfl⟩
  have HM := Lib.hid hM
  have HSM : Hid (∀ k, k ≤ L.length → Small (mergeR frame (M.take k)) 100000) := Lib.hid (fun k hk => mergeR_small frame _ (fun c hc => by
    rw [hM] at hc
    obtain ⟨p, hp, rfl⟩ := List.mem_map.1 (List.mem_of_mem_take hc)
    exact (hin p hp).2) (by rw [List.length_take]; omega))
  rw [← hM] at HLM ⊢
  obtain ⟨W1, hW1⟩ : ∃ W1, W1 = (w.alloc (.cells zeroC 30)).alloc (.cells (cfgA (cfg0 frame) q0) 30) := ⟨_, rfl⟩
  have HM0 : Hid (MAt w frame (M.take 0) W1) := Lib.hid (by rw [hW1]; exact ⟨q0, mst0 w frame⟩)
  have hbox : (w.alloc (.cells #[.int .u64 0, .slice none 0 0, .slice none 0 0, .slice none 0 0, .slice none 0 0, .slice none 0 0] 30)).alloc (.cells #[.int .u64 (frame : Int), .slice none 0 0, .slice none 0 0, .slice none 0 0, .slice none 0 0, .slice none 0 0] 30) = W1 := hW1.symm
  have HBOX := Lib.hid hbox
  clear hA hin hM hW1 hbox
  go_enter Tryz.func32, Tryz.ntmps32
  go_wp2_with fail
  rw [HBOX.out]
  clear HBOX
  go_loopw [14] (fun i wr => ∃ k : Nat, k ≤ L.length ∧ i = .int .i64 (k : Int) ∧ Hid (MAt w frame (M.take k) wr)) (fun i _ => L.length - (intOf i).toNat)
  case atStart => exact ⟨0, by omega, rfl, HM0⟩
  case round =>
    obtain ⟨k, hk, rfl, hq⟩ := hrel
    obtain ⟨q, hst⟩ := hq.out
    by_cases hlt : k < L.length
    · have hki : (k : Int) < (L.length : Int) := by omega
      obtain ⟨b, o, rfl, hcell⟩ := HAT.out k hlt
      have HSRC := Lib.hid (HIN.out L[k] (List.getElem_mem hlt))
      have hMk : M[k]'(by rw [HLM.out]; exact hlt) = L[k].1 := by
        have := HM.out
        subst this
        simp
      have HSUC := Lib.hid (mergeR_succ frame (L := M) (k := k) (by rw [HLM.out]; exact hlt))
      rw [hMk] at HSUC
      have HSA := Lib.hid (HSM.out k hk)
      clear hq hMk
      generalize hp : L[k] = p at *
      obtain ⟨p, s⟩ := p
      have HFR : Hid ((mergeR frame (M.take k)).frame = frame) := Lib.hid rfl
      generalize mergeR frame (M.take k) = c at *
      have HSR : Hid (CfgIn w p s ∧ Small p 1000) := HSRC
      clear HSRC
      have hc0 : wr.cell? ⟨b, o + k * 6, none⟩ = some (.int .u64 (p.frame : Int)) := hcell wr hst.below 0 _ rfl
      have hc1 : wr.cell? ⟨b, o + k * 6 + 1, none⟩ = some (.slice s.A1 p.ps.length s.c1) := hcell wr hst.below 1 _ rfl
      have hc2 : wr.cell? ⟨b, o + k * 6 + 2, none⟩ = some (.slice s.A2 p.ws.length s.c2) := hcell wr hst.below 2 _ rfl
      have hc3 : wr.cell? ⟨b, o + k * 6 + 3, none⟩ = some (.slice s.A3 p.rs.length s.c3) := hcell wr hst.below 3 _ rfl
      have hc4 : wr.cell? ⟨b, o + k * 6 + 4, none⟩ = some (.slice s.A4 p.ts.length s.c4) := hcell wr hst.below 4 _ rfl
      have hc5 : wr.cell? ⟨b, o + k * 6 + 5, none⟩ = some (.slice s.A5 p.cs.length s.c5) := hcell wr hst.below 5 _ rfl
      obtain ⟨C, hC⟩ : ∃ C, C = wr.heap.size := ⟨_, rfl⟩
      obtain ⟨U0, hU0⟩ : ∃ U0, wr.alloc (.cells (cfgA p s) 30) = U0 := ⟨_, rfl⟩
      have hs0 := hst.hold (.cells (cfgA p s) 30)
      rw [← hC, hU0] at hs0
      have hboxC : wr.alloc (.cells #[.int .u64 (p.frame : Int), .slice s.A1 p.ps.length s.c1, .slice s.A2 p.ws.length s.c2, .slice s.A3 p.rs.length s.c3, .slice s.A4 p.ts.length s.c4, .slice s.A5 p.cs.length s.c5] 30) = U0 := hU0
      have hCs : wr.heap.size = C := hC.symm
      have HS0 := Lib.hid hs0
      have e1 : U0.cell? ⟨w.heap.size + 1, 1, none⟩ = some (.slice q.A1 c.ps.length q.c1) := hs0.cell 1
      have f1 : U0.cell? ⟨C, 1, none⟩ = some (.slice s.A1 p.ps.length s.c1) := hs0.kept (List.mem_cons_self ..) 1
      clear hcell hst hs0 hU0 hC hp
      go_wp2_with (first
        | (refine wpList_append_any elemP rfl (.tmp 19) (.tmp 21) rfl w.heap.size (.slice q.A1 c.ps.length q.c1) c.ps.length (c.ps.flatMap partV) rfl HS0.out.own.ps s.A1 p.ps.length s.c1 (p.ps.flatMap partV) rfl (HSR.out.1.ps.cells.below (Nat.le_refl _) HS0.out.below) (flat_len partV 4 (fun _ => rfl) _) (flat_one partV_c1 _) HSR.out.1.ps.nil (by have := HSA.out.ps; have := HSR.out.2.ps; omega) HS0.out.below.size ?_; intro v1 V1 ho1 hg1 hn1; obtain ⟨A1, c1, rfl, ha1, hs1⟩ := HS0.out.app1 p.ps ho1 hg1 hn1; obtain ⟨-, -, g1, z1⟩ := HS0.out.stays ha1; have g1' : V1.cell? ⟨w.heap.size + 1, 1, none⟩ = some (.slice q.A1 c.ps.length q.c1) := g1; obtain ⟨U1, hU1⟩ : ∃ U, V1.setCell ⟨w.heap.size + 1, 1, none⟩ (.slice A1 (c.ps.length + p.ps.length) c1) = U := ⟨_, rfl⟩; rw [hU1] at hs1; have e2 : U1.cell? ⟨w.heap.size + 1, 2, none⟩ = some (.slice q.A2 c.ws.length q.c2) := hs1.cell 2; have f2 : U1.cell? ⟨C, 2, none⟩ = some (.slice s.A2 p.ws.length s.c2) := hs1.kept (List.mem_cons_self ..) 2; have HS1 := Lib.hid hs1; clear hs1 ho1 hg1 hn1 ha1 g1)
        | (refine wpList_append_any elemW rfl (.tmp 25) (.tmp 27) rfl w.heap.size (.slice q.A2 c.ws.length q.c2) c.ws.length (c.ws.flatMap winV) rfl HS1.out.own.ws s.A2 p.ws.length s.c2 (p.ws.flatMap winV) rfl (HSR.out.1.ws.cells.below (Nat.le_refl _) HS1.out.below) (flat_len winV 3 (fun _ => rfl) _) (flat_one winV_c1 _) HSR.out.1.ws.nil (by have := HSA.out.ws; have := HSR.out.2.ws; omega) HS1.out.below.size ?_; intro v2 V2 ho2 hg2 hn2; obtain ⟨A2, c2, rfl, ha2, hs2⟩ := HS1.out.app2 p.ws ho2 hg2 hn2; obtain ⟨-, -, g2, z2⟩ := HS1.out.stays ha2; have g2' : V2.cell? ⟨w.heap.size + 1, 2, none⟩ = some (.slice q.A2 c.ws.length q.c2) := g2; obtain ⟨U2, hU2⟩ : ∃ U, V2.setCell ⟨w.heap.size + 1, 2, none⟩ (.slice A2 (c.ws.length + p.ws.length) c2) = U := ⟨_, rfl⟩; rw [hU2] at hs2; have e3 : U2.cell? ⟨w.heap.size + 1, 3, none⟩ = some (.slice q.A3 c.rs.length q.c3) := hs2.cell 3; have f3 : U2.cell? ⟨C, 3, none⟩ = some (.slice s.A3 p.rs.length s.c3) := hs2.kept (List.mem_cons_self ..) 3; have HS2 := Lib.hid hs2; clear hs2 ho2 hg2 hn2 ha2 g2)
        | (refine wpList_append_any elemR rfl (.tmp 31) (.tmp 33) rfl w.heap.size (.slice q.A3 c.rs.length q.c3) c.rs.length (c.rs.flatMap regV) rfl HS2.out.own.rs s.A3 p.rs.length s.c3 (p.rs.flatMap regV) rfl (HSR.out.1.rs.cells.below (Nat.le_refl _) HS2.out.below) (flat_len regV 5 (fun _ => rfl) _) (flat_one regV_c1 _) HSR.out.1.rs.nil (by have := HSA.out.rs; have := HSR.out.2.rs; omega) HS2.out.below.size ?_; intro v3 V3 ho3 hg3 hn3; obtain ⟨A3, c3, rfl, ha3, hs3⟩ := HS2.out.app3 p.rs ho3 hg3 hn3; obtain ⟨-, -, g3, z3⟩ := HS2.out.stays ha3; have g3' : V3.cell? ⟨w.heap.size + 1, 3, none⟩ = some (.slice q.A3 c.rs.length q.c3) := g3; obtain ⟨U3, hU3⟩ : ∃ U, V3.setCell ⟨w.heap.size + 1, 3, none⟩ (.slice A3 (c.rs.length + p.rs.length) c3) = U := ⟨_, rfl⟩; rw [hU3] at hs3; have e4 : U3.cell? ⟨w.heap.size + 1, 4, none⟩ = some (.slice q.A4 c.ts.length q.c4) := hs3.cell 4; have f4 : U3.cell? ⟨C, 4, none⟩ = some (.slice s.A4 p.ts.length s.c4) := hs3.kept (List.mem_cons_self ..) 4; have HS3 := Lib.hid hs3; clear hs3 ho3 hg3 hn3 ha3 g3)
        | (refine wpList_append_any elemT rfl (.tmp 37) (.tmp 39) rfl w.heap.size (.slice q.A4 c.ts.length q.c4) c.ts.length (c.ts.flatMap portV) rfl HS3.out.own.ts s.A4 p.ts.length s.c4 (p.ts.flatMap portV) rfl (HSR.out.1.ts.cells.below (Nat.le_refl _) HS3.out.below) (flat_len portV 6 (fun _ => rfl) _) (flat_one portV_c1 _) HSR.out.1.ts.nil (by have := HSA.out.ts; have := HSR.out.2.ts; omega) HS3.out.below.size ?_; intro v4 V4 ho4 hg4 hn4; obtain ⟨A4, c4, rfl, ha4, hs4⟩ := HS3.out.app4 p.ts ho4 hg4 hn4; obtain ⟨-, -, g4, z4⟩ := HS3.out.stays ha4; have g4' : V4.cell? ⟨w.heap.size + 1, 4, none⟩ = some (.slice q.A4 c.ts.length q.c4) := g4; obtain ⟨U4, hU4⟩ : ∃ U, V4.setCell ⟨w.heap.size + 1, 4, none⟩ (.slice A4 (c.ts.length + p.ts.length) c4) = U := ⟨_, rfl⟩; rw [hU4] at hs4; have f5 : U4.cell? ⟨C, 5, none⟩ = some (.slice s.A5 p.cs.length s.c5) := hs4.kept (List.mem_cons_self ..) 5; have HS4 := Lib.hid hs4; clear hs4 ho4 hg4 hn4 ha4 g4))
      have HI0 : Hid (∃ q2, MSt w (w.heap.size + 1) [(C, .cells (cfgA p s) 30), (w.heap.size, .cells zeroC 30)] U4 { frame := frame, ps := c.ps ++ p.ps, ws := c.ws ++ p.ws, rs := c.rs ++ p.rs, ts := c.ts ++ p.ts, cs := c.cs ++ p.cs.take 0 } q2) := Lib.hid ⟨_, by
        have h := HS4.out
        rw [List.take_zero, List.append_nil]
        rw [← HFR.out]
        exact h⟩
      clear HS0 HS1 HS2 HS3 HS4 e1 e2 e3 e4 f1 f2 f3 f4 f5 hc0 hc1 hc2 hc3 hc4 hc5 hboxC g1' g2' g3' g4' z1 z2 z3 z4 hU1 hU2 hU3 hU4 hCs
      go_loopw [45] (fun i wr2 => ∃ j : Nat, j ≤ p.cs.length ∧ i = .int .i64 (j : Int) ∧ Hid (∃ q2, MSt w (w.heap.size + 1) [(C, .cells (cfgA p s) 30), (w.heap.size, .cells zeroC 30)] wr2 { frame := frame, ps := c.ps ++ p.ps, ws := c.ws ++ p.ws, rs := c.rs ++ p.rs, ts := c.ts ++ p.ts, cs := c.cs ++ p.cs.take j } q2)) (fun i _ => p.cs.length - (intOf i).toNat)
      case atStart => exact ⟨0, by omega, rfl, HI0⟩
      case round =>
        obtain ⟨j, hj, rfl, hq2⟩ := hrel
        obtain ⟨q2, hst2⟩ := hq2.out
        obtain ⟨E, hE⟩ : ∃ E, E = c.cs ++ p.cs.take j := ⟨_, rfl⟩
        rw [← hE] at hst2
        have HEE := Lib.hid hE
        have HSZ : Hid (E.length ≤ 200000) := Lib.hid (by rw [hE, List.length_append, List.length_take]; have := HSR.out.2.cs; have := HSA.out.cs; omega)
        clear hE
        by_cases hlt2 : j < p.cs.length
        · have hji : (j : Int) < (p.cs.length : Int) := by omega
          have hwj : wrap64 ((j : Int) + 1) = (j : Int) + 1 := by have := HSR.out.2.cs; unfold wrap64; omega
          obtain ⟨hsj, hsr⟩ := HSR.out.1.chan (i := j) hlt2
          have hsin := HSR.out.1.ds s.ch[j] (List.getElem_mem hsj)
          have hds : (s.ch[j]).r.dests.length ≤ 1000 := by rw [hsr]; exact HSR.out.2.ds _ (List.getElem_mem hlt2)
          obtain ⟨b5, o5, hA5, -, hx⟩ := (HSR.out.1.cs.below (Nat.le_refl _) hst2.below).at 3 chanV_len (by omega) (i := j) hsj
          have HTK : Hid (p.cs.take (j + 1) = p.cs.take j ++ [(s.ch[j]).r]) := Lib.hid (by rw [hsr]; exact List.take_succ_eq_append_getElem hlt2)
          have hx0 : wr.cell? ⟨b5, o5 + j * 3, none⟩ = some (.int .u16 ((s.ch[j]).r.id : Int)) := hx 0 _ rfl
          have hx1 : wr.cell? ⟨b5, o5 + j * 3 + 1, none⟩ = some (.int .u16 ((s.ch[j]).r.src : Int)) := hx 1 _ rfl
          have hx2 : wr.cell? ⟨b5, o5 + j * 3 + 2, none⟩ = some (.slice (s.ch[j]).A (s.ch[j]).r.dests.length (s.ch[j]).cap) := hx 2 _ rfl
          have HDS := Lib.hid (And.intro hsin hds)
          clear hq2 hx hsin hds hsr
          generalize s.ch[j] = x at *
          obtain ⟨X, hX⟩ : ∃ X, X = wr.heap.size := ⟨_, rfl⟩
          obtain ⟨V0, hV0⟩ : ∃ V0, wr.alloc (.cells #[.int .u16 (x.r.id : Int), .int .u16 (x.r.src : Int), .slice x.A x.r.dests.length x.cap] 34) = V0 := ⟨_, rfl⟩
          have hr0 := hst2.hold (.cells #[.int .u16 (x.r.id : Int), .int .u16 (x.r.src : Int), .slice x.A x.r.dests.length x.cap] 34)
          rw [← hX, hV0] at hr0
          have hXs : wr.heap.size = X := hX.symm
          have HR0 := Lib.hid hr0
          have HKX : Hid (∀ k ∈ [(C, Obj.cells (cfgA p s) 30), (w.heap.size, Obj.cells zeroC 30)], k.1 ≠ X) := Lib.hid (fun k hk => by have := (hst2.keep k hk).2.1; omega)
          have HXW : Hid (w.heap.size ≤ X) := Lib.hid (by rw [hX]; exact hst2.below.size)
          have y2 : V0.cell? ⟨X, 2, none⟩ = some (.slice x.A x.r.dests.length x.cap) := hr0.kept (List.mem_cons_self ..) 2
          have HCL := Lib.hid (sclone_ok x.r.dests x.A x.cap V0 (HDS.out.1.cells.below (Nat.le_refl _) hr0.below) HDS.out.1.nil HDS.out.2)
          clear hst2 hr0 hX
          go_wp2_with fail
          refine HCL.out.mono ?_
          rintro e V1 ⟨v, rfl, ho, hb⟩
          obtain ⟨A', c', rfl, -, -, -, -, -⟩ := ho.cells
          have hr1 := HR0.out.more hb
          have HX1 : Hid (V1.heap[X]? = some (.cells #[.int .u16 (x.r.id : Int), .int .u16 (x.r.src : Int), .slice x.A x.r.dests.length x.cap] 34)) := Lib.hid (hr1.keep _ (List.mem_cons_self ..)).1
          have y2' : V1.cell? ⟨X, 2, none⟩ = some (.slice x.A x.r.dests.length x.cap) := cell_of_row _ _ 2 _ _ _ HX1.out
          have y2f : V1.frozen? ⟨X, 2, none⟩ = false := frozen_of_row _ _ _ _ _ HX1.out
          obtain ⟨V2, hV2⟩ : ∃ V2, V1.setCell ⟨X, 2, none⟩ (.slice A' x.r.dests.length c') = V2 := ⟨_, rfl⟩
          have HP2 := Lib.hid (chan_step hr1 HXW.out ho hV2 HKX.out HR0.out)
          have t0 : V2.cell? ⟨X, 0, none⟩ = some (.int .u16 (x.r.id : Int)) := cell_of_row _ _ 0 _ _ _ HP2.out.row
          have t1 : V2.cell? ⟨X, 1, none⟩ = some (.int .u16 (x.r.src : Int)) := cell_of_row _ _ 1 _ _ _ HP2.out.row
          have t2 : V2.cell? ⟨X, 2, none⟩ = some (.slice A' x.r.dests.length c') := cell_of_row _ _ 2 _ _ _ HP2.out.row
          have t5 : V2.cell? ⟨w.heap.size + 1, 5, none⟩ = some (.slice q2.A5 E.length q2.c5) := HP2.out.st.cell 5
          obtain ⟨V3, hV3⟩ : ∃ V3, V2.alloc (.cells #[.int .u16 (x.r.id : Int), .int .u16 (x.r.src : Int), .slice A' x.r.dests.length c'] 34) = V3 := ⟨_, rfl⟩
          have hs2 : ∃ Z, Z = V2.heap.size := ⟨_, rfl⟩
          obtain ⟨Z, hZ⟩ := hs2
          have hZ' := hZ.symm
          have HP3 := Lib.hid (chan_step2 HP2.out hV3 hZ)
          clear hr1 ho hb y2 hZ HX1
          go_wp2_with (first
            | (refine wpList_append_any elemC rfl (.tmp 54) (.tmp 56) rfl w.heap.size (.slice q2.A5 E.length q2.c5) E.length (q2.ch.flatMap chanV) rfl HP3.out.1.own.cs (some ⟨Z, 0, none⟩) 1 1 (chanV ⟨x.r, A', c'⟩) rfl HP3.out.2.1 rfl (chanV_c1 _) (fun h => by cases h) (by have := HSZ.out; omega) HP3.out.1.below.size ?_; intro v5 V5 ho5 hg5 hn5; obtain ⟨A5, c5, rfl, ha5, hs5⟩ := HP3.out.1.push ⟨x.r, A', c'⟩ HP3.out.2.2.1 HP3.out.2.2.2 ho5 hg5 hn5; obtain ⟨-, -, g5, z5⟩ := HP3.out.1.stays ha5; have g5' : V5.cell? ⟨w.heap.size + 1, 5, none⟩ = some (.slice q2.A5 E.length q2.c5) := g5; have HS5 := Lib.hid hs5; clear hs5 ho5 hg5 hn5 ha5 g5))
          go_roundw
          case rel => exact ⟨j + 1, by omega, by go_num, Lib.hid ⟨_, by rw [HTK.out, ← List.append_assoc, ← HEE.out]; exact HS5.out⟩⟩
          case measure => simp [intOf]; omega
        · have hji : ¬ (j : Int) < (p.cs.length : Int) := by omega
          have hjj : j = p.cs.length := by omega
          have hwk : wrap64 ((k : Int) + 1) = (k : Int) + 1 := by unfold wrap64; omega
          subst hjj
          have HE : Hid (MAt w frame (M.take (k + 1)) wr) := Lib.hid ⟨q2, by rw [HEE.out, List.take_length] at hst2; rw [HSUC.out]; exact hst2.drop (fun k hk => List.mem_cons_of_mem _ hk)⟩
          clear hst2 hq2
          go_wp2_with fail
          go_roundw
          case rel => exact ⟨k + 1, by omega, by go_num, HE⟩
          case measure => simp [intOf]; omega
    · have hki : ¬ (k : Int) < (L.length : Int) := by omega
      have hkk : M.take k = M := List.take_of_length_le (by have := HLM.out; omega)
      rw [hkk] at hst
      obtain ⟨R, hR⟩ : ∃ R, R = w.heap.size := ⟨_, rfl⟩
      have hall := hst.all
      have hres := (hst.keep _ (List.mem_cons_self ..)).1
      obtain ⟨c, hcM⟩ : ∃ c, c = mergeR frame M := ⟨_, rfl⟩
      rw [← hcM] at hst hall
      have HCM := Lib.hid hcM
      have HF := Lib.hid (merge_end hst)
      obtain ⟨NV, hNV⟩ : ∃ NV, NV = cfgA c q := ⟨_, rfl⟩
      have hz : NV.size = 6 := by rw [hNV]; rfl
      have HZ := Lib.hid hz
      have HI : Hid ((Tryz.prog.info? 30).map (·.size) = some NV.size) := Lib.hid (by rw [hz]; kernel_rfl)
      have HO : Hid (zeroC.size = NV.size ∧ NV.all (·.oneCell') = true) := Lib.hid (by rw [hNV]; refine ⟨rfl, ?_⟩; simp only [cfgA, List.all_toArray, List.all_cons, List.all_nil]; rfl)
      rw [← hNV] at hall
      have HALL := Lib.hid hall
      have HRES := Lib.hid hres
      have HV : Hid (cfgV c q = .agg NV) := Lib.hid (by rw [hNV]; rfl)
      rw [← hNV] at HF
      clear hall hres hst hq hkk hz hNV hcM
      go_wp2_with (first
        | (with_reducible refine load_cfg rfl (.tmp 5) rfl (w.heap.size + 1) rfl NV HZ.out HALL.out ?_)
        | (with_reducible refine wpList_store_row rfl _ _ _ rfl w.heap.size NV rfl rfl _ _ HRES.out HI.out HO.out.1 HO.out.2 ?_))
      refine bodyPost_ret (v := .agg NV) ?_ rfl ⟨q, by rw [← HCM.out, HV.out], by rw [← HCM.out]; exact HF.out.1, HF.out.2⟩
      exact results_cell_row rfl _ _ w.heap.size _ NV _ _ rfl (setRow_heap wr _ _ _ _ _ HRES.out) Tryz.underlying30 rfl HI.out

end Go.Proofs.YthdagjlgfffpbaaGreat
