/-
  SORTING A ROW OF THE CALL'S OWN by the library's slices.SortFunc, of no layer: rows of records of k cells, whatever the comparison. By the verifier.
-/
import Derived.Test.YthdagjlgfffpbaaGreatPRec
import Derived.Test.YthdagjlgfffpbaaGreatShelf
set_option linter.unusedVariables false
namespace Go.Proofs.YthdagjlgfffpbaaGreat
open Go.RowKit Go.Sort Go.Lib

theorem gr_of {w w' : World} (h : Gd w w') : ∃ q os', w' = grow (w.drewN q) os' := by
  obtain ⟨⟨h1, h2, h3, h4, h5⟩, h6⟩ := h
  obtain ⟨H, T, D, O, U⟩ := w
  obtain ⟨H', T', D', O', U'⟩ := w'
  simp only at h1 h2 h3 h4 h5 h6
  subst h1 h2 h3
  refine ⟨D' - D, H'.extract H.size H'.size, ?_⟩
  have e1 : D + (D' - D) = D' := by omega
  have e2 : H' = H ++ H'.extract H.size H'.size := by
    apply Array.ext_getElem?
    intro i
    rw [Array.getElem?_append]
    split
    · rename_i hi
      exact h5 i hi
    · rename_i hi
      rw [Array.getElem?_extract]
      by_cases hl : i < H'.size
      · rw [if_pos (by omega)]
        congr 1
        omega
      · rw [if_neg (by omega), Array.getElem?_eq_none (by omega)]
  unfold grow World.drewN
  simp only [e1]
  congr 1

theorem sortW_turn {α : Type} [Inhabited α] (enc : α → List Value) (k : Nat) (w : World) (blk off m : Nat) (d : Array α) (os : Array Obj) (hb : blk < w.heap.size) : Turn (fun b => b = blk) w (sortWorldK enc k w blk off m d os) ∧ w.drawn ≤ (sortWorldK enc k w blk off m d os).drawn := by
  refine ⟨⟨rfl, rfl, rfl, ?_, fun i hi hn => ?_⟩, Nat.le_add_right _ _⟩
  · show w.heap.size ≤ ((w.heap.modify blk _) ++ os).size
    simp
  · show ((w.heap.modify blk _) ++ os)[i]? = _
    rw [Array.getElem?_append_left (by simpa using hi), Array.getElem?_modify, if_neg (fun h => hn h.symm)]

theorem flatK_list {α : Type} [Inhabited α] (enc : α → List Value) (k : Nat) (k0 : 0 < k) (hk : ∀ x, (enc x).length = k) (d : Array α) (t : Nat) (ht : t < d.size * k) : (d.toList.flatMap enc)[t]? = some (flatK enc k d)[t]! := by
  have hd := Nat.div_add_mod t k
  have hi : t / k < d.size := Nat.div_lt_of_lt_mul (by rw [Nat.mul_comm]; exact ht)
  have hm := Nat.mod_lt t k0
  have e : t = t / k * k + t % k := by rw [Nat.mul_comm]; omega
  have h1 : (d.toList.flatMap enc)[t / k * k + t % k]? = (enc d.toList[t / k])[t % k]? := flat_at enc k hk d.toList (t / k) (by simpa using hi) (t % k) hm
  rw [← e] at h1
  rw [h1, get_flatK _ _ _ _ ht, getElem!_pos d _ hi, getElem!_pos _ _ (by rw [hk]; exact hm), Array.getElem_toList, List.getElem?_eq_getElem (by rw [hk]; exact hm)]

theorem own_holds {α : Type} [Inhabited α] (enc : α → List Value) (k : Nat) (k0 : 0 < k) (hk : ∀ x, (enc x).length = k) (l : List α) {w : World} {base : Nat} {e : TypeId} {v : Value} (ho : OwnC w base e k v l.length (l.flatMap enc)) (h0 : 0 < l.length) :
    ∃ g c, v = .slice (some ⟨g, 0, none⟩) l.length c ∧ g < w.heap.size ∧ HoldsK enc k w g 0 l.toArray ∧
      ∀ (d : Array α) m os, d.size = l.length → OwnC (sortWorldK enc k w g 0 m d os) base e k v l.length (d.toList.flatMap enc) := by
  have hlen := ho.1
  rcases ho.2 with ⟨-, hn⟩ | ⟨g, cap, cur, hv, hb, hg, hnc, hcm, hcs, htk⟩
  · omega
  · have hlt : g < w.heap.size := by
      rcases Nat.lt_or_ge g w.heap.size with h1 | h1
      · exact h1
      · rw [Array.getElem?_eq_none h1] at hg; cases hg
    have hle : l.length * k ≤ cur.size := by rw [hcs]; exact Nat.mul_le_mul_right k hnc
    refine ⟨g, cap, hv, hlt, fun j hj => ?_, fun d m os hd => ⟨?_, .inr ⟨g, cap, putCells id 0 (flatK enc k d) cur, hv, hb, ?_, hnc, hcm, ?_, ?_⟩⟩⟩
    · have hj' : j < l.length * k := by simpa using hj
      have h1 := flatK_list enc k k0 hk l.toArray j (by simpa using hj')
      rw [Nat.zero_add, cell_of_row w g j cur e (0, 0) hg]
      refine ⟨?_, frozen_of_row w g j cur e hg⟩
      have h2 : (cur.toList.take (l.length * k))[j]? = some (flatK enc k l.toArray)[j]! := by rw [htk]; exact h1
      rw [List.getElem?_take_of_lt hj', Array.getElem?_toList] at h2
      exact h2
    · rw [flat_len enc k hk]
      simp [hd]
    · show ((w.heap.modify g _) ++ os)[g]? = _
      rw [Array.getElem?_append_left (by simpa using hlt), Array.getElem?_modify, if_pos rfl, hg]
      rfl
    · unfold putCells
      simpa using hcs
    · apply List.ext_getElem?
      intro t
      rcases Nat.lt_or_ge t (l.length * k) with ht | ht
      · rw [List.getElem?_take_of_lt ht, Array.getElem?_toList]
        have ht' : t < d.size * k := by rw [hd]; exact ht
        rw [flatK_list enc k k0 hk d t ht']
        unfold putCells
        rw [Array.getElem?_mapIdx, Array.getElem?_eq_getElem (by omega)]
        simp [ht']
      · rw [List.getElem?_eq_none (by rw [List.length_take]; omega), List.getElem?_eq_none (by rw [flat_len enc k hk]; simp [hd]; exact ht)]

theorem permIn_list {α : Type} [Inhabited α] {d d' : Array α} (h : PermIn 0 d.size d d') : d'.toList.Perm d.toList := by
  have h1 := h.2.2
  have e1 : d'.extract 0 d.size = d' := by rw [← h.1]; simp
  have e2 : d.extract 0 d.size = d := by simp
  rw [e1, e2] at h1
  exact h1
theorem sortedIn_list {α : Type} [Inhabited α] {lt : α → α → Bool} {d : Array α} (h : SortedIn lt 0 d.size d) : d.toList.Pairwise (fun x y => lt y x = false) := by
  rw [List.pairwise_iff_getElem]
  intro i j hi hj hij
  have := h i j (Nat.zero_le _) hij (by simpa using hj)
  rw [getElem!_pos d j (by simpa using hj), getElem!_pos d i (by simpa using hi)] at this
  simpa using this

/-- What a comparison is asked for: where all but the row stands. -/
def CmpOk {α : Type} (g : Nat) (cb : Array Value) (enc : α → List Value) (cf : α → α → Int) (blk : Option Nat) (w : World) : Prop :=
  ∀ W, Turn (fun b => blk = some b) w W → ∀ x y, Calls Tryz.prog g (#[.agg (enc x).toArray, .agg (enc y).toArray] ++ cb) W fun e w' => e = .returned (.int .i64 (cf x y)) ∧ Gd W w'

/-- What the sort leaves. -/
def SortRes {α : Type} (w : World) (base : Nat) (e : TypeId) (k : Nat) (v : Value) (enc : α → List Value) (cf : α → α → Int) (l : List α) (w' : World) : Prop :=
  ∃ l' : List α, l'.Perm l ∧ l'.Pairwise (fun x y => ltOf cf y x = false) ∧ OwnC w' base e k v l.length (l'.flatMap enc) ∧ Turn (fun b => v.ownBlock = some b) w w' ∧ w.drawn ≤ w'.drawn

theorem sortFunc_own {ρ : Go.Shelf.Ren} (L : SlLaysF0.n6 Tryz.prog ρ) {α : Type} (k : Nat) (k0 : 0 < k) (aE : ∀ w, (isAgg (ρ.t 24)).run Tryz.prog w = .ok true w) (zE : ∀ w, (Go.sizeOf (ρ.t 24)).run Tryz.prog w = .ok k w)
    (enc : α → List Value) (hk : ∀ x, (enc x).length = k) (h1 : ∀ x, ∀ v ∈ enc x, v.oneCell' = true) (cf : α → α → Int) (hO : SWO (ltOf cf)) (g : Nat) (cb : Array Value)
    (eg : ∀ args w, (callFunc g args).run Tryz.prog w = .ok (.enter g args) w) (l : List α) (w : World) (base : Nat) (e : TypeId) (v : Value) (ho : OwnC w base e k v l.length (l.flatMap enc)) (hcmp : CmpOk g cb enc cf v.ownBlock w) (hl : l.length ≤ 1000000) :
    Calls Tryz.prog (ρ.f 6) #[v, .func (.func g) #[] cb] w fun r w' => r = .returned (.tuple #[]) ∧ SortRes w base e k v enc cf l w' := by
  rcases Nat.eq_zero_or_pos l.length with h0 | h0
  · obtain ⟨A, c, hv, -⟩ := ho.cells
    rw [h0] at hv
    subst hv
    refine (AnyF.slices_SortFunc_none { L with } A c (.func (.func g) #[] cb) w).mono ?_
    rintro r w' ⟨rfl, rfl⟩
    have : l = [] := List.eq_nil_of_length_eq_zero h0
    subst this
    exact ⟨rfl, [], List.Perm.refl _, List.Pairwise.nil, ho, Turn.refl _ _, Nat.le_refl _⟩
  · obtain ⟨x0, -⟩ : ∃ x0, x0 ∈ l := ⟨l[0], List.getElem_mem h0⟩
    haveI : Inhabited α := ⟨x0⟩
    obtain ⟨blk, c, hv, hlt, hH, hown⟩ := own_holds enc k k0 hk l ho h0
    have hbk : v.ownBlock = some blk := by rw [hv]; rfl
    have hc : CmpLays Tryz.prog g cb enc k cf blk 0 l.toArray.size w := fun m os dk _ x y => by
      refine (hcmp _ ((sortW_turn enc k w blk 0 m dk os hlt).1.mono fun i _ hi => by rw [hi, hbk]) x y).mono ?_
      rintro r w' ⟨rfl, hg⟩
      exact ⟨rfl, gr_of hg⟩
    have hcon := AnyQ.slices_SortFunc L k aE zE enc hk h1 cf hO g cb blk 0 c l.toArray w eg hc hH hlt (by simp; omega)
    have hsz : l.toArray.size = l.length := by simp
    rw [hsz, ← hv] at hcon
    refine hcon.mono ?_
    rintro r w' ⟨rfl, d', m, os, hp, hs, rfl⟩
    have hd : d'.size = l.length := by rw [hp.1]; simp
    have hs' : SortedIn (ltOf cf) 0 d'.size d' := by rw [hd]; exact hs
    have hp' := permIn_list (d := l.toArray) (d' := d') (by rw [hsz]; exact hp)
    have ht := sortW_turn enc k w blk 0 m d' os hlt
    exact ⟨rfl, d'.toList, hp', sortedIn_list hs', hown d' m os hd, ht.1.mono fun i _ hi => by rw [hi, hbk], ht.2⟩

end Go.Proofs.YthdagjlgfffpbaaGreat
