/-
  Layer 3 (buf): any call of the builder beside the same of the reference. By the verifier.
-/
import Derived.Test.YtajkneekehkhbaaBDo4
import Derived.Test.YtajkneekehkhbaaBDo7Y
import Derived.Test.YtajkneekehkhbaaBFew
set_option linter.unusedVariables false
namespace Go.Proofs.Ytajkneekehkhbaa
open Go.RowKit

theorem kinds (k : Int) : k = 0 ∨ k = 1 ∨ k = 2 ∨ k = 3 ∨ k = 4 ∨ k = 5 ∨ k = 6 ∨ Else k := by
  by_cases h0 : k = 0; · exact .inl h0
  by_cases h1 : k = 1; · exact .inr (.inl h1)
  by_cases h2 : k = 2; · exact .inr (.inr (.inl h2))
  by_cases h3 : k = 3; · exact .inr (.inr (.inr (.inl h3)))
  by_cases h4 : k = 4; · exact .inr (.inr (.inr (.inr (.inl h4))))
  by_cases h5 : k = 5; · exact .inr (.inr (.inr (.inr (.inr (.inl h5)))))
  by_cases h6 : k = 6; · exact .inr (.inr (.inr (.inr (.inr (.inr (.inl h6))))))
  refine .inr (.inr (.inr (.inr (.inr (.inr (.inr ?_))))))
  unfold Else
  simp only [beq_eq_false_iff_ne]
  exact ⟨h0, h1, h2, h3, h4, h5, h6⟩

theorem zeros_bool (B : Nat) (g : Option Nat) (l : List Nat) (n : Int) (hlen : l.length ≤ 400000) (hn : I64 n) (h : ¬ zOK l.length n) (W : World) (hb : Bld W B g l) :
    Calls Try.prog 29 #[.pointer (some ⟨B, 0, none⟩), .int .i64 n] W fun e w' => BoolRes W B g l false e w' := by
  refine (zeros_no B g l n W hb (by omega) hn h).mono ?_
  rintro e w' ⟨he, rfl⟩
  exact ⟨he, g, Moved.refl hb⟩

theorem doAny_ok (N : Nat) (B P : Nat) (l : List Nat) (g : Option Nat) (A : Option Addr) (c : Nat) (o : OpV) (Ad : Option Addr) (cd : Nat) (w : World)
    (h : Inv N w B P l l g A c) (hA : ∀ a, A = some a → a.block < w.heap.size) (hlen : l.length ≤ 400000) (hd : Bys w Ad o.d) (hAd : ∀ a, Ad = some a → a.block < N ∨ o.d = []) (hs : Small o) (hk : I64 o.k) (hno : I64 o.n) (hx : o.x < 18446744073709551616) :
    Calls Try.prog 21 #[.pointer (some ⟨B, 0, none⟩), .pointer (some ⟨P, 0, none⟩), .agg #[.int .i64 o.k, .int .i64 o.n, .int .u64 (o.x : Int), .slice Ad o.d.length cd]] w fun e w' => DoRes N w B P l e w' := by
  obtain ⟨k, n, x, d⟩ := o
  have hD : ∃ Ad' nd cd', Value.slice Ad d.length cd = .slice Ad' nd cd' := ⟨_, _, _, rfl⟩
  have hlb := h.bys.2.1
  have hd1 : d.length ≤ 100 := hs.1
  have hs2 : (k = 5 ∨ k = 6) → n ≤ 1000 ∨ 33554432 ≤ n := hs.2
  have hn : I64 n := hno
  clear hno
  have hx : x < 18446744073709551616 := hx
  show Calls Try.prog 21 #[.pointer (some ⟨B, 0, none⟩), .pointer (some ⟨P, 0, none⟩), .agg #[.int .i64 k, .int .i64 n, .int .u64 (x : Int), .slice Ad d.length cd]] w fun e w' => DoRes N w B P l e w'
  rcases kinds k with rfl | rfl | rfl | rfl | rfl | rfl | rfl | hel
  · exact do0_ok N B P l g A c n x hx _ w hD h hA hlen
  · exact do1_ok N B P l g A c n x hx _ w hD h hA hlen
  · exact do2_ok N B P l g A c n x hx _ w hD h hA hlen
  · exact do3_ok N B P l g A c n x hx _ w hD h hA hlen
  · exact do4_ok N B P l g A c n (x : Int) Ad d cd w hd hd1 hAd h hA hlen
  · by_cases hz : zOK l.length n
    · have hz' := hz
      unfold zOK at hz'
      have hn1 : n ≤ 1000 := by rcases hs2 (.inl rfl) with h1 | h1; (· exact h1); (· omega)
      obtain ⟨m, rfl⟩ := Int.eq_ofNat_of_zero_le hz'.1
      exact do5_new N B P l g A c m x _ w (l ++ List.replicate m 0) hD h hA hlen (hlb.append (zeros_bs m)) (by rw [List.length_append, List.length_replicate]; omega)
        (fun W hy => rzeros_yes A l c m W hy (by omega) (by omega)) (fun W hb => zeros_yes B g l m W hb (by omega) (by omega))
    · exact do5_same N B P l g A c n x _ w false hD h hA hlen (fun W => rzeros_no A l.length c n (by omega) hn hz W) (fun W hb => zeros_bool B g l n hlen hn hz W hb)
  · by_cases h1 : n < 1
    · refine do6_same N B P l g A c n x _ w false hD h hA hlen (fun W => ralign_small A l.length c n h1 W) (fun W hb => ?_)
      refine (align_small B g l n W h1).mono ?_
      rintro e w' ⟨he, rfl⟩
      exact ⟨he, g, Moved.refl hb⟩
    · obtain ⟨m, rfl⟩ : ∃ m : Nat, n = (m : Int) := ⟨n.toNat, by omega⟩
      have hm1 : 1 ≤ m := by omega
      have hI := hn
      unfold I64 at hI
      by_cases h0 : l.length % m = 0
      · refine do6_same N B P l g A c m x _ w true hD h hA hlen (fun W => ralign_zero A l.length c m hm1 hn (by omega) h0 W) (fun W hb => ?_)
        refine align_ok B g l m W hb (by omega) hm1 hn l true ?_
        have hp : padN l.length m = 0 := if_pos h0
        rw [hp]
        have := zeros_yes B g l 0 W hb (by omega) (by omega)
        rw [List.replicate_zero, List.append_nil] at this
        exact this
      · have hp : padN l.length m = m - l.length % m := if_neg h0
        have hlt := Nat.mod_lt l.length (show 0 < m by omega)
        rcases hs2 (.inr rfl) with h2 | h2
        · refine do6_new N B P l g A c m x _ w (l ++ List.replicate (m - l.length % m) 0) hD h hA hlen (hlb.append (zeros_bs _)) (by rw [List.length_append, List.length_replicate]; omega) (fun W hy => ?_) (fun W hb => ?_)
          · refine (ralign_else A l.length c m hm1 hn (by omega) h0 W (fun v b w' => b = .bool true ∧ OwnB w' W.heap.size v (l ++ List.replicate (m - l.length % m) 0) ∧ Below W.heap.size W w') ?_).mono ?_
            · refine (rzeros_yes A l c (m - l.length % m) W hy (by omega) (by omega)).mono ?_
              rintro e w' ⟨v, he, ho, hb⟩
              exact ⟨v, _, he, rfl, ho, hb⟩
            · rintro e w' ⟨v, b, he, rfl, ho, hb⟩
              exact ⟨v, he, ho, hb⟩
          · refine align_ok B g l m W hb (by omega) hm1 hn _ true ?_
            rw [hp]
            exact zeros_yes B g l (m - l.length % m) W hb (by omega) (by omega)
        · have hmod : l.length % m = l.length := Nat.mod_eq_of_lt (by omega)
          have hnz : ¬ zOK l.length ((m - l.length % m : Nat) : Int) := by unfold zOK; omega
          have hI2 : I64 ((m - l.length % m : Nat) : Int) := by unfold I64; omega
          refine do6_same N B P l g A c m x _ w false hD h hA hlen (fun W => ?_) (fun W hb => ?_)
          · refine (ralign_else A l.length c m hm1 hn (by omega) h0 W (fun v b w' => v = .slice A l.length c ∧ b = .bool false ∧ W = w') ?_).mono ?_
            · refine (rzeros_no A l.length c _ (by omega) hI2 hnz W).mono ?_
              rintro e w' ⟨he, hw⟩
              exact ⟨_, _, he, rfl, rfl, hw⟩
            · rintro e w' ⟨v, b, he, rfl, rfl, hw⟩
              exact ⟨he, hw⟩
          · refine align_ok B g l m W hb (by omega) hm1 hn _ false ?_
            rw [hp]
            exact zeros_bool B g l _ hlen hI2 hnz W hb
  · by_cases hex : Ex l.length n 4
    · obtain ⟨m, rfl, hm⟩ := ex_nat (n := 4) hex
      exact do7_yes N B P l g A c k hel m x hx _ w hD h hA hlen hm
    · exact do7_no N B P l g A c k hel n x _ w hD h hA hlen hn hex

end Go.Proofs.Ytajkneekehkhbaa
