/-
  The document's own tables (package spinetref13): Good tells true just of what GoodP says.
-/
import Derived.Test.YthmldhppmpbadaaTg23
import Derived.Test.YthmldhppmpbadaaTp3
import Derived.Test.YthmldhppmpbadaaTg15
import Derived.Test.YthmldhppmpbadaaTg18
import Derived.Test.YthmldhppmpbadaaTy15
namespace Go.Proofs.Ythmldhppmpbadaa.Ty
open Go.RowKit hiding Hid
open Go.Maps Go.Proofs.Ythmldhppmpbadaa.Tx Go.Proofs.Ythmldhppmpbadaa.Lx Go.Proofs.Ythmldhppmpbadaa.Tr Go.Proofs.Ythmldhppmpbadaa.Mp
set_option linter.unusedVariables false
set_option linter.unusedSimpArgs false
set_option maxRecDepth 100000

theorem rgood_few {w : World} {o : Option Addr} {T : List Tt} (cp : Nat) (H : Tab w o T) (hf : ¬ (7 ≤ T.length ∧ T.length ≤ 256)) : Calls Try.prog 24 #[.slice o T.length cp] w (GdO w T) := by
  have hlen := H.1
  have HN := hide (gd_few hf)
  clear H
  by_cases h7 : T.length < 7
  · have j0 : (T.length : Int) < 7 := by omega
    clear hf h7 hlen
    go_enter Try.func24, Try.ntmps24
    go_wp2
    go_ret
    exact ⟨false, rfl, grown_refl w _, gd_no HN.out⟩
  · have j0 : ¬ (T.length : Int) < 7 := by omega
    have j1 : (256 : Int) < T.length := by omega
    clear hf h7 hlen
    go_enter Try.func24, Try.ntmps24
    go_wp2
    go_ret
    exact ⟨false, rfl, grown_refl w _, gd_no HN.out⟩
/- What the first seven tell. -/
def UpTo (T : List Tt) (k : Nat) : Prop := ∀ (i : Nat) x, i < k → T[i]? = some x → basicB i x = true
def Upto2 (T : List Tt) (k : Nat) : Prop := ∀ (i : Nat) x, 7 ≤ i → i < k → T[i]? = some x → nmOk x ∧ ptOk T i x
theorem rg_bas {T : List Tt} {i : Nat} {x : Tt} (hi : i < 7) (hx : T[i]? = some x) (h : basicB i x = false) : ¬ GoodP T := fun g => by
  rw [g.loc.bas i x hi hx] at h; cases h
theorem rg_oth {T : List Tt} {i : Nat} {x : Tt} (hi : 7 ≤ i) (hx : T[i]? = some x) (h : ¬ (nmOk x ∧ ptOk T i x)) : ¬ GoodP T := fun g => h (g.rg.oth i x hi hx)
theorem bas_at {i : Nat} (h : i < 7) : basT[i]? = some (bT i) := by
  unfold basT
  rw [List.getElem?_map, List.getElem?_range h]
  rfl
def MkR (T : List Tt) (M : List Int) (i : Nat) : Prop := DnR T M ∧ Vm M ∧ (∀ k, mk M k ≠ 1) ∧ (∀ k, 7 ≤ k → k < i → mk M k = 2) ∧ M.length = T.length
theorem mkR_rank {T : List Tt} {M : List Int} (h : MkR T M T.length) (hb : UpTo T 7) : ∃ r, RankR T r := by
  obtain ⟨r, hr⟩ := h.1
  refine ⟨r, fun i x hx j hj => ?_⟩
  by_cases hi : i < 7
  · have := basic_fm (hb i x hi hx)
    unfold partsR at hj
    rw [if_neg (by omega), if_neg (by omega)] at hj
    cases hj
  · exact (hr i x hx (h.2.2.2.1 i (by omega) (List.getElem?_eq_some_iff.1 hx).1) j hj).2
theorem fl_most {T : List Tt} (g : RgL T) : ∀ (i : Nat) x, T[i]? = some x → x.fl.length ≤ 1000 := fun i x hx => by
  by_cases hi : i < 7
  · rw [bas_is (g.bas i x hi hx)]; exact Nat.zero_le _
  · by_cases f : x.fm = 9
    · obtain ⟨_, _, _, _, l, _, _, h64, _⟩ := g.pt9 i x hx f
      omega
    · have := (g.loc.oth i x (by omega) hx).2
      rcases parts_fm this with f | f | f | f | f
      · have := (bare_fl (parts_7 this f).2.2.2).1; simp only at this; rw [this]; simp
      · have := (bare_fl (parts_8 this f).2).1; simp only at this; rw [this]; simp
      · contradiction
      · have := (bare_fl (parts_10 this f).2).1; simp only at this; rw [this]; simp
      · have := (bare_fl (parts_11 this f).2.2).1; simp only at this; rw [this]; simp
end Go.Proofs.Ythmldhppmpbadaa.Ty
