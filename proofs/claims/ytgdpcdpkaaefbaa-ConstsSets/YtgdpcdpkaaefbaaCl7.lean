/-
  ConstsSets, walked.
-/
import Derived.Test.YtgdpcdpkaaefbaaCl1
import Derived.Test.YtgdpcdpkaaefbaaCl6
import Derived.Test.YtgdpcdpkaaefbaaCr21
namespace Go.Proofs.Ytgdpcdpkaaefbaa.Cn
open Go.RowKit hiding Hid
open Go.Maps Go.Proofs.Ytgdpcdpkaaefbaa.Tx Go.Proofs.Ytgdpcdpkaaefbaa.Lx Go.Proofs.Ytgdpcdpkaaefbaa.Mp Go.Proofs.Ytgdpcdpkaaefbaa.Bits Go.Proofs.Ytgdpcdpkaaefbaa.Tr Go.Proofs.Ytgdpcdpkaaefbaa.Bm
set_option linter.unusedVariables false
set_option linter.unusedSimpArgs false
set_option maxRecDepth 100000

theorem pset_as2 {l : List Pr} (hl : l.length ≤ 1000000) {rf rn re : Int} {rt : List UInt8} (h : setP l = (⟨rf, rn, rt⟩, re)) : ∀ (W : World) (o : Option Addr) (cp : Nat), Cls W o (l.flatMap prC) → Calls Try.prog 22 #[.slice o l.length cp] W (Told W (.tuple #[.agg #[.int .i64 rf, .int .i64 rn, .string (bs rt)], .int .i64 re])) := fun W o cp hc => by
  have := rset_of hl hc (cp := cp)
  rw [h] at this
  exact this
set_option maxHeartbeats 6400000 in
theorem lsets_walk {w : World} {o : Option Addr} {cp : Nat} {l : List Pr} (hl : l.length ≤ maxLen) (h : Cls w o (l.flatMap prC)) (hN : o = none → cp = 0) : Calls Try.prog 6 #[.slice o l.length cp] w (Told w (.bool true)) := by
  have HC := hide (Cx.start w (fun _ => False))
  have hl' : (l.length : Int) ≤ 9223372036854775807 := by have : l.length ≤ 9223372036854775807 := Nat.le_trans hl (by unfold maxLen; decide); omega
  by_cases h2 : 2000 < l.length
  · have j2 : (2000 : Int) < l.length := by omega
    clear h2 h hl hN
    go_enter Try.func6, Try.ntmps6
    go_wp2_with (first | (go_at_call 11; refine (wakes_at _).mono ?_; rintro e w2 ⟨rfl, hg⟩; (replace HC := hide (HC.out.g hg); clear hg)))
    go_ret
    exact ⟨rfl, HC.out.grown⟩
  have j2 : ¬ (2000 : Int) < l.length := by omega
  have HO := hide h
  have HN := hide hN
  have HN0 := hide (show o = none → l.length = 0 from fun e => by
    subst e
    rcases Nat.eq_zero_or_pos l.length with h0 | h0
    · exact h0
    · obtain ⟨a, e, _⟩ := h.el prC_len (by decide) (List.getElem?_eq_getElem h0)
      cases e)
  have HLN := hide (show l.length ≤ 100000 by omega)
  obtain ⟨⟨⟨rf, rn, rt⟩, re⟩, hI⟩ : ∃ R, setP l = R := ⟨_, rfl⟩
  have H1 := hide (pset_as (l := l) (by omega) hI)
  have H2 := hide (pset_as2 (l := l) (by omega) hI)
  have HSM := hide (fun W => same_self ⟨rf, rn, rt⟩ W)
  dsimp only at HSM
  clear h2 h hl hN hI
  go_enter Try.func6, Try.ntmps6
  go_wp2_with (first | (at_builtin; refine wp_copyP rfl _ _ rfl _ rfl (heap_alloc_new _ _) o l.length cp rfl l (HO.out.kept (gal (gr_ref _ none) _)) rfl HN.out HN0.out HLN.out _ (Nat.le_refl _) ?_; intro d c' w1 h1 h2; have HD := hide h1; have HGW := hide (grown_then (gal (gr_ref _ none) _) h2 (fun y e => by cases e; exact .inr (Nat.le_refl _))); replace HO := hide (HO.out.kept HGW.out); replace HC := hide (Cx.start w1 (fun _ => False)); clear h1 h2) | (refine at_load 23 rfl ?_; refine wl_load_s rfl 23 _ rfl tyV rfl HC.out (by repeat (first | exact List.Mem.head _ | apply List.Mem.tail)) (GetS.all _) rfl ?_) | (go_at_call 11; refine (wakes_at _).mono ?_; rintro e w2 ⟨rfl, hg⟩; (replace HC := hide (HC.out.g hg); clear hg)) | (go_at_call 21; refine (H1.out _ _ _ (HD.out.kept HC.out.grown)).mono ?_; rintro e w2 ⟨rfl, hg⟩; (replace HC := hide (HC.out.g hg); clear hg)) | (go_at_call 22; refine (H2.out _ _ _ (HO.out.kept HC.out.grown)).mono ?_; rintro e w2 ⟨rfl, hg⟩; (replace HC := hide (HC.out.g hg); clear hg)) | (go_at_call 14; (refine (HSM.out _).mono ?_; rintro e w2 ⟨rfl, hg⟩; (replace HC := hide (HC.out.g hg); clear hg))) | (refine at_alloc 23 rfl ?_; refine wl_alloc rfl 23 rfl _ zV HC.out ?_; intro b w' hn hc; (replace HC := hide hc; clear hc)) | (refine at_store 23 rfl ?_; refine wl_store rfl 23 _ _ rfl rfl rfl tyV.sz rfl HC.out (by repeat (first | exact List.Mem.head _ | apply List.Mem.tail)) (by exact PutS.all _ _ rfl) (by repeat (first | exact Upd.here _ _ _ | apply Upd.there)) ?_; intro w' hc; (replace HC := hide hc; clear hc)))
  go_ret
  exact ⟨rfl, gr_then0 HGW.out HC.out.grown⟩
end Go.Proofs.Ytgdpcdpkaaefbaa.Cn
