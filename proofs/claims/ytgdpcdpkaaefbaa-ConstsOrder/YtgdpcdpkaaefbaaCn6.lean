/-
  Package consts: Good; beside; member, ordinalOfText, character.
-/
import Derived.Test.YtgdpcdpkaaefbaaCn5
namespace Go.Proofs.Ytgdpcdpkaaefbaa.Cn
open Go.RowKit hiding Hid
open Go.Maps Go.Proofs.Ytgdpcdpkaaefbaa.Tx Go.Proofs.Ytgdpcdpkaaefbaa.Lx Go.Proofs.Ytgdpcdpkaaefbaa.Mp Go.Proofs.Ytgdpcdpkaaefbaa.Tr Go.Proofs.Ytgdpcdpkaaefbaa.Bits
set_option linter.unusedVariables false
set_option linter.unusedSimpArgs false
set_option maxRecDepth 100000

theorem goodV_6 {v : Vl} (h : v.f = 6) : goodV v = ((v.n == 0) && strB v.t) := if_pos h
theorem goodV_n {v : Vl} (h : ¬ v.f = 6) : goodV v = (v.t.isEmpty && goodN v.f v.n) := if_neg h
set_option maxHeartbeats 2000000 in
theorem good_at (v : Vl) (hl : v.t.length ≤ 9223372036854775807) (w : World) : Calls Try.prog 15 #[vV v] w (Told w (.bool (goodV v))) := by
  obtain ⟨f, n, t⟩ := v
  unfold vV
  dsimp only at hl ⊢
  have HL := hide hl
  clear hl
  by_cases h6 : f = 6
  · subst h6
    rw [goodV_6 rfl]
    dsimp only
    cases hn : (n == 0) with
    | true =>
      go_enter Try.func15, Try.ntmps15
      go_wp2_with (go_at_call 31; refine (gtext_at _ _ HL.out).mono ?_; rintro e w2 ⟨rfl, rfl⟩)
      go_ret
      exact ⟨rfl, (gal (gr_ref _ none) _)⟩
    | false =>
      go_enter Try.func15, Try.ntmps15
      go_wp2_with (go_at_call 31; refine (gtext_at _ _ HL.out).mono ?_; rintro e w2 ⟨rfl, rfl⟩)
      go_ret
      exact ⟨rfl, (gal (gr_ref _ none) _)⟩
  · rw [goodV_n (v := ⟨f, n, t⟩) h6]
    dsimp only
    have k6 : (f == 6) = false := by simpa using h6
    cases he : t.isEmpty with
    | true =>
      have e1 : (bs t).toList.isEmpty = true := by rw [bs_toList]; exact he
      have e2 : (bs t).toList = [] := by rw [bs_toList]; simpa using he
      clear he h6
      go_enter Try.func15, Try.ntmps15
      go_wp2_with (go_at_call 32; refine (gnum_at _ _ _).mono ?_; rintro e w2 ⟨rfl, rfl⟩)
      go_ret
      exact ⟨rfl, (gal (gr_ref _ none) _)⟩
    | false =>
      have e1 : (bs t).toList.isEmpty = false := by rw [bs_toList]; exact he
      have e2 : ¬ (bs t).toList = [] := by rw [bs_toList]; intro e; rw [e] at he; cases he
      clear he h6
      go_enter Try.func15, Try.ntmps15
      go_wp2_with (go_at_call 32; refine (gnum_at _ _ _).mono ?_; rintro e w2 ⟨rfl, rfl⟩)
      go_ret
      exact ⟨rfl, (gal (gr_ref _ none) _)⟩
def besV (a b : Vl) : Vl := if b.f = 3 ∧ a.f = 6 ∧ a.t.length = 1 then ⟨3, (a.t.headD 0).toNat, []⟩ else a
set_option maxHeartbeats 2000000 in
theorem beside_at (a b : Vl) (hl : a.t.length ≤ 9223372036854775807) (w : World) : Calls Try.prog 36 #[vV a, vV b] w (Told w (vV (besV a b))) := by
  obtain ⟨f, n, t⟩ := a
  obtain ⟨g, m, s⟩ := b
  dsimp only at hl
  have hz := bs_size t
  have hl' : (t.length : Int) ≤ 9223372036854775807 := by omega
  unfold besV
  dsimp only
  by_cases h3 : g = 3
  · subst h3
    by_cases h6 : f = 6
    · subst h6
      by_cases h1 : t.length = 1
      · rw [if_pos ⟨rfl, rfl, h1⟩]
        obtain ⟨c, rfl⟩ := List.length_eq_one_iff.1 h1
        have hb : ∀ h, (bs [c])[0]'h = c := fun h => rfl
        have k1 : ((([c] : List UInt8).length : Int) == 1) = true := rfl
        have hw : wrap64 (c.toNat : Int) = c.toNat := IntWalk.wrap64_in _ (by have := c.toNat_lt; constructor <;> omega)
        unfold vV
        (go_enter Try.func36, Try.ntmps36; go_wp2)
        refine bodyPost_ret (v := .agg #[.int .i64 3, .int .i64 c.toNat, .string (bs [])]) (by simp [results, Try.results36, go_sem, hw]; rfl) rfl ?_
        exact ⟨rfl, (gal (gal (gal (gr_ref _ none) _) _) _)⟩
      · rw [if_neg (fun h => h1 h.2.2)]
        have k1 : ((t.length : Int) == 1) = false := by simp; omega
        unfold vV
        (go_enter Try.func36, Try.ntmps36; go_wp2)
        refine bodyPost_ret (v := .agg #[.int .i64 6, .int .i64 n, .string (bs t)]) (by simp [results, Try.results36, go_sem]) rfl ?_
        exact ⟨rfl, (gal (gal (gal (gr_ref _ none) _) _) _)⟩
    · rw [if_neg (fun h => h6 h.2.1)]
      have k6 : (f == 6) = false := by simpa using h6
      clear h6
      unfold vV
      (go_enter Try.func36, Try.ntmps36; go_wp2)
      refine bodyPost_ret (v := .agg #[.int .i64 f, .int .i64 n, .string (bs t)]) (by simp [results, Try.results36, go_sem]) rfl ?_
      exact ⟨rfl, (gal (gal (gal (gr_ref _ none) _) _) _)⟩
  · rw [if_neg (fun h => h3 h.1)]
    have k3 : (g == 3) = false := by simpa using h3
    clear h3
    unfold vV
    (go_enter Try.func36, Try.ntmps36; go_wp2)
    refine bodyPost_ret (v := .agg #[.int .i64 f, .int .i64 n, .string (bs t)]) (by simp [results, Try.results36, go_sem]) rfl ?_
    exact ⟨rfl, (gal (gal (gal (gr_ref _ none) _) _) _)⟩
def memR (a b : Vl) : Rs := if wiB a.n 31 = true then bolR (getI (b.n % 4294967296) a.n 1 == 1) else (Vl.z, 91)
def otxR (a b : Vl) : Rs := if a.t.length = 1 then intR (a.t.headD 0).toNat else (Vl.z, 120)
def chrR (a b : Vl) : Rs := if wiB a.n 255 = true then (⟨3, a.n, []⟩, 0) else (Vl.z, 91)
set_option maxHeartbeats 2000000 in
theorem chr_at (a b : Vl) (w : World) : Calls Try.prog 88 #[vV a, vV b] w (Told w (rsV (chrR a b))) := by
  have HC := hide (Cx.start w (fun _ => False))
  obtain ⟨f, n, t⟩ := a
  obtain ⟨g, m, s⟩ := b
  cases hw : wiB n 255 with
  | true =>
    have HW := hide hw
    have hR : chrR ⟨f, n, t⟩ ⟨g, m, s⟩ = (⟨3, n, []⟩, 0) := if_pos hw
    rw [hR]
    unfold vV
    clear hw hR
    (go_enter Try.func88, Try.ntmps88; go_wp2_with (first | (refine at_box 23 rfl ?_; refine wl_box rfl 23 _ rfl _ rfl HC.out ?_; intro b w' hn hc; (replace HC := hide hc; clear hc)) | (refine at_alloc 23 rfl ?_; refine wl_alloc rfl 23 rfl _ zV HC.out ?_; intro b w' hn hc; (replace HC := hide hc; clear hc)) | (refine at_load 3 rfl ?_; refine wl_load_c rfl 3 _ rfl tcI rfl HC.out (by repeat (first | exact List.Mem.head _ | apply List.Mem.tail)) (by repeat (first | exact GetS.cons _ (GetS.nil _) | apply GetS.skip)) ?_) | (go_at_call 49; refine (within_at _ _ _).mono ?_; rw [HW.out]; rintro e w2 ⟨rfl, rfl⟩) | (refine at_store 23 rfl ?_; refine wl_store rfl 23 _ _ rfl rfl rfl tyV.sz rfl HC.out (by repeat (first | exact List.Mem.head _ | apply List.Mem.tail)) (by exact PutS.all _ _ rfl) (by repeat (first | exact Upd.here _ _ _ | apply Upd.there)) ?_; intro w' hc; (replace HC := hide hc; clear hc))); refine ret_two Try.results88 rfl rfl HC.out (by repeat (first | exact List.Mem.head _ | apply List.Mem.tail)) tyV rfl ?_)
    exact ⟨rfl, HC.out.grown⟩
  | false =>
    have HW := hide hw
    have hR : chrR ⟨f, n, t⟩ ⟨g, m, s⟩ = (Vl.z, 91) := if_neg (by simp [hw])
    rw [hR]
    unfold vV
    clear hw hR
    (go_enter Try.func88, Try.ntmps88; go_wp2_with (first | (refine at_box 23 rfl ?_; refine wl_box rfl 23 _ rfl _ rfl HC.out ?_; intro b w' hn hc; (replace HC := hide hc; clear hc)) | (refine at_alloc 23 rfl ?_; refine wl_alloc rfl 23 rfl _ zV HC.out ?_; intro b w' hn hc; (replace HC := hide hc; clear hc)) | (refine at_load 3 rfl ?_; refine wl_load_c rfl 3 _ rfl tcI rfl HC.out (by repeat (first | exact List.Mem.head _ | apply List.Mem.tail)) (by repeat (first | exact GetS.cons _ (GetS.nil _) | apply GetS.skip)) ?_) | (go_at_call 49; refine (within_at _ _ _).mono ?_; rw [HW.out]; rintro e w2 ⟨rfl, rfl⟩) | (refine at_store 23 rfl ?_; refine wl_store rfl 23 _ _ rfl rfl rfl tyV.sz rfl HC.out (by repeat (first | exact List.Mem.head _ | apply List.Mem.tail)) (by exact PutS.all _ _ rfl) (by repeat (first | exact Upd.here _ _ _ | apply Upd.there)) ?_; intro w' hc; (replace HC := hide hc; clear hc))); refine ret_two Try.results88 rfl rfl HC.out (by repeat (first | exact List.Mem.head _ | apply List.Mem.tail)) tyV rfl ?_)
    exact ⟨rfl, HC.out.grown⟩
theorem integer_as {n rf rn re : Int} {rt : List UInt8} (h : intR n = (⟨rf, rn, rt⟩, re)) : ∀ W, Calls Try.prog 92 #[.int .i64 n] W (Told W (.tuple #[.agg #[.int .i64 rf, .int .i64 rn, .string (bs rt)], .int .i64 re])) := fun W => by
  have := integer_at n W
  rw [h] at this
  exact this
set_option maxHeartbeats 2000000 in
theorem otx_at (a b : Vl) (hl : a.t.length ≤ 9223372036854775807) (w : World) : Calls Try.prog 87 #[vV a, vV b] w (Told w (rsV (otxR a b))) := by
  have HC := hide (Cx.start w (fun _ => False))
  obtain ⟨f, n, t⟩ := a
  obtain ⟨g, m, s⟩ := b
  dsimp only at hl
  have hz := bs_size t
  have hl' : (t.length : Int) ≤ 9223372036854775807 := by omega
  by_cases h1 : t.length = 1
  · obtain ⟨c, rfl⟩ := List.length_eq_one_iff.1 h1
    have hR : otxR ⟨f, n, [c]⟩ ⟨g, m, s⟩ = intR c.toNat := if_pos rfl
    rw [hR]
    have hb : ∀ h, (bs [c])[0]'h = c := fun h => rfl
    have k1 : ((([c] : List UInt8).length : Int) != 1) = false := rfl
    obtain ⟨C, hC⟩ : ∃ C : Int, (c.toNat : Int) = C := ⟨_, rfl⟩
    have c0 : 0 ≤ C ∧ C < 256 := by have := c.toNat_lt; omega
    obtain ⟨c0, c1⟩ := c0
    rw [hC]
    obtain ⟨⟨⟨rf, rn, rt⟩, re⟩, hI⟩ : ∃ R, intR C = R := ⟨_, rfl⟩
    have HI := hide (integer_as hI)
    rw [hI]
    unfold vV rsV
    clear h1 hR hI
    (go_enter Try.func87, Try.ntmps87; go_wp2_with (first | (refine at_box 23 rfl ?_; refine wl_box rfl 23 _ rfl _ rfl HC.out ?_; intro b w' hn hc; (replace HC := hide hc; clear hc)) | (refine at_alloc 23 rfl ?_; refine wl_alloc rfl 23 rfl _ zV HC.out ?_; intro b w' hn hc; (replace HC := hide hc; clear hc)) | (refine at_load 9 rfl ?_; refine wl_load_c rfl 9 _ rfl tcT rfl HC.out (by repeat (first | exact List.Mem.head _ | apply List.Mem.tail)) (by repeat (first | exact GetS.cons _ (GetS.nil _) | apply GetS.skip)) ?_) | (go_at_call 92; refine (HI.out _).mono ?_; rintro e w2 ⟨rfl, hg⟩; (replace HC := hide (HC.out.g hg); clear hg)) | (refine at_store 23 rfl ?_; refine wl_store rfl 23 _ _ rfl rfl rfl tyV.sz rfl HC.out (by repeat (first | exact List.Mem.head _ | apply List.Mem.tail)) (by exact PutS.all _ _ rfl) (by repeat (first | exact Upd.here _ _ _ | apply Upd.there)) ?_; intro w' hc; (replace HC := hide hc; clear hc))); refine ret_two Try.results87 rfl rfl HC.out (by repeat (first | exact List.Mem.head _ | apply List.Mem.tail)) tyV rfl ?_)
    exact ⟨rfl, HC.out.grown⟩
  · have hR : otxR ⟨f, n, t⟩ ⟨g, m, s⟩ = (Vl.z, 120) := if_neg h1
    rw [hR]
    have k1 : ((t.length : Int) != 1) = true := by simp; omega
    have HI := hide True.intro
    unfold vV
    clear hR
    (go_enter Try.func87, Try.ntmps87; go_wp2_with (first | (refine at_box 23 rfl ?_; refine wl_box rfl 23 _ rfl _ rfl HC.out ?_; intro b w' hn hc; (replace HC := hide hc; clear hc)) | (refine at_alloc 23 rfl ?_; refine wl_alloc rfl 23 rfl _ zV HC.out ?_; intro b w' hn hc; (replace HC := hide hc; clear hc)) | (refine at_load 9 rfl ?_; refine wl_load_c rfl 9 _ rfl tcT rfl HC.out (by repeat (first | exact List.Mem.head _ | apply List.Mem.tail)) (by repeat (first | exact GetS.cons _ (GetS.nil _) | apply GetS.skip)) ?_) | (go_at_call 92; refine (HI.out _).mono ?_; rintro e w2 ⟨rfl, hg⟩; (replace HC := hide (HC.out.g hg); clear hg)) | (refine at_store 23 rfl ?_; refine wl_store rfl 23 _ _ rfl rfl rfl tyV.sz rfl HC.out (by repeat (first | exact List.Mem.head _ | apply List.Mem.tail)) (by exact PutS.all _ _ rfl) (by repeat (first | exact Upd.here _ _ _ | apply Upd.there)) ?_; intro w' hc; (replace HC := hide hc; clear hc))); refine ret_two Try.results87 rfl rfl HC.out (by repeat (first | exact List.Mem.head _ | apply List.Mem.tail)) tyV rfl ?_)
    exact ⟨rfl, HC.out.grown⟩
end Go.Proofs.Ytgdpcdpkaaefbaa.Cn
