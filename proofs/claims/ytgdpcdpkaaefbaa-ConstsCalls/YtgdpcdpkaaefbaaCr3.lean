/-
  The document's own constants (package spinetref12): One.
-/
import Derived.Test.YtgdpcdpkaaefbaaCr2
namespace Go.Proofs.Ytgdpcdpkaaefbaa.Cn
open Go.RowKit hiding Hid
open Go.Maps Go.Proofs.Ytgdpcdpkaaefbaa.Tx Go.Proofs.Ytgdpcdpkaaefbaa.Lx Go.Proofs.Ytgdpcdpkaaefbaa.Mp Go.Proofs.Ytgdpcdpkaaefbaa.Bits Go.Proofs.Ytgdpcdpkaaefbaa.Tr Go.Proofs.Ytgdpcdpkaaefbaa.Bm
set_option linter.unusedVariables false
set_option linter.unusedSimpArgs false
set_option maxRecDepth 100000

theorem look_uniq {E : List (Ky × Cd)} (hd : (E.map (·.1)).Nodup) {x : Ky} {v : Cd} (h : (x, v) ∈ E) : E.lookup x = some v := by
  induction E with
  | nil => cases h
  | cons q L ih =>
    obtain ⟨y, u⟩ := q
    simp only [List.map_cons, List.nodup_cons] at hd
    rw [List.lookup_cons]
    rcases List.mem_cons.1 h with h | h
    · injection h with h1 h2
      subst h1
      subst h2
      simp
    · have : (x == y) = false := by
        cases hb : (x == y) with
        | false => rfl
        | true => exact absurd (List.mem_map.2 ⟨(x, v), h, eq_of_beq hb⟩) hd.1
      rw [this]
      exact ih hd.2 h
theorem rk_hit {E : List (Ky × Cd)} (hd : (E.map (·.1)).Nodup) {s : List UInt8} {a b : Vl} {c : Cd} (h : ((a.f, b.f, s), c) ∈ E) : rk E s a b = ev c a b := by unfold rk; rw [look_uniq hd h]
theorem rk_miss {E : List (Ky × Cd)} {s : List UInt8} {a b : Vl} (h : ∀ p ∈ E, p.1 ≠ (a.f, b.f, s)) : rk E s a b = noR := by
  unfold rk
  cases hl : E.lookup (a.f, b.f, s) with
  | none => rfl
  | some c => exact absurd rfl (h _ (look_mem hl))
/- The operations of two forms. -/
def sub (E : List (Ky × Cd)) (f g : Int) : List (List UInt8 × Cd) := E.filterMap fun p => if p.1.1 = f ∧ p.1.2.1 = g then some (p.1.2.2, p.2) else none
theorem sub_mem {E : List (Ky × Cd)} {f g : Int} {s : List UInt8} {c : Cd} (h : ((f, g, s), c) ∈ E) : (s, c) ∈ sub E f g := by
  unfold sub
  rw [List.mem_filterMap]
  exact ⟨_, h, by simp⟩
theorem rk_no {E : List (Ky × Cd)} {s : List UInt8} {a b : Vl} (h : ∀ p ∈ sub E a.f b.f, p.1 ≠ s) : rk E s a b = noR := rk_miss fun p hp e => by
  obtain ⟨⟨f, g, t⟩, c⟩ := p
  dsimp only at e
  injection e with e1 e
  injection e with e2 e3
  subst e1
  subst e2
  subst e3
  exact h _ (sub_mem hp) rfl
theorem rnone_as (W : World) : Calls Try.prog 30 #[] W (Told W (.tuple #[.agg #[.int .i64 0, .int .i64 0, .string (bs [])], .int .i64 120])) := rnone_at W
theorem rgood_as {v : Vl} (hv : v.t.length ≤ 9223372036854775807) {B : Bool} (h : goodV v = B) : ∀ W, Calls Try.prog 16 #[.agg #[.int .i64 v.f, .int .i64 v.n, .string (bs v.t)]] W (Told W (.bool B)) := fun W => by
  have := rgood_at v hv W
  rw [h] at this
  exact this
theorem rinteger_as {n rf rn re : Int} {rt : List UInt8} (h : intR n = (⟨rf, rn, rt⟩, re)) : ∀ W, Calls Try.prog 27 #[.int .i64 n] W (Told W (.tuple #[.agg #[.int .i64 rf, .int .i64 rn, .string (bs rt)], .int .i64 re])) := fun W => by
  have := rinteger_at n W
  rw [h] at this
  exact this
theorem rtruth_as {B : Bool} {rf rn re : Int} {rt : List UInt8} (h : bolR B = (⟨rf, rn, rt⟩, re)) : ∀ W, Calls Try.prog 29 #[.bool B] W (Told W (.tuple #[.agg #[.int .i64 rf, .int .i64 rn, .string (bs rt)], .int .i64 re])) := fun W => by
  have := rtruth_at B W
  rw [h] at this
  exact this
theorem rset_as {x rf rn re : Int} {rt : List UInt8} (h0 : 0 ≤ x) (h1 : x < 4294967296) (h : setR x = (⟨rf, rn, rt⟩, re)) : ∀ W, Calls Try.prog 28 #[.int .u32 x] W (Told W (.tuple #[.agg #[.int .i64 rf, .int .i64 rn, .string (bs rt)], .int .i64 re])) := fun W => by
  have := rset_at x h0 h1 W
  rw [h] at this
  exact this
theorem good_t {v : Vl} (h : goodV v = true) (h6 : ¬ v.f = 6) : v.t = [] := by
  rw [goodV_n h6] at h
  simp only [Bool.and_eq_true, List.isEmpty_iff] at h
  exact h.1
theorem good_1 {v : Vl} (h : goodV v = true) (h1 : v.f = 1) : inR v.n = true := by
  rw [goodV_n (by omega), h1, goodN_1] at h
  simp only [Bool.and_eq_true] at h
  exact h.2
set_option maxHeartbeats 6400000 in
theorem rone_at (s : List UInt8) (v : Vl) (hl : v.t.length ≤ 9223372036854775807) (w : World) : Calls Try.prog 13 #[.string (bs s), vV v] w (Told w (rsV (oneP s v))) := by
  have HC := hide (Cx.start w (fun _ => False))
  have HNO := hide rnone_as
  have HI := hide True.intro
  unfold oneP
  cases hg : goodV v with
  | false =>
    rw [if_neg (by simp)]
    have HGO := hide (rgood_as hl hg)
    obtain ⟨f, n, t⟩ := v
    unfold vV noR rsV
    clear hg hl
    (go_enter Try.func13, Try.ntmps13; go_wp2_with (first | (refine at_box 23 rfl ?_; refine wl_box rfl 23 _ rfl _ rfl HC.out ?_; intro b w' hn hc; (replace HC := hide hc; clear hc)) | (refine at_alloc 23 rfl ?_; refine wl_alloc rfl 23 rfl _ zV HC.out ?_; intro b w' hn hc; (replace HC := hide hc; clear hc)) | (refine at_load 23 rfl ?_; refine wl_load_s rfl 23 _ rfl tyV rfl HC.out (by repeat (first | exact List.Mem.head _ | apply List.Mem.tail)) (GetS.all _) rfl ?_) | (refine at_load 3 rfl ?_; refine wl_load_c rfl 3 _ rfl tcI rfl HC.out (by repeat (first | exact List.Mem.head _ | apply List.Mem.tail)) (by repeat (first | exact GetS.cons _ (GetS.nil _) | apply GetS.skip)) ?_) | (go_at_call 16; (refine (HGO.out _).mono ?_; rintro e w2 ⟨rfl, hg⟩; (replace HC := hide (HC.out.g hg); clear hg))) | (go_at_call 27; (refine (HI.out _).mono ?_; rintro e w2 ⟨rfl, hg⟩; (replace HC := hide (HC.out.g hg); clear hg))) | (go_at_call 29; (refine (HI.out _).mono ?_; rintro e w2 ⟨rfl, hg⟩; (replace HC := hide (HC.out.g hg); clear hg))) | (go_at_call 28; (refine (HI.out _).mono ?_; rintro e w2 ⟨rfl, hg⟩; (replace HC := hide (HC.out.g hg); clear hg))) | (go_at_call 30; (refine (HNO.out _).mono ?_; rintro e w2 ⟨rfl, hg⟩; (replace HC := hide (HC.out.g hg); clear hg))) | (refine at_store 23 rfl ?_; refine wl_store rfl 23 _ _ rfl rfl rfl tyV.sz rfl HC.out (by repeat (first | exact List.Mem.head _ | apply List.Mem.tail)) (by exact PutS.all _ _ rfl) (by repeat (first | exact Upd.here _ _ _ | apply Upd.there)) ?_; intro w' hc; (replace HC := hide hc; clear hc))); refine ret_two Try.results13 rfl rfl HC.out (by repeat (first | exact List.Mem.head _ | apply List.Mem.tail)) tyV rfl ?_)
    exact ⟨rfl, HC.out.grown⟩
  | true =>
    rw [if_pos rfl]
    have HGO := hide (rgood_as hl hg)
    by_cases h1 : v.f = 1
    · have ht := good_t hg (by omega)
      have hn := good_1 hg h1
      obtain ⟨f, n, t⟩ := v
      dsimp only at h1 ht hn
      subst h1
      subst ht
      have hnr : -2147483648 ≤ n ∧ n < 2147483648 := by simpa [inR] using hn
      obtain ⟨n0, n1⟩ := hnr
      by_cases hs1 : s = [43]
      · have HR := hide (show rk onesE s ⟨1, n, []⟩ Vl.z = (⟨1, n, []⟩, 0) by rw [rk_hit ones_nd (c := .pos) (by rw [hs1]; exact .head _)]; exact intR_yes hn)
        have k1 := tE_tt hs1
        unfold vV
        clear hs1 hg hl hn
        (go_enter Try.func13, Try.ntmps13; go_wp2_with (first | (refine at_box 23 rfl ?_; refine wl_box rfl 23 _ rfl _ rfl HC.out ?_; intro b w' hn hc; (replace HC := hide hc; clear hc)) | (refine at_alloc 23 rfl ?_; refine wl_alloc rfl 23 rfl _ zV HC.out ?_; intro b w' hn hc; (replace HC := hide hc; clear hc)) | (refine at_load 23 rfl ?_; refine wl_load_s rfl 23 _ rfl tyV rfl HC.out (by repeat (first | exact List.Mem.head _ | apply List.Mem.tail)) (GetS.all _) rfl ?_) | (refine at_load 3 rfl ?_; refine wl_load_c rfl 3 _ rfl tcI rfl HC.out (by repeat (first | exact List.Mem.head _ | apply List.Mem.tail)) (by repeat (first | exact GetS.cons _ (GetS.nil _) | apply GetS.skip)) ?_) | (go_at_call 16; (refine (HGO.out _).mono ?_; rintro e w2 ⟨rfl, hg⟩; (replace HC := hide (HC.out.g hg); clear hg))) | (go_at_call 27; (refine (HI.out _).mono ?_; rintro e w2 ⟨rfl, hg⟩; (replace HC := hide (HC.out.g hg); clear hg))) | (go_at_call 29; (refine (HI.out _).mono ?_; rintro e w2 ⟨rfl, hg⟩; (replace HC := hide (HC.out.g hg); clear hg))) | (go_at_call 28; (refine (HI.out _).mono ?_; rintro e w2 ⟨rfl, hg⟩; (replace HC := hide (HC.out.g hg); clear hg))) | (go_at_call 30; (refine (HNO.out _).mono ?_; rintro e w2 ⟨rfl, hg⟩; (replace HC := hide (HC.out.g hg); clear hg))) | (refine at_store 23 rfl ?_; refine wl_store rfl 23 _ _ rfl rfl rfl tyV.sz rfl HC.out (by repeat (first | exact List.Mem.head _ | apply List.Mem.tail)) (by exact PutS.all _ _ rfl) (by repeat (first | exact Upd.here _ _ _ | apply Upd.there)) ?_; intro w' hc; (replace HC := hide hc; clear hc))); refine ret_two Try.results13 rfl rfl HC.out (by repeat (first | exact List.Mem.head _ | apply List.Mem.tail)) tyV rfl ?_)
        exact ⟨by rw [HR.out]; rfl, HC.out.grown⟩
      by_cases hs2 : s = [45]
      · obtain ⟨⟨⟨rf, rn, rt⟩, re⟩, hI⟩ : ∃ R, intR (-n) = R := ⟨_, rfl⟩
        have HR := hide (show rk onesE s ⟨1, n, []⟩ Vl.z = (⟨rf, rn, rt⟩, re) by rw [rk_hit ones_nd (c := .neg) (by rw [hs2]; exact .tail _ (.head _))]; exact hI)
        replace HI := hide (rinteger_as hI)
        have k1 := tE_ff hs1
        have k2 := tE_tt hs2
        unfold vV
        clear hs1 hs2 hg hl hn hI
        (go_enter Try.func13, Try.ntmps13; go_wp2_with (first | (refine at_box 23 rfl ?_; refine wl_box rfl 23 _ rfl _ rfl HC.out ?_; intro b w' hn hc; (replace HC := hide hc; clear hc)) | (refine at_alloc 23 rfl ?_; refine wl_alloc rfl 23 rfl _ zV HC.out ?_; intro b w' hn hc; (replace HC := hide hc; clear hc)) | (refine at_load 23 rfl ?_; refine wl_load_s rfl 23 _ rfl tyV rfl HC.out (by repeat (first | exact List.Mem.head _ | apply List.Mem.tail)) (GetS.all _) rfl ?_) | (refine at_load 3 rfl ?_; refine wl_load_c rfl 3 _ rfl tcI rfl HC.out (by repeat (first | exact List.Mem.head _ | apply List.Mem.tail)) (by repeat (first | exact GetS.cons _ (GetS.nil _) | apply GetS.skip)) ?_) | (go_at_call 16; (refine (HGO.out _).mono ?_; rintro e w2 ⟨rfl, hg⟩; (replace HC := hide (HC.out.g hg); clear hg))) | (go_at_call 27; (refine (HI.out _).mono ?_; rintro e w2 ⟨rfl, hg⟩; (replace HC := hide (HC.out.g hg); clear hg))) | (go_at_call 29; (refine (HI.out _).mono ?_; rintro e w2 ⟨rfl, hg⟩; (replace HC := hide (HC.out.g hg); clear hg))) | (go_at_call 28; (refine (HI.out _).mono ?_; rintro e w2 ⟨rfl, hg⟩; (replace HC := hide (HC.out.g hg); clear hg))) | (go_at_call 30; (refine (HNO.out _).mono ?_; rintro e w2 ⟨rfl, hg⟩; (replace HC := hide (HC.out.g hg); clear hg))) | (refine at_store 23 rfl ?_; refine wl_store rfl 23 _ _ rfl rfl rfl tyV.sz rfl HC.out (by repeat (first | exact List.Mem.head _ | apply List.Mem.tail)) (by exact PutS.all _ _ rfl) (by repeat (first | exact Upd.here _ _ _ | apply Upd.there)) ?_; intro w' hc; (replace HC := hide hc; clear hc))); refine ret_two Try.results13 rfl rfl HC.out (by repeat (first | exact List.Mem.head _ | apply List.Mem.tail)) tyV rfl ?_)
        exact ⟨by rw [HR.out]; rfl, HC.out.grown⟩
      · have HR := hide (show rk onesE s ⟨1, n, []⟩ Vl.z = noR from rk_no (by
          rw [show sub onesE (⟨1, n, []⟩ : Vl).f Vl.z.f = [([43], .pos), ([45], .neg)] by kernel_rfl]
          intro p hp e
          simp only [List.mem_cons, List.not_mem_nil, or_false] at hp
          rcases hp with rfl | rfl
          · exact hs1 e.symm
          · exact hs2 e.symm))
        have k1 := tE_ff hs1
        have k2 := tE_ff hs2
        unfold vV
        clear hs1 hs2 hg hl hn
        (go_enter Try.func13, Try.ntmps13; go_wp2_with (first | (refine at_box 23 rfl ?_; refine wl_box rfl 23 _ rfl _ rfl HC.out ?_; intro b w' hn hc; (replace HC := hide hc; clear hc)) | (refine at_alloc 23 rfl ?_; refine wl_alloc rfl 23 rfl _ zV HC.out ?_; intro b w' hn hc; (replace HC := hide hc; clear hc)) | (refine at_load 23 rfl ?_; refine wl_load_s rfl 23 _ rfl tyV rfl HC.out (by repeat (first | exact List.Mem.head _ | apply List.Mem.tail)) (GetS.all _) rfl ?_) | (refine at_load 3 rfl ?_; refine wl_load_c rfl 3 _ rfl tcI rfl HC.out (by repeat (first | exact List.Mem.head _ | apply List.Mem.tail)) (by repeat (first | exact GetS.cons _ (GetS.nil _) | apply GetS.skip)) ?_) | (go_at_call 16; (refine (HGO.out _).mono ?_; rintro e w2 ⟨rfl, hg⟩; (replace HC := hide (HC.out.g hg); clear hg))) | (go_at_call 27; (refine (HI.out _).mono ?_; rintro e w2 ⟨rfl, hg⟩; (replace HC := hide (HC.out.g hg); clear hg))) | (go_at_call 29; (refine (HI.out _).mono ?_; rintro e w2 ⟨rfl, hg⟩; (replace HC := hide (HC.out.g hg); clear hg))) | (go_at_call 28; (refine (HI.out _).mono ?_; rintro e w2 ⟨rfl, hg⟩; (replace HC := hide (HC.out.g hg); clear hg))) | (go_at_call 30; (refine (HNO.out _).mono ?_; rintro e w2 ⟨rfl, hg⟩; (replace HC := hide (HC.out.g hg); clear hg))) | (refine at_store 23 rfl ?_; refine wl_store rfl 23 _ _ rfl rfl rfl tyV.sz rfl HC.out (by repeat (first | exact List.Mem.head _ | apply List.Mem.tail)) (by exact PutS.all _ _ rfl) (by repeat (first | exact Upd.here _ _ _ | apply Upd.there)) ?_; intro w' hc; (replace HC := hide hc; clear hc))); refine ret_two Try.results13 rfl rfl HC.out (by repeat (first | exact List.Mem.head _ | apply List.Mem.tail)) tyV rfl ?_)
        exact ⟨by rw [HR.out]; rfl, HC.out.grown⟩
    have j1 : (v.f == 1) = false := by simpa using h1
    by_cases h4 : v.f = 4
    · have ht := good_t hg (by omega)
      obtain ⟨f, n, t⟩ := v
      dsimp only at h4 ht
      subst h4
      subst ht
      have hr := bits_xor IntKind.u32.max (n % 4294967296)
      by_cases hs2 : s = [45]
      · obtain ⟨X, hX⟩ : ∃ X, Go.bits .xor .u32 IntKind.u32.max (n % 4294967296) = X := ⟨_, rfl⟩
        obtain ⟨⟨⟨rf, rn, rt⟩, re⟩, hI⟩ : ∃ R, setR X = R := ⟨_, rfl⟩
        have HR := hide (show rk onesE s ⟨4, n, []⟩ Vl.z = (⟨rf, rn, rt⟩, re) by rw [rk_hit ones_nd (c := .cpl) (by rw [hs2]; exact .tail _ (.tail _ (.head _)))]; exact (congrArg setR hX).trans hI)
        rw [hX] at hr
        replace HI := hide (rset_as hr.1 hr.2 hI)
        have k2 := tE_tt hs2
        unfold vV
        clear hs2 hg hl hI h1
        (go_enter Try.func13, Try.ntmps13; go_wp2_with (first | (refine at_box 23 rfl ?_; refine wl_box rfl 23 _ rfl _ rfl HC.out ?_; intro b w' hn hc; (replace HC := hide hc; clear hc)) | (refine at_alloc 23 rfl ?_; refine wl_alloc rfl 23 rfl _ zV HC.out ?_; intro b w' hn hc; (replace HC := hide hc; clear hc)) | (refine at_load 23 rfl ?_; refine wl_load_s rfl 23 _ rfl tyV rfl HC.out (by repeat (first | exact List.Mem.head _ | apply List.Mem.tail)) (GetS.all _) rfl ?_) | (refine at_load 3 rfl ?_; refine wl_load_c rfl 3 _ rfl tcI rfl HC.out (by repeat (first | exact List.Mem.head _ | apply List.Mem.tail)) (by repeat (first | exact GetS.cons _ (GetS.nil _) | apply GetS.skip)) ?_) | (go_at_call 16; (refine (HGO.out _).mono ?_; rintro e w2 ⟨rfl, hg⟩; (replace HC := hide (HC.out.g hg); clear hg))) | (go_at_call 27; (refine (HI.out _).mono ?_; rintro e w2 ⟨rfl, hg⟩; (replace HC := hide (HC.out.g hg); clear hg))) | (go_at_call 29; (refine (HI.out _).mono ?_; rintro e w2 ⟨rfl, hg⟩; (replace HC := hide (HC.out.g hg); clear hg))) | (go_at_call 28; (refine (HI.out _).mono ?_; rintro e w2 ⟨rfl, hg⟩; (replace HC := hide (HC.out.g hg); clear hg))) | (go_at_call 30; (refine (HNO.out _).mono ?_; rintro e w2 ⟨rfl, hg⟩; (replace HC := hide (HC.out.g hg); clear hg))) | (refine at_store 23 rfl ?_; refine wl_store rfl 23 _ _ rfl rfl rfl tyV.sz rfl HC.out (by repeat (first | exact List.Mem.head _ | apply List.Mem.tail)) (by exact PutS.all _ _ rfl) (by repeat (first | exact Upd.here _ _ _ | apply Upd.there)) ?_; intro w' hc; (replace HC := hide hc; clear hc))); refine ret_two Try.results13 rfl rfl HC.out (by repeat (first | exact List.Mem.head _ | apply List.Mem.tail)) tyV rfl ?_)
        exact ⟨by rw [HR.out]; rfl, HC.out.grown⟩
      · have HR := hide (show rk onesE s ⟨4, n, []⟩ Vl.z = noR from rk_no (by
          rw [show sub onesE (⟨4, n, []⟩ : Vl).f Vl.z.f = [([45], .cpl)] by kernel_rfl]
          intro p hp e
          simp only [List.mem_cons, List.not_mem_nil, or_false] at hp
          subst hp
          exact hs2 e.symm))
        have k2 := tE_ff hs2
        unfold vV
        clear hs2 hg hl h1
        (go_enter Try.func13, Try.ntmps13; go_wp2_with (first | (refine at_box 23 rfl ?_; refine wl_box rfl 23 _ rfl _ rfl HC.out ?_; intro b w' hn hc; (replace HC := hide hc; clear hc)) | (refine at_alloc 23 rfl ?_; refine wl_alloc rfl 23 rfl _ zV HC.out ?_; intro b w' hn hc; (replace HC := hide hc; clear hc)) | (refine at_load 23 rfl ?_; refine wl_load_s rfl 23 _ rfl tyV rfl HC.out (by repeat (first | exact List.Mem.head _ | apply List.Mem.tail)) (GetS.all _) rfl ?_) | (refine at_load 3 rfl ?_; refine wl_load_c rfl 3 _ rfl tcI rfl HC.out (by repeat (first | exact List.Mem.head _ | apply List.Mem.tail)) (by repeat (first | exact GetS.cons _ (GetS.nil _) | apply GetS.skip)) ?_) | (go_at_call 16; (refine (HGO.out _).mono ?_; rintro e w2 ⟨rfl, hg⟩; (replace HC := hide (HC.out.g hg); clear hg))) | (go_at_call 27; (refine (HI.out _).mono ?_; rintro e w2 ⟨rfl, hg⟩; (replace HC := hide (HC.out.g hg); clear hg))) | (go_at_call 29; (refine (HI.out _).mono ?_; rintro e w2 ⟨rfl, hg⟩; (replace HC := hide (HC.out.g hg); clear hg))) | (go_at_call 28; (refine (HI.out _).mono ?_; rintro e w2 ⟨rfl, hg⟩; (replace HC := hide (HC.out.g hg); clear hg))) | (go_at_call 30; (refine (HNO.out _).mono ?_; rintro e w2 ⟨rfl, hg⟩; (replace HC := hide (HC.out.g hg); clear hg))) | (refine at_store 23 rfl ?_; refine wl_store rfl 23 _ _ rfl rfl rfl tyV.sz rfl HC.out (by repeat (first | exact List.Mem.head _ | apply List.Mem.tail)) (by exact PutS.all _ _ rfl) (by repeat (first | exact Upd.here _ _ _ | apply Upd.there)) ?_; intro w' hc; (replace HC := hide hc; clear hc))); refine ret_two Try.results13 rfl rfl HC.out (by repeat (first | exact List.Mem.head _ | apply List.Mem.tail)) tyV rfl ?_)
        exact ⟨by rw [HR.out]; rfl, HC.out.grown⟩
    have j4 : (v.f == 4) = false := by simpa using h4
    by_cases h2 : v.f = 2
    · have ht := good_t hg (by omega)
      obtain ⟨f, n, t⟩ := v
      dsimp only at h2 ht
      subst h2
      subst ht
      by_cases hs2 : s = [126]
      · obtain ⟨⟨⟨rf, rn, rt⟩, re⟩, hI⟩ : ∃ R, bolR (n == 0) = R := ⟨_, rfl⟩
        have HR := hide (show rk onesE s ⟨2, n, []⟩ Vl.z = (⟨rf, rn, rt⟩, re) by rw [rk_hit ones_nd (c := .not) (by rw [hs2]; exact .tail _ (.tail _ (.tail _ (.head _))))]; exact hI)
        replace HI := hide (rtruth_as hI)
        have k2 := tE_tt hs2
        unfold vV
        clear hs2 hg hl hI h1 h4
        (go_enter Try.func13, Try.ntmps13; go_wp2_with (first | (refine at_box 23 rfl ?_; refine wl_box rfl 23 _ rfl _ rfl HC.out ?_; intro b w' hn hc; (replace HC := hide hc; clear hc)) | (refine at_alloc 23 rfl ?_; refine wl_alloc rfl 23 rfl _ zV HC.out ?_; intro b w' hn hc; (replace HC := hide hc; clear hc)) | (refine at_load 23 rfl ?_; refine wl_load_s rfl 23 _ rfl tyV rfl HC.out (by repeat (first | exact List.Mem.head _ | apply List.Mem.tail)) (GetS.all _) rfl ?_) | (refine at_load 3 rfl ?_; refine wl_load_c rfl 3 _ rfl tcI rfl HC.out (by repeat (first | exact List.Mem.head _ | apply List.Mem.tail)) (by repeat (first | exact GetS.cons _ (GetS.nil _) | apply GetS.skip)) ?_) | (go_at_call 16; (refine (HGO.out _).mono ?_; rintro e w2 ⟨rfl, hg⟩; (replace HC := hide (HC.out.g hg); clear hg))) | (go_at_call 27; (refine (HI.out _).mono ?_; rintro e w2 ⟨rfl, hg⟩; (replace HC := hide (HC.out.g hg); clear hg))) | (go_at_call 29; (refine (HI.out _).mono ?_; rintro e w2 ⟨rfl, hg⟩; (replace HC := hide (HC.out.g hg); clear hg))) | (go_at_call 28; (refine (HI.out _).mono ?_; rintro e w2 ⟨rfl, hg⟩; (replace HC := hide (HC.out.g hg); clear hg))) | (go_at_call 30; (refine (HNO.out _).mono ?_; rintro e w2 ⟨rfl, hg⟩; (replace HC := hide (HC.out.g hg); clear hg))) | (refine at_store 23 rfl ?_; refine wl_store rfl 23 _ _ rfl rfl rfl tyV.sz rfl HC.out (by repeat (first | exact List.Mem.head _ | apply List.Mem.tail)) (by exact PutS.all _ _ rfl) (by repeat (first | exact Upd.here _ _ _ | apply Upd.there)) ?_; intro w' hc; (replace HC := hide hc; clear hc))); refine ret_two Try.results13 rfl rfl HC.out (by repeat (first | exact List.Mem.head _ | apply List.Mem.tail)) tyV rfl ?_)
        exact ⟨by rw [HR.out]; rfl, HC.out.grown⟩
      · have HR := hide (show rk onesE s ⟨2, n, []⟩ Vl.z = noR from rk_no (by
          rw [show sub onesE (⟨2, n, []⟩ : Vl).f Vl.z.f = [([126], .not)] by kernel_rfl]
          intro p hp e
          simp only [List.mem_cons, List.not_mem_nil, or_false] at hp
          subst hp
          exact hs2 e.symm))
        have k2 := tE_ff hs2
        unfold vV
        clear hs2 hg hl h1 h4
        (go_enter Try.func13, Try.ntmps13; go_wp2_with (first | (refine at_box 23 rfl ?_; refine wl_box rfl 23 _ rfl _ rfl HC.out ?_; intro b w' hn hc; (replace HC := hide hc; clear hc)) | (refine at_alloc 23 rfl ?_; refine wl_alloc rfl 23 rfl _ zV HC.out ?_; intro b w' hn hc; (replace HC := hide hc; clear hc)) | (refine at_load 23 rfl ?_; refine wl_load_s rfl 23 _ rfl tyV rfl HC.out (by repeat (first | exact List.Mem.head _ | apply List.Mem.tail)) (GetS.all _) rfl ?_) | (refine at_load 3 rfl ?_; refine wl_load_c rfl 3 _ rfl tcI rfl HC.out (by repeat (first | exact List.Mem.head _ | apply List.Mem.tail)) (by repeat (first | exact GetS.cons _ (GetS.nil _) | apply GetS.skip)) ?_) | (go_at_call 16; (refine (HGO.out _).mono ?_; rintro e w2 ⟨rfl, hg⟩; (replace HC := hide (HC.out.g hg); clear hg))) | (go_at_call 27; (refine (HI.out _).mono ?_; rintro e w2 ⟨rfl, hg⟩; (replace HC := hide (HC.out.g hg); clear hg))) | (go_at_call 29; (refine (HI.out _).mono ?_; rintro e w2 ⟨rfl, hg⟩; (replace HC := hide (HC.out.g hg); clear hg))) | (go_at_call 28; (refine (HI.out _).mono ?_; rintro e w2 ⟨rfl, hg⟩; (replace HC := hide (HC.out.g hg); clear hg))) | (go_at_call 30; (refine (HNO.out _).mono ?_; rintro e w2 ⟨rfl, hg⟩; (replace HC := hide (HC.out.g hg); clear hg))) | (refine at_store 23 rfl ?_; refine wl_store rfl 23 _ _ rfl rfl rfl tyV.sz rfl HC.out (by repeat (first | exact List.Mem.head _ | apply List.Mem.tail)) (by exact PutS.all _ _ rfl) (by repeat (first | exact Upd.here _ _ _ | apply Upd.there)) ?_; intro w' hc; (replace HC := hide hc; clear hc))); refine ret_two Try.results13 rfl rfl HC.out (by repeat (first | exact List.Mem.head _ | apply List.Mem.tail)) tyV rfl ?_)
        exact ⟨by rw [HR.out]; rfl, HC.out.grown⟩
    have j2 : (v.f == 2) = false := by simpa using h2
    have HR := hide (show rk onesE s v Vl.z = noR from rk_miss (by
      intro p hp e
      simp only [onesE, List.mem_cons, List.not_mem_nil, or_false] at hp
      rcases hp with rfl | rfl | rfl | rfl <;> (injection e with e1 e2; omega)))
    unfold vV
    clear hg hl h1 h4 h2
    (go_enter Try.func13, Try.ntmps13; go_wp2_with (first | (refine at_box 23 rfl ?_; refine wl_box rfl 23 _ rfl _ rfl HC.out ?_; intro b w' hn hc; (replace HC := hide hc; clear hc)) | (refine at_alloc 23 rfl ?_; refine wl_alloc rfl 23 rfl _ zV HC.out ?_; intro b w' hn hc; (replace HC := hide hc; clear hc)) | (refine at_load 23 rfl ?_; refine wl_load_s rfl 23 _ rfl tyV rfl HC.out (by repeat (first | exact List.Mem.head _ | apply List.Mem.tail)) (GetS.all _) rfl ?_) | (refine at_load 3 rfl ?_; refine wl_load_c rfl 3 _ rfl tcI rfl HC.out (by repeat (first | exact List.Mem.head _ | apply List.Mem.tail)) (by repeat (first | exact GetS.cons _ (GetS.nil _) | apply GetS.skip)) ?_) | (go_at_call 16; (refine (HGO.out _).mono ?_; rintro e w2 ⟨rfl, hg⟩; (replace HC := hide (HC.out.g hg); clear hg))) | (go_at_call 27; (refine (HI.out _).mono ?_; rintro e w2 ⟨rfl, hg⟩; (replace HC := hide (HC.out.g hg); clear hg))) | (go_at_call 29; (refine (HI.out _).mono ?_; rintro e w2 ⟨rfl, hg⟩; (replace HC := hide (HC.out.g hg); clear hg))) | (go_at_call 28; (refine (HI.out _).mono ?_; rintro e w2 ⟨rfl, hg⟩; (replace HC := hide (HC.out.g hg); clear hg))) | (go_at_call 30; (refine (HNO.out _).mono ?_; rintro e w2 ⟨rfl, hg⟩; (replace HC := hide (HC.out.g hg); clear hg))) | (refine at_store 23 rfl ?_; refine wl_store rfl 23 _ _ rfl rfl rfl tyV.sz rfl HC.out (by repeat (first | exact List.Mem.head _ | apply List.Mem.tail)) (by exact PutS.all _ _ rfl) (by repeat (first | exact Upd.here _ _ _ | apply Upd.there)) ?_; intro w' hc; (replace HC := hide hc; clear hc))); refine ret_two Try.results13 rfl rfl HC.out (by repeat (first | exact List.Mem.head _ | apply List.Mem.tail)) tyV rfl ?_)
    exact ⟨by rw [HR.out]; rfl, HC.out.grown⟩
theorem wr32 {a : Int} (h0 : -2147483648 ≤ a) (h1 : a < 2147483648) : wrap32 (a % 4294967296) = a := by unfold wrap32; omega
theorem wr32' {a : Int} (h0 : -2147483648 ≤ a) (h1 : a < 2147483648) : wrap32 a = a := by unfold wrap32; omega
def intsP (s : List UInt8) (a b : Int) : Rs := if s = [43] then intR (a + b) else if s = [45] then intR (a - b) else if s = [42] then intR (a * b) else if s = [68, 73, 86] then divR b (a / b) else if s = [77, 79, 68] then divR b (a % b) else noR
end Go.Proofs.Ytgdpcdpkaaefbaa.Cn
