/-
  Package consts: One, Two.
-/
import Derived.Test.YtgdpcdpkaaefbaaCn16
namespace Go.Proofs.Ytgdpcdpkaaefbaa.Cn
open Go.RowKit hiding Hid
open Go.Maps Go.Proofs.Ytgdpcdpkaaefbaa.Tx Go.Proofs.Ytgdpcdpkaaefbaa.Lx Go.Proofs.Ytgdpcdpkaaefbaa.Mp Go.Proofs.Ytgdpcdpkaaefbaa.Bits Go.Proofs.Ytgdpcdpkaaefbaa.Tr
set_option linter.unusedVariables false
set_option linter.unusedSimpArgs false
set_option maxRecDepth 100000

/- What a good value is. -/
theorem good_rg {v : Vl} (h : goodV v = true) : (-4294967296 ≤ v.n ∧ v.n < 4294967296) ∧ v.t.length ≤ 64 ∧ (v.f = 1 → -2147483648 ≤ v.n ∧ v.n < 2147483648) ∧ 1 ≤ v.f ∧ v.f ≤ 6 := by
  obtain ⟨f, n, t⟩ := v
  unfold goodV at h
  dsimp only at h ⊢
  by_cases h6 : f = 6
  · rw [if_pos h6] at h
    simp only [Bool.and_eq_true, beq_iff_eq, strB, decide_eq_true_eq] at h
    omega
  · rw [if_neg h6] at h
    simp only [Bool.and_eq_true, List.isEmpty_iff] at h
    obtain ⟨rfl, h⟩ := h
    unfold goodN at h
    simp only [List.length_nil]
    by_cases h1 : f = 1
    · rw [if_pos h1] at h; simp only [inR, Bool.and_eq_true, decide_eq_true_eq] at h; omega
    rw [if_neg h1] at h
    by_cases h2 : f = 2
    · rw [if_pos h2] at h; simp only [wiB, Bool.and_eq_true, decide_eq_true_eq] at h; omega
    rw [if_neg h2] at h
    by_cases h3 : f = 3
    · rw [if_pos h3] at h; simp only [wiB, Bool.and_eq_true, decide_eq_true_eq] at h; omega
    rw [if_neg h3] at h
    by_cases h4 : f = 4
    · rw [if_pos h4] at h; simp only [wiB, Bool.and_eq_true, decide_eq_true_eq] at h; omega
    rw [if_neg h4] at h
    simp only [Bool.and_eq_true, beq_iff_eq] at h
    omega
def gz (v : Vl) : Prop := goodV v = true ∨ v = Vl.z
theorem gz_rg {v : Vl} (h : gz v) : (-4294967296 ≤ v.n ∧ v.n < 4294967296) ∧ v.t.length ≤ 64 ∧ (v.f = 1 → -2147483648 ≤ v.n ∧ v.n < 2147483648) ∧ 0 ≤ v.f ∧ v.f ≤ 6 := by
  rcases h with h | rfl
  · have := good_rg h; omega
  · simp [Vl.z]
theorem pre_of {a b : Vl} (ha : gz a) (hb : gz b) {c : Cd} (hm : c = .mul → a.f = 1 ∧ b.f = 1) : Pre c a b := by
  obtain ⟨a1, a2, a3, a4⟩ := gz_rg ha
  obtain ⟨b1, b2, b3, b4⟩ := gz_rg hb
  exact ⟨a1.1, a1.2, b1.1, b1.2, by omega, fun h => ⟨a3 (hm h).1, b3 (hm h).2⟩⟩
theorem kok_gz {a b : Vl} (ha : gz a) (hb : gz b) {s : List UInt8} (hs : s.length ≤ maxLen) : kok (a.f, b.f, s) := by
  have h1 := (gz_rg ha).2.2.2
  have h2 := (gz_rg hb).2.2.2
  exact ⟨⟨by simp only; omega, by simp only; omega⟩, ⟨by simp only; omega, by simp only; omega⟩, hs⟩
/- reckon, with its answer by its parts. -/
theorem reckon_as {E : List (Ky × Cd)} (hd : (E.map (·.1)).Nodup) {s : List UInt8} {a b : Vl} (ha : gz a) (hb : gz b) (hs : s.length ≤ maxLen) (hm : ∀ x, (x, Cd.mul) ∈ E → x.1 = 1 ∧ x.2.1 = 1) {rf rn re : Int} {rt : List UInt8} (h : rk E s a b = (⟨rf, rn, rt⟩, re)) : ∀ W mb, MapK W mb E → Calls Try.prog 25 #[.map (some mb), .string (bs s), .agg #[.int .i64 a.f, .int .i64 a.n, .string (bs a.t)], .agg #[.int .i64 b.f, .int .i64 b.n, .string (bs b.t)]] W (Told W (.tuple #[.agg #[.int .i64 rf, .int .i64 rn, .string (bs rt)], .int .i64 re])) := fun W mb hM => by
  have := reckon_at hM hd s a b (kok_gz ha hb hs) (fun c hc => pre_of ha hb (fun e => by subst e; exact hm _ hc))
  rw [h] at this
  exact this
theorem ones_nd : (onesE.map (·.1)).Nodup := of_decide_eq_true (by kernel_rfl)
theorem twos_nd : ((litE ++ relE).map (·.1)).Nodup := of_decide_eq_true (by kernel_rfl)
theorem calls_nd : (callsE.map (·.1)).Nodup := of_decide_eq_true (by kernel_rfl)
def mulB (E : List (Ky × Cd)) : Bool := E.all fun p => (p.2 != Cd.mul) || ((p.1.1 == 1) && (p.1.2.1 == 1))
theorem mul_of {E : List (Ky × Cd)} (h : mulB E = true) : ∀ x, (x, Cd.mul) ∈ E → x.1 = 1 ∧ x.2.1 = 1 := fun x hx => by
  have := List.all_eq_true.1 h _ hx
  simpa using this
def oneP (s : List UInt8) (v : Vl) : Rs := if goodV v = true then rk onesE s v Vl.z else noR
set_option maxHeartbeats 3200000 in
theorem one_at (s : List UInt8) (hs : s.length ≤ maxLen) (v : Vl) (hv : v.t.length ≤ 9223372036854775807) (w : World) : Calls Try.prog 12 #[.string (bs s), vV v] w (Told w (rsV (oneP s v))) := by
  have HC := hide (Cx.start w (fun _ => False))
  have HGo := fun W => good_at v hv W
  unfold oneP
  cases hg : goodV v with
  | false =>
    rw [if_neg (by simp)]
    rw [hg] at HGo
    unfold vV at HGo
    unfold vV noR rsV
    replace HGo := hide HGo
    clear hg
    go_enter Try.func12, Try.ntmps12
    go_wp2_with (first | (refine at_box 23 rfl ?_; refine wl_box rfl 23 _ rfl _ rfl HC.out ?_; intro b w' hn hc; (replace HC := hide hc; clear hc)) | (refine at_alloc 23 rfl ?_; refine wl_alloc rfl 23 rfl _ zV HC.out ?_; intro b w' hn hc; (replace HC := hide hc; clear hc)) | (refine at_load 23 rfl ?_; refine wl_load_s rfl 23 _ rfl tyV rfl HC.out (by repeat (first | exact List.Mem.head _ | apply List.Mem.tail)) (GetS.all _) rfl ?_) | (go_at_call 15; refine (HGo.out _).mono ?_; rintro e w2 ⟨rfl, hg⟩; (replace HC := hide (HC.out.g hg); clear hg)) | (refine at_store 23 rfl ?_; refine wl_store rfl 23 _ _ rfl rfl rfl tyV.sz rfl HC.out (by repeat (first | exact List.Mem.head _ | apply List.Mem.tail)) (by exact PutS.all _ _ rfl) (by repeat (first | exact Upd.here _ _ _ | apply Upd.there)) ?_; intro w' hc; (replace HC := hide hc; clear hc)))
    refine ret_two Try.results12 rfl rfl HC.out (by repeat (first | exact List.Mem.head _ | apply List.Mem.tail)) tyV rfl ?_
    exact ⟨rfl, HC.out.grown⟩
  | true =>
    rw [if_pos rfl]
    obtain ⟨⟨⟨rf, rn, rt⟩, re⟩, hI⟩ : ∃ R, rk onesE s v Vl.z = R := ⟨_, rfl⟩
    have HR := hide (reckon_as ones_nd (.inl hg) (.inr rfl) hs (mul_of (by kernel_rfl)) hI)
    rw [hI]
    rw [hg] at HGo
    unfold vV at HGo
    unfold vV rsV
    replace HGo := hide HGo
    dsimp only
    clear hg hI
    go_enter Try.func12, Try.ntmps12
    go_wp2_with (first | (refine at_box 23 rfl ?_; refine wl_box rfl 23 _ rfl _ rfl HC.out ?_; intro b w' hn hc; (replace HC := hide hc; clear hc)) | (refine at_alloc 23 rfl ?_; refine wl_alloc rfl 23 rfl _ zV HC.out ?_; intro b w' hn hc; (replace HC := hide hc; clear hc)) | (refine at_load 23 rfl ?_; refine wl_load_s rfl 23 _ rfl tyV rfl HC.out (by repeat (first | exact List.Mem.head _ | apply List.Mem.tail)) (GetS.all _) rfl ?_) | (go_at_call 15; refine (HGo.out _).mono ?_; rintro e w2 ⟨rfl, hg⟩; (replace HC := hide (HC.out.g hg); clear hg)))
    (replace HC := hide (HC.out.g (d1_g _)); have HC0 := HC; refine wp_region_inO (fun W => World.grownBy _ W (some b)) 99 [1, 2, 3, 5, 6, 8] [1, 2, 3, 0, 4, 5, 6, 7, 8] (by kernel_rfl) (by kernel_rfl) (by kernel_rfl) (by kernel_rfl) (fun _ _ d _ _ h => by cases d <;> exact h) (gr_ref _ _) ?_; have HS := hide (gr_of HC.out (some b)))
    (refine inO_read (v := ?_) rfl rfl (Or.inl ⟨by rfl, ?_⟩) ?_; rotate_left 1; (focus (intro W hSW; clear hSW; go_simp; (try (with_reducible rfl)))); (try simp only [Act.put, List.getElem_toArray, List.getElem_cons_zero, List.getElem_cons_succ, List.setIfInBounds_toArray, List.set_cons_zero, List.set_cons_succ]))
    (refine inO_read rfl rfl (yl_s tyV rfl rfl rfl HC0.out (nx_head HC0.out (p := ⟨_, _, _⟩) (by repeat (first | exact List.Mem.head _ | apply List.Mem.tail))) (by repeat (first | exact List.Mem.head _ | apply List.Mem.tail)) (GetS.all _) rfl) ?_; (try simp only [Act.put, List.getElem_toArray, List.getElem_cons_zero, List.getElem_cons_succ, List.setIfInBounds_toArray, List.set_cons_zero, List.set_cons_succ]))
    (refine inO_read (v := ?_) rfl rfl (Or.inl ⟨by rfl, ?_⟩) ?_; rotate_left 1; (focus (intro W hSW; clear hSW; go_simp; (try (with_reducible rfl)))); (try simp only [Act.put, List.getElem_toArray, List.getElem_cons_zero, List.getElem_cons_succ, List.setIfInBounds_toArray, List.set_cons_zero, List.set_cons_succ]))
    (refine inO_act rfl rfl rfl (fun K' hK => ?_))
    go_simp
    refine (ones_at _).mono ?_
    rintro e w1 ⟨mb, rfl, hg, hM⟩
    have HM := hide hM
    clear hM
    (replace HC := hide (HC.out.g hg); refine hK _ _ (.inr (gr_then0 HS.out hg)) ?_; replace HS := hide (gr_then0 HS.out hg); clear hK K' hg; (try simp only [Act.put, List.getElem_toArray, List.getElem_cons_zero, List.getElem_cons_succ, List.setIfInBounds_toArray, List.set_cons_zero, List.set_cons_succ]))
    (refine inO_act rfl rfl rfl (fun K' hK => ?_))
    go_simp
    refine (HR.out _ mb HM.out).mono ?_
    rintro e w1 ⟨rfl, hg⟩
    (replace HC := hide (HC.out.g hg); refine hK _ _ (.inr (gr_then0 HS.out hg)) ?_; replace HS := hide (gr_then0 HS.out hg); clear hK K' hg; (try simp only [Act.put, List.getElem_toArray, List.getElem_cons_zero, List.getElem_cons_succ, List.setIfInBounds_toArray, List.set_cons_zero, List.set_cons_succ]))
    (refine inO_read (v := ?_) rfl rfl (Or.inl ⟨by rfl, ?_⟩) ?_; rotate_left 1; (focus (intro W hSW; clear hSW; go_simp; (try (with_reducible rfl)))); (try simp only [Act.put, List.getElem_toArray, List.getElem_cons_zero, List.getElem_cons_succ, List.setIfInBounds_toArray, List.set_cons_zero, List.set_cons_succ]))
    (refine inO_read (v := ?_) rfl rfl (Or.inl ⟨by rfl, ?_⟩) ?_; rotate_left 1; (focus (intro W hSW; clear hSW; go_simp; (try (with_reducible rfl)))); (try simp only [Act.put, List.getElem_toArray, List.getElem_cons_zero, List.getElem_cons_succ, List.setIfInBounds_toArray, List.set_cons_zero, List.set_cons_succ]))
    ((refine inO_act rfl rfl rfl (fun K' hK => ?_)); refine op_store_g _ _ _ rfl rfl rfl tyV.sz rfl HC.out (by repeat (first | exact List.Mem.head _ | apply List.Mem.tail)) (by exact PutS.all _ _ rfl) (by repeat (first | exact Upd.here _ _ _ | apply Upd.there)) ?_; intro w' hg hc; (replace HC := hide hc; clear hc); refine hK _ _ (.inr (gr_then HS.out hg)) ?_; replace HS := hide (gr_then HS.out hg); clear hK K' hg; (try simp only [Act.put, List.getElem_toArray, List.getElem_cons_zero, List.getElem_cons_succ, List.setIfInBounds_toArray, List.set_cons_zero, List.set_cons_succ]))
    (refine inO_read (v := ?_) rfl rfl (Or.inl ⟨by rfl, ?_⟩) ?_; rotate_left 1; (focus (intro W hSW; clear hSW; go_simp; (try (with_reducible rfl)))); (try simp only [Act.put, List.getElem_toArray, List.getElem_cons_zero, List.getElem_cons_succ, List.setIfInBounds_toArray, List.set_cons_zero, List.set_cons_succ]))
    (refine inO_end ?_)
    go_wp2
    refine ret_two Try.results12 rfl rfl HC.out (by repeat (first | exact List.Mem.head _ | apply List.Mem.tail)) tyV rfl ?_
    exact ⟨rfl, HC.out.grown⟩
end Go.Proofs.Ytgdpcdpkaaefbaa.Cn
