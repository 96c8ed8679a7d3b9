/-
  Package consts: Call.
-/
import Derived.Test.YtgdpcdpkaaefbaaCn18
import Derived.Test.YtgdpcdpkaaefbaaCn19
namespace Go.Proofs.Ytgdpcdpkaaefbaa.Cn
open Go.RowKit hiding Hid
open Go.Maps Go.Proofs.Ytgdpcdpkaaefbaa.Tx Go.Proofs.Ytgdpcdpkaaefbaa.Lx Go.Proofs.Ytgdpcdpkaaefbaa.Mp Go.Proofs.Ytgdpcdpkaaefbaa.Bits Go.Proofs.Ytgdpcdpkaaefbaa.Tr Go.Proofs.Ytgdpcdpkaaefbaa.Bm
set_option linter.unusedVariables false
set_option linter.unusedSimpArgs false
set_option maxRecDepth 100000

theorem tyG : TyS Try.prog 70 6 := tyS_of Try.underlying70 rfl (by kernel_rfl)
theorem zG : (Try.prog.info? 70).bind (fun i => i.zero.map (·.cells)) = some ([.int .i64 0, .int .i64 0, .string (bs []), .int .i64 0, .int .i64 0, .string (bs [])] : List Value).toArray := by kernel_rfl
def callP (s : List UInt8) (l : List Vl) : Rs := if 2 < l.length then noR else if l.all goodV = true then rk callsE s (l.getD 0 Vl.z) (l.getD 1 Vl.z) else noR
theorem callP_long {s : List UInt8} {l : List Vl} (h : 2 < l.length) : callP s l = noR := if_pos h
theorem callP_bad {s : List UInt8} {l : List Vl} (h : ¬ 2 < l.length) {v : Vl} {i : Nat} (hv : l[i]? = some v) (hg : goodV v = false) : callP s l = noR := by
  unfold callP
  rw [if_neg h, if_neg]
  intro ha
  obtain ⟨hi, rfl⟩ := List.getElem?_eq_some_iff.1 hv
  rw [List.all_eq_true.1 ha _ (List.getElem_mem hi)] at hg
  cases hg
/- What stands in the two places behind so many values. -/
def Gv (l : List Vl) (i : Nat) (a b : Vl) : Prop := (i = 0 ∧ a = Vl.z ∧ b = Vl.z) ∨ (i = 1 ∧ l[0]? = some a ∧ goodV a = true ∧ b = Vl.z) ∨ (i = 2 ∧ l[0]? = some a ∧ goodV a = true ∧ l[1]? = some b ∧ goodV b = true)
theorem Gv.fin {s : List UInt8} {l : List Vl} {a b : Vl} (h : Gv l l.length a b) : gz a ∧ gz b ∧ callP s l = rk callsE s a b := by
  rcases h with ⟨h0, rfl, rfl⟩ | ⟨h0, h1, h2, rfl⟩ | ⟨h0, h1, h2, h3, h4⟩
  · match l, h0 with
    | [], _ => exact ⟨.inr rfl, .inr rfl, rfl⟩
  · match l, h0, h1 with
    | [x], _, h1 =>
      simp at h1
      subst h1
      refine ⟨.inl h2, .inr rfl, ?_⟩
      unfold callP
      rw [if_neg (by simp), if_pos (by simp [h2])]
      rfl
  · match l, h0, h1, h3 with
    | [x, y], _, h1, h3 =>
      simp at h1 h3
      subst h1
      subst h3
      refine ⟨.inl h2, .inl h4, ?_⟩
      unfold callP
      rw [if_neg (by simp), if_pos (by simp [h2, h4])]
      rfl
theorem nx_2 {w0 w : World} {A : Nat → Prop} {X : Option Nat} {L : List Lc} {Rs : List Rw} {Ts : List (List Dt × List Value)} {p : Lc} {b : Nat} {cs : List Value} {t : TypeId} (H : Cx w0 A X (p :: ⟨b, cs, t⟩ :: L) Rs Ts w) : NX (some b) p.b := ⟨fun e => (List.pairwise_cons.1 H.dis).1 _ (.head _) (by simpa using e)⟩
set_option maxHeartbeats 6400000 in
theorem pcall_at (s : List UInt8) (hs : s.length ≤ maxLen) {w : World} {o : Option Addr} {cp : Nat} {l : List Vl} (hl : l.length ≤ 1000000) (ht : ∀ v ∈ l, v.t.length ≤ 9223372036854775807) (h : Cls w o (l.flatMap vC)) : Calls Try.prog 19 #[.string (bs s), .slice o l.length cp] w (Told w (rsV (callP s l))) := by
  have HC := hide (Cx.start w (fun _ => False))
  have HO := hide h
  have HT := hide ht
  have HSL := hide hs
  have k1 : (l.length : Int) ≤ 1000000 := by omega
  clear h hl ht hs
  by_cases h2 : 2 < l.length
  · have j2 : (2 : Int) < l.length := by omega
    rw [callP_long h2]
    unfold rsV noR vV
    clear h2
    go_enter Try.func19, Try.ntmps19
    go_wp2_with (first | (refine at_alloc 23 rfl ?_; refine wl_alloc rfl 23 rfl _ zV HC.out ?_; intro b w' hn hc; (replace HC := hide hc; clear hc)) | (refine at_alloc 70 rfl ?_; refine wl_alloc rfl 70 rfl _ zG HC.out ?_; intro b w' hn hc; (replace HC := hide hc; clear hc)) | (refine at_store 23 rfl ?_; refine wl_store rfl 23 _ _ rfl rfl rfl tyV.sz rfl HC.out (by repeat (first | exact List.Mem.head _ | apply List.Mem.tail)) (by exact PutS.all _ _ rfl) (by repeat (first | exact Upd.here _ _ _ | apply Upd.there)) ?_; intro w' hc; (replace HC := hide hc; clear hc)))
    refine ret_two Try.results19 rfl rfl HC.out (by repeat (first | exact List.Mem.head _ | apply List.Mem.tail)) tyV rfl ?_
    exact ⟨rfl, HC.out.grown⟩
  have j2 : ¬ (2 : Int) < l.length := by omega
  have HL2 := hide h2
  clear h2
  go_enter Try.func19, Try.ntmps19
  go_wp2_with (first | (refine at_alloc 23 rfl ?_; refine wl_alloc rfl 23 rfl _ zV HC.out ?_; intro br w' hn hc; (replace HC := hide hc; clear hc)) | (refine at_alloc 70 rfl ?_; refine wl_alloc rfl 70 rfl _ zG HC.out ?_; intro bg w' hn hc; (replace HC := hide hc; clear hc)))
  go_loopw [15] (fun iv W => ∃ (i : Nat) (a b : Vl), i ≤ l.length ∧ iv = .int .i64 i ∧ Hid (Gv l i a b) ∧ Hid (Cx w (fun _ => False) none [⟨bg, [.int .i64 a.f, .int .i64 a.n, .string (bs a.t), .int .i64 b.f, .int .i64 b.n, .string (bs b.t)], 70⟩, ⟨br, [.int .i64 0, .int .i64 0, .string (bs [])], 23⟩] [] [] W)) (fun iv _ => l.length - (intOf iv).toNat)
  case atStart => exact ⟨0, Vl.z, Vl.z, by omega, rfl, hide (.inl ⟨rfl, rfl, rfl⟩), HC⟩
  case round =>
    clear HC
    obtain ⟨i, a, b, hi, rfl, HG, HC⟩ := hrel
    by_cases hlt : i < l.length
    · have j1 : (i : Int) < l.length := by omega
      obtain ⟨v, hv⟩ : ∃ p, l[i]? = some p := ⟨l[i], List.getElem?_eq_getElem hlt⟩
      have hvl := HT.out v (List.mem_of_getElem? hv)
      obtain ⟨ad, rfl, hel⟩ := HO.out.el vC_len (by decide) hv
      have HEL := hide (fun W (hW : w.grownBy W none) j u (hu : (vC v)[j]? = some u) => hW.cell (hel j u hu) (by simp))
      unfold vC at HEL
      obtain ⟨B, hB⟩ : ∃ B, ad.add (i * 3) = B := ⟨_, rfl⟩
      rw [hB] at HEL
      have HV := hide hv
      have M1 := True.intro
      cases hgd : goodV v with
      | false =>
        have HGD := hide (good_as hvl hgd)
        have HN := hide (callP_bad (s := s) HL2.out hv hgd)
        clear hel hv hvl hgd
        go_wp2_with (first | (refine at_alloc 23 rfl ?_; refine wl_alloc rfl 23 rfl _ zV HC.out ?_; intro b w' hn hc; (replace HC := hide hc; clear hc)) | (clear M1; (refine at_load 23 rfl ?_; refine wl_run rfl 23 _ rfl rfl (run_load_s tyV _ [.int .i64 v.f, .int .i64 v.n, .string (bs v.t)] rfl (HEL.out _ HC.out.grown)) ?_)) | (refine at_load 23 rfl ?_; refine wl_load_s rfl 23 _ rfl tyV rfl HC.out (by repeat (first | exact List.Mem.head _ | apply List.Mem.tail)) (GetS.all _) rfl ?_) | (refine at_store 23 rfl ?_; refine wl_store rfl 23 _ _ rfl rfl rfl tyV.sz rfl HC.out (by repeat (first | exact List.Mem.head _ | apply List.Mem.tail)) (by exact PutS.all _ _ rfl) (by repeat (first | exact Upd.here _ _ _ | apply Upd.there)) ?_; intro w' hc; (replace HC := hide hc; clear hc)) | (refine at_store 23 rfl ?_; refine wl_store (us := [.int .i64 v.f, .int .i64 v.n, .string (bs v.t)]) rfl 23 _ _ rfl rfl rfl tyV.sz rfl HC.out (by repeat (first | exact List.Mem.head _ | apply List.Mem.tail)) (by repeat (first | exact PutS.nil _ | apply PutS.cons | apply PutS.skip)) (by repeat (first | exact Upd.here _ _ _ | apply Upd.there)) ?_; intro w' hc; (replace HC := hide hc; clear hc)) | (go_at_call 15; refine (HGD.out _).mono ?_; rintro e w2 ⟨rfl, hg⟩; (replace HC := hide (HC.out.g hg); clear hg)))
        refine ret_two Try.results19 rfl rfl HC.out (by repeat (first | exact List.Mem.head _ | apply List.Mem.tail)) tyV rfl ?_
        exact ⟨by rw [HN.out]; rfl, HC.out.grown⟩
      | true =>
        have HGD := hide (good_as hvl hgd)
        have HK := hide hgd
        clear hel hvl hgd
        rcases HG.out with ⟨rfl, rfl, rfl⟩ | ⟨rfl, g1, g2, rfl⟩ | ⟨rfl, _⟩
        · have HV0 := hide hv
          clear hv
          go_wp2_with (first | (refine at_alloc 23 rfl ?_; refine wl_alloc rfl 23 rfl _ zV HC.out ?_; intro b w' hn hc; (replace HC := hide hc; clear hc)) | (clear M1; (refine at_load 23 rfl ?_; refine wl_run rfl 23 _ rfl rfl (run_load_s tyV _ [.int .i64 v.f, .int .i64 v.n, .string (bs v.t)] rfl (HEL.out _ HC.out.grown)) ?_)) | (refine at_load 23 rfl ?_; refine wl_load_s rfl 23 _ rfl tyV rfl HC.out (by repeat (first | exact List.Mem.head _ | apply List.Mem.tail)) (GetS.all _) rfl ?_) | (refine at_store 23 rfl ?_; refine wl_store rfl 23 _ _ rfl rfl rfl tyV.sz rfl HC.out (by repeat (first | exact List.Mem.head _ | apply List.Mem.tail)) (by exact PutS.all _ _ rfl) (by repeat (first | exact Upd.here _ _ _ | apply Upd.there)) ?_; intro w' hc; (replace HC := hide hc; clear hc)) | (refine at_store 23 rfl ?_; refine wl_store (us := [.int .i64 v.f, .int .i64 v.n, .string (bs v.t)]) rfl 23 _ _ rfl rfl rfl tyV.sz rfl HC.out (by repeat (first | exact List.Mem.head _ | apply List.Mem.tail)) (by repeat (first | exact PutS.nil _ | apply PutS.cons | apply PutS.skip)) (by repeat (first | exact Upd.here _ _ _ | apply Upd.there)) ?_; intro w' hc; (replace HC := hide hc; clear hc)) | (go_at_call 15; refine (HGD.out _).mono ?_; rintro e w2 ⟨rfl, hg⟩; (replace HC := hide (HC.out.g hg); clear hg)))
          go_roundw
          case rel => exact ⟨1, v, Vl.z, by omega, rfl, hide (.inr (.inl ⟨rfl, HV.out, HK.out, rfl⟩)), hide HC.out.drop⟩
          case measure => simp [intOf]; omega
        · have G1' := hide g1
          have G2' := hide g2
          clear hv g1 g2
          go_wp2_with (first | (refine at_alloc 23 rfl ?_; refine wl_alloc rfl 23 rfl _ zV HC.out ?_; intro b w' hn hc; (replace HC := hide hc; clear hc)) | (clear M1; (refine at_load 23 rfl ?_; refine wl_run rfl 23 _ rfl rfl (run_load_s tyV _ [.int .i64 v.f, .int .i64 v.n, .string (bs v.t)] rfl (HEL.out _ HC.out.grown)) ?_)) | (refine at_load 23 rfl ?_; refine wl_load_s rfl 23 _ rfl tyV rfl HC.out (by repeat (first | exact List.Mem.head _ | apply List.Mem.tail)) (GetS.all _) rfl ?_) | (refine at_store 23 rfl ?_; refine wl_store rfl 23 _ _ rfl rfl rfl tyV.sz rfl HC.out (by repeat (first | exact List.Mem.head _ | apply List.Mem.tail)) (by exact PutS.all _ _ rfl) (by repeat (first | exact Upd.here _ _ _ | apply Upd.there)) ?_; intro w' hc; (replace HC := hide hc; clear hc)) | (refine at_store 23 rfl ?_; refine wl_store (us := [.int .i64 v.f, .int .i64 v.n, .string (bs v.t)]) rfl 23 _ _ rfl rfl rfl tyV.sz rfl HC.out (by repeat (first | exact List.Mem.head _ | apply List.Mem.tail)) (by repeat (first | exact PutS.nil _ | apply PutS.cons | apply PutS.skip)) (by repeat (first | exact Upd.here _ _ _ | apply Upd.there)) ?_; intro w' hc; (replace HC := hide hc; clear hc)) | (go_at_call 15; refine (HGD.out _).mono ?_; rintro e w2 ⟨rfl, hg⟩; (replace HC := hide (HC.out.g hg); clear hg)))
          go_roundw
          case rel => exact ⟨2, a, v, by omega, rfl, hide (.inr (.inr ⟨rfl, G1'.out, G2'.out, HV.out, HK.out⟩)), hide HC.out.drop⟩
          case measure => simp [intOf]; omega
        · exact absurd hlt HL2.out
    · have j1 : ¬ (i : Int) < l.length := by omega
      obtain rfl : i = l.length := by omega
      obtain ⟨ga, gb, hR⟩ := HG.out.fin (s := s)
      obtain ⟨⟨⟨rf, rn, rt⟩, re⟩, hI⟩ : ∃ R, rk callsE s a b = R := ⟨_, rfl⟩
      have HR := hide (reckon_as calls_nd ga gb HSL.out (mul_of (by kernel_rfl)) hI)
      have HRR := hide (hR.trans hI)
      clear hR hI ga gb
      go_wp2_with fail
      (replace HC := hide (HC.out.g (d1_g _)); have HC0 := HC; refine wp_region_inO (fun W => World.grownBy _ W (some br)) 99 [1, 2, 3, 4, 5, 7, 8, 10] [1, 2, 3, 4, 5, 0, 6, 7, 8, 9, 10] (by kernel_rfl) (by kernel_rfl) (by kernel_rfl) (by kernel_rfl) (fun _ _ d _ _ h => by cases d <;> exact h) (gr_ref _ _) ?_; have HS := hide (gr_of HC.out (some br)))
      (refine inO_read (v := ?_) rfl rfl (Or.inl ⟨by rfl, ?_⟩) ?_; rotate_left 1; (focus (intro W hSW; clear hSW; go_simp; (try (with_reducible rfl)))); (try simp only [Act.put, List.getElem_toArray, List.getElem_cons_zero, List.getElem_cons_succ, List.setIfInBounds_toArray, List.set_cons_zero, List.set_cons_succ]))
      (refine inO_read (v := ?_) rfl rfl (Or.inl ⟨by rfl, ?_⟩) ?_; rotate_left 1; (focus (intro W hSW; clear hSW; go_simp; (try (with_reducible rfl)))); (try simp only [Act.put, List.getElem_toArray, List.getElem_cons_zero, List.getElem_cons_succ, List.setIfInBounds_toArray, List.set_cons_zero, List.set_cons_succ]))
      refine inO_read rfl rfl (yl_s tyV rfl rfl rfl HC0.out (nx_2 HC0.out) (.head _) (us := [.int .i64 a.f, .int .i64 a.n, .string (bs a.t)]) (by repeat (first | exact GetS.nil _ | apply GetS.cons | apply GetS.skip)) rfl) ?_
      (try simp only [Act.put, List.getElem_toArray, List.getElem_cons_zero, List.getElem_cons_succ, List.setIfInBounds_toArray, List.set_cons_zero, List.set_cons_succ])
      (refine inO_read (v := ?_) rfl rfl (Or.inl ⟨by rfl, ?_⟩) ?_; rotate_left 1; (focus (intro W hSW; clear hSW; go_simp; (try (with_reducible rfl)))); (try simp only [Act.put, List.getElem_toArray, List.getElem_cons_zero, List.getElem_cons_succ, List.setIfInBounds_toArray, List.set_cons_zero, List.set_cons_succ]))
      refine inO_read rfl rfl (yl_s tyV rfl rfl rfl HC0.out (nx_2 HC0.out) (.head _) (us := [.int .i64 b.f, .int .i64 b.n, .string (bs b.t)]) (by repeat (first | exact GetS.nil _ | apply GetS.cons | apply GetS.skip)) rfl) ?_
      (try simp only [Act.put, List.getElem_toArray, List.getElem_cons_zero, List.getElem_cons_succ, List.setIfInBounds_toArray, List.set_cons_zero, List.set_cons_succ])
      (refine inO_act rfl rfl rfl (fun K' hK => ?_))
      go_simp
      refine (calls_at _).mono ?_
      rintro e w1 ⟨mb, rfl, hg, hM⟩
      have HM := hide hM
      clear hM
      (replace HC := hide (HC.out.g hg); refine hK _ _ (.inr (gr_then0 HS.out hg)) ?_; replace HS := hide (gr_then0 HS.out hg); clear hK K' hg; (try simp only [Act.put, List.getElem_toArray, List.getElem_cons_zero, List.getElem_cons_succ, List.setIfInBounds_toArray, List.set_cons_zero, List.set_cons_succ]))
      (refine inO_act rfl rfl rfl (fun K' hK => ?_))
      go_simp
      refine (HR.out _ mb HM.out).mono ?_
      rintro e w1 ⟨rfl, hg⟩
      (replace HC := hide (HC.out.g hg); refine hK _ _ (.inr (gr_then0 HS.out hg)) ?_; replace HS := hide (gr_then0 HS.out hg); clear hK K' hg; (try simp only [Act.put, List.getElem_toArray, List.getElem_cons_zero, List.getElem_cons_succ, List.setIfInBounds_toArray, List.set_cons_zero, List.set_cons_succ]))
      (refine inO_read (v := ?_) rfl rfl (Or.inl ⟨by rfl, ?_⟩) ?_; rotate_left 1; (focus (intro W hSW; clear hSW; go_simp; (try (with_reducible rfl)))); (try simp only [Act.put, List.getElem_toArray, List.getElem_cons_zero, List.getElem_cons_succ, List.setIfInBounds_toArray, List.set_cons_zero, List.set_cons_succ]))
      (refine inO_read (v := ?_) rfl rfl (Or.inl ⟨by rfl, ?_⟩) ?_; rotate_left 1; (focus (intro W hSW; clear hSW; go_simp; (try (with_reducible rfl)))); (try simp only [Act.put, List.getElem_toArray, List.getElem_cons_zero, List.getElem_cons_succ, List.setIfInBounds_toArray, List.set_cons_zero, List.set_cons_succ]))
      ((refine inO_act rfl rfl rfl (fun K' hK => ?_)); refine op_store_g _ _ _ rfl rfl rfl tyV.sz rfl HC.out (by repeat (first | exact List.Mem.head _ | apply List.Mem.tail)) (by exact PutS.all _ _ rfl) (by repeat (first | exact Upd.here _ _ _ | apply Upd.there)) ?_; intro w' hg hc; (replace HC := hide hc; clear hc); refine hK _ _ (.inr (gr_then HS.out hg)) ?_; replace HS := hide (gr_then HS.out hg); clear hK K' hg; (try simp only [Act.put, List.getElem_toArray, List.getElem_cons_zero, List.getElem_cons_succ, List.setIfInBounds_toArray, List.set_cons_zero, List.set_cons_succ]))
      (refine inO_read (v := ?_) rfl rfl (Or.inl ⟨by rfl, ?_⟩) ?_; rotate_left 1; (focus (intro W hSW; clear hSW; go_simp; (try (with_reducible rfl)))); (try simp only [Act.put, List.getElem_toArray, List.getElem_cons_zero, List.getElem_cons_succ, List.setIfInBounds_toArray, List.set_cons_zero, List.set_cons_succ]))
      (refine inO_end ?_)
      go_wp2
      refine ret_two Try.results19 rfl rfl HC.out (by repeat (first | exact List.Mem.head _ | apply List.Mem.tail)) tyV rfl ?_
      exact ⟨by rw [HRR.out]; rfl, HC.out.grown⟩
end Go.Proofs.Ytgdpcdpkaaefbaa.Cn
