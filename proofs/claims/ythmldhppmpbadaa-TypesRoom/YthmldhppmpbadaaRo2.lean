/-
  Types' laws: TypesRoom, for every input.
-/
import Derived.Test.YthmldhppmpbadaaY13
import Derived.Test.YthmldhppmpbadaaY14
namespace Go.Proofs.Ythmldhppmpbadaa.Ty
open Go.RowKit hiding Hid
open Go.Maps Go.Proofs.Ythmldhppmpbadaa.Tx Go.Proofs.Ythmldhppmpbadaa.Lx Go.Proofs.Ythmldhppmpbadaa.Tr Go.Proofs.Ythmldhppmpbadaa.Mp
set_option linter.unusedVariables false
set_option linter.unusedSimpArgs false
set_option maxRecDepth 100000

theorem room_E : ∀ x ∈ [aX 2 1, oX 3], x.fl = [] ∧ x.pm = [] ∧ x.md = [] ∧ x.nm = [] := by
  intro x hx
  simp only [List.mem_cons, List.not_mem_nil, or_false] at hx
  rcases hx with rfl | rfl <;> exact ⟨rfl, rfl, rfl, rfl⟩
set_option maxHeartbeats 8000000 in
theorem room_out {w : World} {o : Option Addr} {cp : Nat} {l : List La} {T : List Tt} (hT : l.map La.x = T) (H : TabR w o l) (hl : l.length ≤ rch) (hf : Few l) (G : GoodP T) (h250 : T.length ≤ 250) (a b : Int) (hn : ¬ (inT T.length a = true ∧ inT T.length b = true)) : Calls Try.prog 9 #[.slice o T.length cp, .int .i64 a, .int .i64 b] w (SzO w (.bool true)) := by
  have HTb := hide (show Tab w o T by have h := hf.tab H; rw [hT] at h; exact h)
  have HT := hide H
  have HTe := hide hT
  have HLl := hide hl
  have HG := hide G
  have HN := hide (snd_no hn)
  have H25 := hide h250
  have j0 : ¬ (250 : Int) < T.length := by omega
  (obtain ⟨hsm, hbd⟩ := few_T hT H hf; have HSm := hide hsm; have HBd := hide hbd; have HFw := hide hf; clear hsm hbd)
  have HC := hide (Cx.start w (fun _ => False))
  have M1 := True.intro
  have hc : a < 0 ∨ (0 ≤ a ∧ b < 0) ∨ (0 ≤ a ∧ 0 ≤ b ∧ (T.length : Int) ≤ a) ∨ (0 ≤ a ∧ 0 ≤ b ∧ a < T.length ∧ (T.length : Int) ≤ b) := by
    by_cases a0 : a < 0
    · exact .inl a0
    by_cases b0 : b < 0
    · exact .inr (.inl ⟨by omega, b0⟩)
    by_cases a1 : a < T.length
    · by_cases b1 : b < T.length
      · exact absurd ⟨by unfold inT; simp; omega, by unfold inT; simp; omega⟩ hn
      · exact .inr (.inr (.inr (by omega)))
    · exact .inr (.inr (.inl (by omega)))
  clear H hT hl hf G hn h250
  rcases hc with h | h | h | h
  all_goals (
    go_enter Try.func9, Try.ntmps9
    go_wp2_with (first | (go_at_call 23; refine (large_T13 cp HTe.out (HT.out.kept HC.out.grown) HLl.out).mono ?_; rintro e w1 ⟨d, rfl, hg, hd⟩; replace HC := hide (HC.out.g hg); clear hg; cases d <;> clear hd) | (go_at_call 25; refine (wakes13 _).mono ?_; rintro e w1 ⟨rfl, hg⟩; replace HC := hide (HC.out.g hg); clear hg) | (go_at_call 24; refine (rgood_at _ (HTb.out.kept HC.out.grown)).mono ?_; rintro e w1 ⟨d, rfl, hg, hd⟩; obtain rfl : d = true := hd.2 HG.out; replace HC := hide (HC.out.g hg); clear hg hd) | (go_at_call 26; clear M1; refine (copy_V cp HTe.out (HT.out.kept HC.out.grown) HFw.out).mono ?_; rintro e w1 ⟨oi, ci, xs, rfl, hg, hr, hv⟩; refine Cx.row_u HC.out hg hr hv ?_; intro hc; (replace HC := hide hc; clear hc); clear hg hr hv) | (refine at_bs 24 rfl ?_; refine wl_bl rfl 24 _ _ rfl 48 (laC (lB (aX 2 1)) ++ laC (lB (oX 3))) HC.out (by kernel_rfl) ?_; intro bY w' hn hc; (replace HC := hide hc; clear hc)) | (refine at_call2 (b := .append) rfl ?_; refine wl_apc rfl _ _ rfl Try.underlying24 infoT (by decide) (by decide) rfl rfl HC.out (loc_cls HC.out (.head _)) rfl (fun e => by cases e) rfl (by omega) ?_; intro d9 cp9 w' hc; (replace HC := hide hc; clear hc); have H9 := HC.out; obtain ⟨ht, hcp⟩ := tab_more (E := [aX 2 1, oX 3]) (by have := H25.out; omega) (by decide) HSm.out HBd.out room_E H9 (by rw [List.length_append]; rfl) rfl; rw [show T ++ [aX 2 1, oX 3] = roomT T from rfl] at ht; have HTn := hide ht; have HCn := hide hcp; have HG0 := hide HC.out.grown; replace HC := hide (Cx.start w' (fun _ => False)); clear ht hcp H9) | (go_at_call 26; refine (copy_T13 cp HTe.out (HT.out.kept (gr_then HG0.out HC.out.grown)) HFw.out).mono ?_; rintro e w1 ⟨oi, ci, rfl, hg, ht, hci⟩; replace HTn := hide ((HTn.out.kept HC.out.grown).kept hg); replace HG0 := hide (gr_then HG0.out (gr_then HC.out.grown hg)); replace HC := hide (Cx.start w1 (fun _ => False)); have HTi := hide ht; have HCi := hide hci; clear hg ht hci) | (go_at_call 27; refine (same_no (HTi.out.kept HC.out.grown) HCi.out HN.out).mono ?_; (rintro e w2 ⟨rfl, hg⟩; replace HC := hide (HC.out.g hg); clear hg)) | (go_at_call 28; refine (exts_no (HTi.out.kept HC.out.grown) HCi.out HN.out).mono ?_; (rintro e w2 ⟨rfl, hg⟩; replace HC := hide (HC.out.g hg); clear hg)) | (go_at_call 29; refine (asg_out (HTi.out.kept HC.out.grown) HCi.out HN.out).mono ?_; (rintro e w2 ⟨rfl, hg⟩; replace HC := hide (HC.out.g hg); clear hg)))
    (all_goals go_ret; all_goals (first | exact ⟨rfl, HC.out.grown⟩ | exact ⟨rfl, gr_then HG0.out HC.out.grown⟩)))
set_option maxHeartbeats 8000000 in
theorem room_in {w : World} {o : Option Addr} {cp : Nat} {l : List La} {T : List Tt} (hT : l.map La.x = T) (H : TabR w o l) (hl : l.length ≤ rch) (hf : Few l) (G : GoodP T) (h250 : T.length ≤ 250) {a b : Nat} (ha : a < T.length) (hb : b < T.length) : Calls Try.prog 9 #[.slice o T.length cp, .int .i64 a, .int .i64 b] w (SzO w (.bool true)) := by
  have HTb := hide (show Tab w o T by have h := hf.tab H; rw [hT] at h; exact h)
  have HT := hide H
  have HTe := hide hT
  have HLl := hide hl
  have HG := hide G
  have HI := hide ha
  have HJ := hide hb
  have H25 := hide h250
  have j0 : ¬ (250 : Int) < T.length := by omega
  have j1 : (a : Int) < T.length := by omega
  have j2 : (b : Int) < T.length := by omega
  (obtain ⟨hsm, hbd⟩ := few_T hT H hf; have HSm := hide hsm; have HBd := hide hbd; have HFw := hide hf; clear hsm hbd)
  have G2 := good_room G h250
  have ha2 : a < (roomT T).length := by rw [room_len]; omega
  have hb2 : b < (roomT T).length := by rw [room_len]; omega
  obtain ⟨v, hv⟩ : ∃ v : Bool, ((a : Int) % 2 == 0) = v := ⟨_, rfl⟩
  obtain ⟨s1, hs1⟩ := bool_of (SameP T a b)
  obtain ⟨s2, hs2⟩ := bool_of (ExA T a b)
  obtain ⟨s3, hs3⟩ := bool_of (AsgA T a b)
  obtain ⟨s4, hs4⟩ := bool_of (FitA T a v b)
  have HW1 := hide hs1
  have HW2 := hide hs2
  have HW3 := hide hs3
  have HW4 := hide hs4
  have HN0 := hide (fun (W : World) (o : Option Addr) (cp : Nat) (h : Tab W o (roomT T)) (hc : (roomT T).length ≤ cp) => good_v cp h hc G2)
  have HN1 := hide (fun (W : World) (o : Option Addr) (cp : Nat) (h : Tab W o (roomT T)) (hc : (roomT T).length ≤ cp) => same_v h hc G2 ha2 hb2 (hs1.trans (same_app G [aX 2 1, oX 3] (plc_at ha) (plc_at hb)).symm))
  have HN2 := hide (fun (W : World) (o : Option Addr) (cp : Nat) (h : Tab W o (roomT T)) (hc : (roomT T).length ≤ cp) => ext_v h hc G2 ha2 hb2 (hs2.trans (exa_app G [aX 2 1, oX 3] (plc_at ha) (plc_at hb)).symm))
  have HN3 := hide (fun (W : World) (o : Option Addr) (cp : Nat) (h : Tab W o (roomT T)) (hc : (roomT T).length ≤ cp) => asg_v h hc G2 ha2 hb2 (hs3.trans (asg_app G [aX 2 1, oX 3] (plc_at ha) (plc_at hb)).symm))
  have HN4 := hide (fun (W : World) (o : Option Addr) (cp : Nat) (h : Tab W o (roomT T)) (hc : (roomT T).length ≤ cp) => fit_v h hc G2 ha2 hb2 (hs4.trans (fita_app G [aX 2 1, oX 3] v (plc_at ha) (plc_at hb)).symm))
  rw [room_len] at HN0 HN1 HN2 HN3 HN4
  have HC := hide (Cx.start w (fun _ => False))
  have M1 := True.intro
  have N1 := True.intro
  have N2 := True.intro
  have N3 := True.intro
  have N4 := True.intro
  clear H hT hl hf G ha hb h250 G2 ha2 hb2 hs1 hs2 hs3 hs4
  go_enter Try.func9, Try.ntmps9
  go_wp2_with (first | (go_at_call 23; refine (large_T13 cp HTe.out (HT.out.kept HC.out.grown) HLl.out).mono ?_; rintro e w1 ⟨d, rfl, hg, hd⟩; replace HC := hide (HC.out.g hg); clear hg; cases d <;> clear hd) | (go_at_call 25; refine (wakes13 _).mono ?_; rintro e w1 ⟨rfl, hg⟩; replace HC := hide (HC.out.g hg); clear hg) | (go_at_call 24; refine (rgood_at _ (HTb.out.kept HC.out.grown)).mono ?_; rintro e w1 ⟨d, rfl, hg, hd⟩; obtain rfl : d = true := hd.2 HG.out; replace HC := hide (HC.out.g hg); clear hg hd) | (go_at_call 26; clear M1; refine (copy_V cp HTe.out (HT.out.kept HC.out.grown) HFw.out).mono ?_; rintro e w1 ⟨oi, ci, xs, rfl, hg, hr, hv⟩; refine Cx.row_u HC.out hg hr hv ?_; intro hc; (replace HC := hide hc; clear hc); clear hg hr hv) | (refine at_bs 24 rfl ?_; refine wl_bl rfl 24 _ _ rfl 48 (laC (lB (aX 2 1)) ++ laC (lB (oX 3))) HC.out (by kernel_rfl) ?_; intro bY w' hn hc; (replace HC := hide hc; clear hc)) | (refine at_call2 (b := .append) rfl ?_; refine wl_apc rfl _ _ rfl Try.underlying24 infoT (by decide) (by decide) rfl rfl HC.out (loc_cls HC.out (.head _)) rfl (fun e => by cases e) rfl (by omega) ?_; intro d9 cp9 w' hc; (replace HC := hide hc; clear hc); have H9 := HC.out; obtain ⟨ht, hcp⟩ := tab_more (E := [aX 2 1, oX 3]) (by have := H25.out; omega) (by decide) HSm.out HBd.out room_E H9 (by rw [List.length_append]; rfl) rfl; rw [show T ++ [aX 2 1, oX 3] = roomT T from rfl] at ht; have HTn := hide ht; have HCn := hide hcp; have HG0 := hide HC.out.grown; replace HC := hide (Cx.start w' (fun _ => False)); clear ht hcp H9) | (go_at_call 26; refine (copy_T13 cp HTe.out (HT.out.kept (gr_then HG0.out HC.out.grown)) HFw.out).mono ?_; rintro e w1 ⟨oi, ci, rfl, hg, ht, hci⟩; replace HTn := hide ((HTn.out.kept HC.out.grown).kept hg); replace HG0 := hide (gr_then HG0.out (gr_then HC.out.grown hg)); replace HC := hide (Cx.start w1 (fun _ => False)); have HTi := hide ht; have HCi := hide hci; clear hg ht hci) | (first | (refine at_alloc 55 rfl ?_; refine wl_alloc rfl 55 rfl _ zP HC.out ?_; intro pb w' hn hc; (replace HC := hide hc; clear hc)) | (refine at_store 55 rfl ?_; refine wl_store rfl 55 _ _ rfl rfl rfl tyP.sz rfl HC.out (by repeat (first | exact List.Mem.head _ | apply List.Mem.tail)) (by exact PutS.all _ _ rfl) (by repeat (first | exact Upd.here _ _ _ | apply Upd.there)) ?_; intro w' hc; (replace HC := hide hc; clear hc)) | (refine at_load 55 rfl ?_; refine wl_load_s rfl 55 _ rfl tyP rfl HC.out (by repeat (first | exact List.Mem.head _ | apply List.Mem.tail)) (GetS.all _) rfl ?_)))
  · skip
    replace HC := hide (HC.out.g (d1_g _)); refine wp_region_inQ (fun W => ∀ j u, ([.bool v, .int .i64 b] : List Value)[j]? = some u → W.cell? ((⟨pb, 0, none⟩ : Addr).add j) = some u) 47 [(38, [46, 43, 39]), (42, [46, 43])] (Pn.of [(0, 0), (2, 1), (0, 2), (0, 3), (0, 4), (0, 5), (0, 7), (0, 8), (0, 9), (2, 6), (2, 10), (0, 11), (0, 12), (0, 13), (0, 14), (0, 15), (0, 16), (0, 18), (0, 19), (0, 20), (2, 17), (2, 21), (0, 22), (0, 23), (0, 24), (0, 25), (0, 26), (0, 27), (0, 29), (0, 30), (0, 31), (2, 28), (2, 32), (0, 33), (0, 34), (0, 35), (0, 36), (0, 37), (1, 38), (0, 40), (0, 41), (1, 42), (2, 39), (2, 43), (0, 44), (0, 45), (0, 46), (2, 47), (0, 48), (0, 49)] .nil) (by kernel_rfl) (by kernel_rfl) (by kernel_rfl) (by kernel_rfl) (fun _ _ d _ _ h => by cases d <;> exact h) (cells_at HC.out (by repeat (first | exact List.Mem.head _ | apply List.Mem.tail)) (GetS.all _)) ?_
    (refine inN_pure (v := ?_) rfl (Or.inl ⟨by rfl, ?_⟩) ?_; rotate_left 1; (focus (intro W hSW; clear hSW; go_simp; (try (with_reducible rfl)))); (try simp only [Act.put, List.getElem_toArray, List.getElem_cons_zero, List.getElem_cons_succ, List.setIfInBounds_toArray, List.set_cons_zero, List.set_cons_succ]))
    refine inN_act rfl rfl (fun K' hK => ?_); go_simp; refine (HN0.out _ _ _ (HTn.out.kept HC.out.grown).tab HCn.out).mono ?_; (rintro e w2 ⟨rfl, hg⟩; replace HC := hide (HC.out.g hg); clear hg); go_simp; refine hK _ _ (.inr (fun _ => (cells_at HC.out (by repeat (first | exact List.Mem.head _ | apply List.Mem.tail)) (GetS.all _)))) ?_; clear hK K'; (try simp only [Act.put, List.getElem_toArray, List.getElem_cons_zero, List.getElem_cons_succ, List.setIfInBounds_toArray, List.set_cons_zero, List.set_cons_succ])
    (refine inN_pure (v := ?_) rfl (Or.inl ⟨by rfl, ?_⟩) ?_; rotate_left 1; (focus (intro W hSW; clear hSW; go_simp; (try (with_reducible rfl)))); (try simp only [Act.put, List.getElem_toArray, List.getElem_cons_zero, List.getElem_cons_succ, List.setIfInBounds_toArray, List.set_cons_zero, List.set_cons_succ]))
    (refine inN_pure (v := ?_) rfl (Or.inl ⟨by rfl, ?_⟩) ?_; rotate_left 1; (focus (intro W hSW; clear hSW; go_simp; (try (with_reducible rfl)))); (try simp only [Act.put, List.getElem_toArray, List.getElem_cons_zero, List.getElem_cons_succ, List.setIfInBounds_toArray, List.set_cons_zero, List.set_cons_succ]))
    (refine inN_pure (v := ?_) rfl (Or.inl ⟨by rfl, ?_⟩) ?_; rotate_left 1; (focus (intro W hSW; clear hSW; go_simp; (try (with_reducible rfl)))); (try simp only [Act.put, List.getElem_toArray, List.getElem_cons_zero, List.getElem_cons_succ, List.setIfInBounds_toArray, List.set_cons_zero, List.set_cons_succ]))
    (refine inN_pure (v := ?_) rfl (Or.inl ⟨by rfl, ?_⟩) ?_; rotate_left 1; (focus (intro W hSW; clear hSW; go_simp; (try (with_reducible rfl)))); (try simp only [Act.put, List.getElem_toArray, List.getElem_cons_zero, List.getElem_cons_succ, List.setIfInBounds_toArray, List.set_cons_zero, List.set_cons_succ]))
    (refine inN_pure (v := ?_) rfl (Or.inl ⟨by rfl, ?_⟩) ?_; rotate_left 1; (focus (intro W hSW; clear hSW; go_simp; (try (with_reducible rfl)))); (try simp only [Act.put, List.getElem_toArray, List.getElem_cons_zero, List.getElem_cons_succ, List.setIfInBounds_toArray, List.set_cons_zero, List.set_cons_succ]))
    (refine inN_pure (v := ?_) rfl (Or.inl ⟨by rfl, ?_⟩) ?_; rotate_left 1; (focus (intro W hSW; clear hSW; go_simp; (try (with_reducible rfl)))); (try simp only [Act.put, List.getElem_toArray, List.getElem_cons_zero, List.getElem_cons_succ, List.setIfInBounds_toArray, List.set_cons_zero, List.set_cons_succ]))
    (refine inN_pure (v := ?_) rfl (Or.inl ⟨by rfl, ?_⟩) ?_; rotate_left 1; (focus (intro W hSW; clear hSW; go_simp; (try (with_reducible rfl)))); (try simp only [Act.put, List.getElem_toArray, List.getElem_cons_zero, List.getElem_cons_succ, List.setIfInBounds_toArray, List.set_cons_zero, List.set_cons_succ]))
    refine inN_act rfl rfl (fun K' hK => ?_); go_simp; refine (HN1.out _ _ _ (HTn.out.kept HC.out.grown).tab HCn.out).mono ?_; (rintro e w2 ⟨rfl, hg⟩; replace HC := hide (HC.out.g hg); clear hg); go_simp; refine hK _ _ (.inr (fun _ => (cells_at HC.out (by repeat (first | exact List.Mem.head _ | apply List.Mem.tail)) (GetS.all _)))) ?_; clear hK K'; (try simp only [Act.put, List.getElem_toArray, List.getElem_cons_zero, List.getElem_cons_succ, List.setIfInBounds_toArray, List.set_cons_zero, List.set_cons_succ])
    refine inN_act rfl rfl (fun K' hK => ?_); go_simp; refine (same_v (HTi.out.kept HC.out.grown) HCi.out HG.out HI.out HJ.out HW1.out).mono ?_; (rintro e w2 ⟨rfl, hg⟩; replace HC := hide (HC.out.g hg); clear hg); go_simp; refine hK _ _ (.inr (fun _ => (cells_at HC.out (by repeat (first | exact List.Mem.head _ | apply List.Mem.tail)) (GetS.all _)))) ?_; clear hK K'; (try simp only [Act.put, List.getElem_toArray, List.getElem_cons_zero, List.getElem_cons_succ, List.setIfInBounds_toArray, List.set_cons_zero, List.set_cons_succ])
    (refine inN_pure (v := ?_) rfl (Or.inl ⟨by rfl, ?_⟩) ?_; rotate_left 1; (focus (intro W hSW; clear hSW; go_simp; (try (with_reducible rfl)))); (try simp only [Act.put, List.getElem_toArray, List.getElem_cons_zero, List.getElem_cons_succ, List.setIfInBounds_toArray, List.set_cons_zero, List.set_cons_succ]))
    (refine inN_pure (v := ?_) rfl (Or.inl ⟨by rfl, ?_⟩) ?_; rotate_left 1; (focus (intro W hSW; clear hSW; go_simp; (try (with_reducible rfl)))); (try simp only [Act.put, List.getElem_toArray, List.getElem_cons_zero, List.getElem_cons_succ, List.setIfInBounds_toArray, List.set_cons_zero, List.set_cons_succ]))
    (refine inN_pure (v := ?_) rfl (Or.inl ⟨by rfl, ?_⟩) ?_; rotate_left 1; (focus (intro W hSW; clear hSW; go_simp; (try (with_reducible rfl)))); (try simp only [Act.put, List.getElem_toArray, List.getElem_cons_zero, List.getElem_cons_succ, List.setIfInBounds_toArray, List.set_cons_zero, List.set_cons_succ]))
    (refine inN_pure (v := ?_) rfl (Or.inl ⟨by rfl, ?_⟩) ?_; rotate_left 1; (focus (intro W hSW; clear hSW; go_simp; (try (with_reducible rfl)))); (try simp only [Act.put, List.getElem_toArray, List.getElem_cons_zero, List.getElem_cons_succ, List.setIfInBounds_toArray, List.set_cons_zero, List.set_cons_succ]))
    (refine inN_pure (v := ?_) rfl (Or.inl ⟨by rfl, ?_⟩) ?_; rotate_left 1; (focus (intro W hSW; clear hSW; go_simp; (try (with_reducible rfl)))); (try simp only [Act.put, List.getElem_toArray, List.getElem_cons_zero, List.getElem_cons_succ, List.setIfInBounds_toArray, List.set_cons_zero, List.set_cons_succ]))
    (refine inN_pure (v := ?_) rfl (Or.inl ⟨by rfl, ?_⟩) ?_; rotate_left 1; (focus (intro W hSW; clear hSW; go_simp; (try (with_reducible rfl)))); (try simp only [Act.put, List.getElem_toArray, List.getElem_cons_zero, List.getElem_cons_succ, List.setIfInBounds_toArray, List.set_cons_zero, List.set_cons_succ]))
    (refine inN_pure (v := ?_) rfl (Or.inl ⟨by rfl, ?_⟩) ?_; rotate_left 1; (focus (intro W hSW; clear hSW; go_simp; (try (with_reducible rfl)))); (try simp only [Act.put, List.getElem_toArray, List.getElem_cons_zero, List.getElem_cons_succ, List.setIfInBounds_toArray, List.set_cons_zero, List.set_cons_succ]))
    (refine inN_pure (v := ?_) rfl (Or.inl ⟨by rfl, ?_⟩) ?_; rotate_left 1; (focus (intro W hSW; clear hSW; go_simp; (try (with_reducible rfl)))); (try simp only [Act.put, List.getElem_toArray, List.getElem_cons_zero, List.getElem_cons_succ, List.setIfInBounds_toArray, List.set_cons_zero, List.set_cons_succ]))
    (refine inN_pure (v := ?_) rfl (Or.inl ⟨by rfl, ?_⟩) ?_; rotate_left 1; (focus (intro W hSW; clear hSW; go_simp; (try (with_reducible rfl)))); (try simp only [Act.put, List.getElem_toArray, List.getElem_cons_zero, List.getElem_cons_succ, List.setIfInBounds_toArray, List.set_cons_zero, List.set_cons_succ]))
    refine inN_act rfl rfl (fun K' hK => ?_); go_simp; refine (HN2.out _ _ _ (HTn.out.kept HC.out.grown).tab HCn.out).mono ?_; (rintro e w2 ⟨rfl, hg⟩; replace HC := hide (HC.out.g hg); clear hg); go_simp; refine hK _ _ (.inr (fun _ => (cells_at HC.out (by repeat (first | exact List.Mem.head _ | apply List.Mem.tail)) (GetS.all _)))) ?_; clear hK K'; (try simp only [Act.put, List.getElem_toArray, List.getElem_cons_zero, List.getElem_cons_succ, List.setIfInBounds_toArray, List.set_cons_zero, List.set_cons_succ])
    refine inN_act rfl rfl (fun K' hK => ?_); go_simp; refine (ext_v (HTi.out.kept HC.out.grown) HCi.out HG.out HI.out HJ.out HW2.out).mono ?_; (rintro e w2 ⟨rfl, hg⟩; replace HC := hide (HC.out.g hg); clear hg); go_simp; refine hK _ _ (.inr (fun _ => (cells_at HC.out (by repeat (first | exact List.Mem.head _ | apply List.Mem.tail)) (GetS.all _)))) ?_; clear hK K'; (try simp only [Act.put, List.getElem_toArray, List.getElem_cons_zero, List.getElem_cons_succ, List.setIfInBounds_toArray, List.set_cons_zero, List.set_cons_succ])
    (refine inN_pure (v := ?_) rfl (Or.inl ⟨by rfl, ?_⟩) ?_; rotate_left 1; (focus (intro W hSW; clear hSW; go_simp; (try (with_reducible rfl)))); (try simp only [Act.put, List.getElem_toArray, List.getElem_cons_zero, List.getElem_cons_succ, List.setIfInBounds_toArray, List.set_cons_zero, List.set_cons_succ]))
    (refine inN_pure (v := ?_) rfl (Or.inl ⟨by rfl, ?_⟩) ?_; rotate_left 1; (focus (intro W hSW; clear hSW; go_simp; (try (with_reducible rfl)))); (try simp only [Act.put, List.getElem_toArray, List.getElem_cons_zero, List.getElem_cons_succ, List.setIfInBounds_toArray, List.set_cons_zero, List.set_cons_succ]))
    (refine inN_pure (v := ?_) rfl (Or.inl ⟨by rfl, ?_⟩) ?_; rotate_left 1; (focus (intro W hSW; clear hSW; go_simp; (try (with_reducible rfl)))); (try simp only [Act.put, List.getElem_toArray, List.getElem_cons_zero, List.getElem_cons_succ, List.setIfInBounds_toArray, List.set_cons_zero, List.set_cons_succ]))
    (refine inN_pure (v := ?_) rfl (Or.inl ⟨by rfl, ?_⟩) ?_; rotate_left 1; (focus (intro W hSW; clear hSW; go_simp; (try (with_reducible rfl)))); (try simp only [Act.put, List.getElem_toArray, List.getElem_cons_zero, List.getElem_cons_succ, List.setIfInBounds_toArray, List.set_cons_zero, List.set_cons_succ]))
    (refine inN_pure (v := ?_) rfl (Or.inl ⟨by rfl, ?_⟩) ?_; rotate_left 1; (focus (intro W hSW; clear hSW; go_simp; (try (with_reducible rfl)))); (try simp only [Act.put, List.getElem_toArray, List.getElem_cons_zero, List.getElem_cons_succ, List.setIfInBounds_toArray, List.set_cons_zero, List.set_cons_succ]))
    (refine inN_pure (v := ?_) rfl (Or.inl ⟨by rfl, ?_⟩) ?_; rotate_left 1; (focus (intro W hSW; clear hSW; go_simp; (try (with_reducible rfl)))); (try simp only [Act.put, List.getElem_toArray, List.getElem_cons_zero, List.getElem_cons_succ, List.setIfInBounds_toArray, List.set_cons_zero, List.set_cons_succ]))
    (refine inN_pure (v := ?_) rfl (Or.inl ⟨by rfl, ?_⟩) ?_; rotate_left 1; (focus (intro W hSW; clear hSW; go_simp; (try (with_reducible rfl)))); (try simp only [Act.put, List.getElem_toArray, List.getElem_cons_zero, List.getElem_cons_succ, List.setIfInBounds_toArray, List.set_cons_zero, List.set_cons_succ]))
    (refine inN_pure (v := ?_) rfl (Or.inl ⟨by rfl, ?_⟩) ?_; rotate_left 1; (focus (intro W hSW; clear hSW; go_simp; (try (with_reducible rfl)))); (try simp only [Act.put, List.getElem_toArray, List.getElem_cons_zero, List.getElem_cons_succ, List.setIfInBounds_toArray, List.set_cons_zero, List.set_cons_succ]))
    (refine inN_pure (v := ?_) rfl (Or.inl ⟨by rfl, ?_⟩) ?_; rotate_left 1; (focus (intro W hSW; clear hSW; go_simp; (try (with_reducible rfl)))); (try simp only [Act.put, List.getElem_toArray, List.getElem_cons_zero, List.getElem_cons_succ, List.setIfInBounds_toArray, List.set_cons_zero, List.set_cons_succ]))
    refine inN_act rfl rfl (fun K' hK => ?_); go_simp; refine (HN3.out _ _ _ (HTn.out.kept HC.out.grown).tab HCn.out).mono ?_; (rintro e w2 ⟨rfl, hg⟩; replace HC := hide (HC.out.g hg); clear hg); go_simp; refine hK _ _ (.inr (fun _ => (cells_at HC.out (by repeat (first | exact List.Mem.head _ | apply List.Mem.tail)) (GetS.all _)))) ?_; clear hK K'; (try simp only [Act.put, List.getElem_toArray, List.getElem_cons_zero, List.getElem_cons_succ, List.setIfInBounds_toArray, List.set_cons_zero, List.set_cons_succ])
    refine inN_act rfl rfl (fun K' hK => ?_); go_simp; refine (asg_v (HTi.out.kept HC.out.grown) HCi.out HG.out HI.out HJ.out HW3.out).mono ?_; (rintro e w2 ⟨rfl, hg⟩; replace HC := hide (HC.out.g hg); clear hg); go_simp; refine hK _ _ (.inr (fun _ => (cells_at HC.out (by repeat (first | exact List.Mem.head _ | apply List.Mem.tail)) (GetS.all _)))) ?_; clear hK K'; (try simp only [Act.put, List.getElem_toArray, List.getElem_cons_zero, List.getElem_cons_succ, List.setIfInBounds_toArray, List.set_cons_zero, List.set_cons_succ])
    (refine inN_pure (v := ?_) rfl (Or.inl ⟨by rfl, ?_⟩) ?_; rotate_left 1; (focus (intro W hSW; clear hSW; go_simp; (try (with_reducible rfl)))); (try simp only [Act.put, List.getElem_toArray, List.getElem_cons_zero, List.getElem_cons_succ, List.setIfInBounds_toArray, List.set_cons_zero, List.set_cons_succ]))
    (refine inN_pure (v := ?_) rfl (Or.inl ⟨by rfl, ?_⟩) ?_; rotate_left 1; (focus (intro W hSW; clear hSW; go_simp; (try (with_reducible rfl)))); (try simp only [Act.put, List.getElem_toArray, List.getElem_cons_zero, List.getElem_cons_succ, List.setIfInBounds_toArray, List.set_cons_zero, List.set_cons_succ]))
    (refine inN_pure (v := ?_) rfl (Or.inl ⟨by rfl, ?_⟩) ?_; rotate_left 1; (focus (intro W hSW; clear hSW; go_simp; (try (with_reducible rfl)))); (try simp only [Act.put, List.getElem_toArray, List.getElem_cons_zero, List.getElem_cons_succ, List.setIfInBounds_toArray, List.set_cons_zero, List.set_cons_succ]))
    (refine inN_pure (v := ?_) rfl (Or.inl ⟨by rfl, ?_⟩) ?_; rotate_left 1; (focus (intro W hSW; clear hSW; go_simp; (try (with_reducible rfl)))); (try simp only [Act.put, List.getElem_toArray, List.getElem_cons_zero, List.getElem_cons_succ, List.setIfInBounds_toArray, List.set_cons_zero, List.set_cons_succ]))
    (refine inN_pure (v := ?_) rfl (Or.inl ⟨by rfl, ?_⟩) ?_; rotate_left 1; (focus (intro W hSW; clear hSW; go_simp; (try (with_reducible rfl)))); (try simp only [Act.put, List.getElem_toArray, List.getElem_cons_zero, List.getElem_cons_succ, List.setIfInBounds_toArray, List.set_cons_zero, List.set_cons_succ]))
    refine inN_read (v := .agg #[.bool v, .int .i64 (b : Int)]) rfl (yl_load rfl rfl rfl (fun W hS => run_load_s tyP _ [.bool v, .int .i64 b] rfl hS)) ?_; (try simp only [Act.put, List.getElem_toArray, List.getElem_cons_zero, List.getElem_cons_succ, List.setIfInBounds_toArray, List.set_cons_zero, List.set_cons_succ])
    (refine inN_pure (v := ?_) rfl (Or.inl ⟨by rfl, ?_⟩) ?_; rotate_left 1; (focus (intro W hSW; clear hSW; go_simp; (try (with_reducible rfl)))); (try simp only [Act.put, List.getElem_toArray, List.getElem_cons_zero, List.getElem_cons_succ, List.setIfInBounds_toArray, List.set_cons_zero, List.set_cons_succ]))
    (refine inN_pure (v := ?_) rfl (Or.inl ⟨by rfl, ?_⟩) ?_; rotate_left 1; (focus (intro W hSW; clear hSW; go_simp; (try (with_reducible rfl)))); (try simp only [Act.put, List.getElem_toArray, List.getElem_cons_zero, List.getElem_cons_succ, List.setIfInBounds_toArray, List.set_cons_zero, List.set_cons_succ]))
    refine inN_read (v := .agg #[.bool v, .int .i64 (b : Int)]) rfl (yl_load rfl rfl rfl (fun W hS => run_load_s tyP _ [.bool v, .int .i64 b] rfl hS)) ?_; (try simp only [Act.put, List.getElem_toArray, List.getElem_cons_zero, List.getElem_cons_succ, List.setIfInBounds_toArray, List.set_cons_zero, List.set_cons_succ])
    refine inN_act rfl rfl (fun K' hK => ?_); go_simp; refine (HN4.out _ _ _ (HTn.out.kept HC.out.grown).tab HCn.out).mono ?_; (rintro e w2 ⟨rfl, hg⟩; replace HC := hide (HC.out.g hg); clear hg); go_simp; refine hK _ _ (.inr (fun _ => (cells_at HC.out (by repeat (first | exact List.Mem.head _ | apply List.Mem.tail)) (GetS.all _)))) ?_; clear hK K'; (try simp only [Act.put, List.getElem_toArray, List.getElem_cons_zero, List.getElem_cons_succ, List.setIfInBounds_toArray, List.set_cons_zero, List.set_cons_succ])
    refine inN_act rfl rfl (fun K' hK => ?_); go_simp; refine (fit_v (HTi.out.kept HC.out.grown) HCi.out HG.out HI.out HJ.out HW4.out).mono ?_; (rintro e w2 ⟨rfl, hg⟩; replace HC := hide (HC.out.g hg); clear hg); go_simp; refine hK _ _ (.inr (fun _ => (cells_at HC.out (by repeat (first | exact List.Mem.head _ | apply List.Mem.tail)) (GetS.all _)))) ?_; clear hK K'; (try simp only [Act.put, List.getElem_toArray, List.getElem_cons_zero, List.getElem_cons_succ, List.setIfInBounds_toArray, List.set_cons_zero, List.set_cons_succ])
    (refine inN_pure (v := ?_) rfl (Or.inl ⟨by rfl, ?_⟩) ?_; rotate_left 1; (focus (intro W hSW; clear hSW; go_simp; (try (with_reducible rfl)))); (try simp only [Act.put, List.getElem_toArray, List.getElem_cons_zero, List.getElem_cons_succ, List.setIfInBounds_toArray, List.set_cons_zero, List.set_cons_succ]))
    (refine inN_pure (v := ?_) rfl (Or.inl ⟨by rfl, ?_⟩) ?_; rotate_left 1; (focus (intro W hSW; clear hSW; go_simp; (try (with_reducible rfl)))); (try simp only [Act.put, List.getElem_toArray, List.getElem_cons_zero, List.getElem_cons_succ, List.setIfInBounds_toArray, List.set_cons_zero, List.set_cons_succ]))
    (refine inN_pure (v := ?_) rfl (Or.inl ⟨by rfl, ?_⟩) ?_; rotate_left 1; (focus (intro W hSW; clear hSW; go_simp; (try (with_reducible rfl)))); (try simp only [Act.put, List.getElem_toArray, List.getElem_cons_zero, List.getElem_cons_succ, List.setIfInBounds_toArray, List.set_cons_zero, List.set_cons_succ]))
    refine inN_act rfl rfl (fun K' hK => ?_); go_simp; refine (wakes13 _).mono ?_; (rintro e w2 ⟨rfl, hg⟩; replace HC := hide (HC.out.g hg); clear hg); go_simp; refine hK _ _ (.inl rfl) ?_; clear hK K'; (try simp only [Act.put, List.getElem_toArray, List.getElem_cons_zero, List.getElem_cons_succ, List.setIfInBounds_toArray, List.set_cons_zero, List.set_cons_succ])
    (refine inN_pure (v := ?_) rfl (Or.inl ⟨by rfl, ?_⟩) ?_; rotate_left 1; (focus (intro W hSW; clear hSW; go_simp; (try (with_reducible rfl)))); (try simp only [Act.put, List.getElem_toArray, List.getElem_cons_zero, List.getElem_cons_succ, List.setIfInBounds_toArray, List.set_cons_zero, List.set_cons_succ]))
    (refine inN_pure (v := ?_) rfl (Or.inl ⟨by rfl, ?_⟩) ?_; rotate_left 1; (focus (intro W hSW; clear hSW; go_simp; (try (with_reducible rfl)))); (try simp only [Act.put, List.getElem_toArray, List.getElem_cons_zero, List.getElem_cons_succ, List.setIfInBounds_toArray, List.set_cons_zero, List.set_cons_succ]))
    refine inN_end ?_
    go_wp2
    go_ret
    exact ⟨rfl, gr_then HG0.out HC.out.grown⟩
  (all_goals go_ret; all_goals (first | exact ⟨rfl, HC.out.grown⟩ | exact ⟨rfl, gr_then HG0.out HC.out.grown⟩))
set_option maxHeartbeats 8000000 in
theorem room_walk {w : World} {o : Option Addr} {cp : Nat} {l : List La} (H : TabR w o l) (hl : l.length ≤ rch) (a b : Int) : Calls Try.prog 9 #[.slice o l.length cp, .int .i64 a, .int .i64 b] w (SzO w (.bool true)) := by
  obtain ⟨T, hT⟩ : ∃ T, l.map La.x = T := ⟨_, rfl⟩
  rw [show l.length = T.length by rw [← hT, List.length_map]]
  have HC := hide (Cx.start w (fun _ => False))
  have HT := hide H
  have HTe := hide hT
  have HLl := hide hl
  by_cases hf : Few l
  · have HTb := hide (show Tab w o T by have h := hf.tab H; rw [hT] at h; exact h)
    by_cases G : GoodP T
    · have HG := hide G
      by_cases h250 : T.length ≤ 250
      · by_cases hn : inT T.length a = true ∧ inT T.length b = true
        · obtain ⟨i, rfl, hi⟩ := inT_nat hn.1
          obtain ⟨j, rfl, hj⟩ := inT_nat hn.2
          exact room_in hT H hl hf G h250 hi hj
        · exact room_out hT H hl hf G h250 a b hn
      · have j0 : (250 : Int) < T.length := by omega
        clear H hT hl hf G h250
        go_enter Try.func9, Try.ntmps9
        go_wp2_with (first | (go_at_call 23; refine (large_T13 cp HTe.out (HT.out.kept HC.out.grown) HLl.out).mono ?_; rintro e w1 ⟨d, rfl, hg, hd⟩; replace HC := hide (HC.out.g hg); clear hg; cases d <;> clear hd) | (go_at_call 25; refine (wakes13 _).mono ?_; rintro e w1 ⟨rfl, hg⟩; replace HC := hide (HC.out.g hg); clear hg) | (go_at_call 24; refine (rgood_at _ (HTb.out.kept HC.out.grown)).mono ?_; rintro e w1 ⟨d, rfl, hg, hd⟩; obtain rfl : d = true := hd.2 HG.out; replace HC := hide (HC.out.g hg); clear hg hd))
        all_goals go_ret
        all_goals (exact ⟨rfl, HC.out.grown⟩)
    · have HNG := hide G
      clear H hT hl hf G
      go_enter Try.func9, Try.ntmps9
      go_wp2_with (first | (go_at_call 23; refine (large_T13 cp HTe.out (HT.out.kept HC.out.grown) HLl.out).mono ?_; rintro e w1 ⟨d, rfl, hg, hd⟩; replace HC := hide (HC.out.g hg); clear hg; cases d <;> clear hd) | (go_at_call 25; refine (wakes13 _).mono ?_; rintro e w1 ⟨rfl, hg⟩; replace HC := hide (HC.out.g hg); clear hg) | (go_at_call 24; refine (rgood_at _ (HTb.out.kept HC.out.grown)).mono ?_; rintro e w1 ⟨d, rfl, hg, hd⟩; obtain rfl : d = false := (by cases d with | false => rfl | true => exact absurd (hd.1 rfl) HNG.out); replace HC := hide (HC.out.g hg); clear hg hd))
      all_goals go_ret
      all_goals (exact ⟨rfl, HC.out.grown⟩)
  · have HN := hide hf
    clear H hT hl hf
    go_enter Try.func9, Try.ntmps9
    go_wp2_with (first | (go_at_call 23; refine (large_T13 cp HTe.out (HT.out.kept HC.out.grown) HLl.out).mono ?_; rintro e w1 ⟨d, rfl, hg, hd⟩; replace HC := hide (HC.out.g hg); obtain rfl : d = true := (by cases d with | true => rfl | false => exact absurd (hd rfl) HN.out); clear hg hd) | (go_at_call 25; refine (wakes13 _).mono ?_; rintro e w1 ⟨rfl, hg⟩; replace HC := hide (HC.out.g hg); clear hg))
    all_goals go_ret
    all_goals (exact ⟨rfl, HC.out.grown⟩)
end Go.Proofs.Ythmldhppmpbadaa.Ty
