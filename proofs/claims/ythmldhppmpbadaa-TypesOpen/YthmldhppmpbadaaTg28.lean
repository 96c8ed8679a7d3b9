/-
  The document's own tables (package spinetref13): Copy, walked.
-/
import Derived.Test.YthmldhppmpbadaaTg27
namespace Go.Proofs.Ythmldhppmpbadaa.Ty
open Go.RowKit hiding Hid
open Go.Maps Go.Proofs.Ythmldhppmpbadaa.Tx Go.Proofs.Ythmldhppmpbadaa.Lx Go.Proofs.Ythmldhppmpbadaa.Tr Go.Proofs.Ythmldhppmpbadaa.Mp
set_option linter.unusedVariables false
set_option linter.unusedSimpArgs false
set_option maxRecDepth 100000

theorem gr_row {s w w' : World} {v : Value} {b : Nat} {n c : Nat} (h : s.grownBy w none) (hg : w.grownBy w' v.ownBlock) (hv : v = .slice (some ⟨b, 0, none⟩) n c) (hb : s.heap.size ≤ b) : s.grownBy w' none := by
  subst hv
  exact grown_then h hg (fun y e => by simp [Value.ownBlock] at e; subst e; exact .inr hb)
theorem copy_step {w W : World} {l : List La} {i : Nat} {fm ln el ba rs ds : Int} {md nm : Txt} {fl : List Fl} {pr : List Pm} {fo po d1 d2 : Option Addr} {fc pc cp1 cp2 : Nat} {L : Lc} {R : Rw} {xs : List Value} (hx : l[i]? = some ⟨⟨fm, md, nm, ln, el, ba, fl, pr, rs, ds⟩, fo, fc, po, pc⟩)
    (H : Cx w (fun _ => False) none [L] [R] [([.s pr.length (pr.flatMap pmD)], [.slice d2 pr.length cp2]), ([.s fl.length (fl.flatMap flD)], [.slice d1 fl.length cp1]), (((l.map La.x).take i).flatMap tyD, xs)] W) :
    Cx w (fun _ => False) none [] [R] [(((l.map La.x).take (i + 1)).flatMap tyD, xs ++ [.int .i64 fm, .string (bs md), .string (bs nm), .int .i64 ln, .int .i64 el, .int .i64 ba, .slice d1 fl.length cp1, .slice d2 pr.length cp2, .int .i64 rs, .int .i64 ds])] W := by
  have H9 := H.drop
  refine Cx.tr_set H9 (fun p hp => ?_)
  rw [List.mem_singleton] at hp
  subst hp
  have h1 := H9.tr _ (.head _)
  have h2 := H9.tr _ (.tail _ (.head _))
  have h3 := H9.tr _ (.tail _ (.tail _ (.head _)))
  dsimp only at h1 h2 h3 ⊢
  rw [List.take_add_one, List.getElem?_map, hx, Option.map_some, Option.toList_some, List.flatMap_append]
  refine isV_join h3 ?_
  simp only [List.flatMap_cons, List.flatMap_nil, List.append_nil]
  exact isV_mk (isC_c _) (isV_mk (isC_c _) (isV_mk (isC_c _) (isV_mk (isC_c _) (isV_mk (isC_c _) (isV_mk (isC_c _) (isV_mk (isV_one h2) (isV_mk (isV_one h1) (isV_mk (isC_c _) (isV_mk (isC_c _) isV_none)))))))))
def plTail : Pl := .act 9 (.act 10 (.act 11 .nil))
def plCopy : Pl := .rd 1 (.rd 2 (.rd 5 (.rd 6 (.fork 0 (.fork 3 (.rd 8 (.act 4 (.act 7 plTail))) 4 (.act 3 (.rd 8 (.act 7 plTail)))) 4 (.act 0 (.act 3 (.rd 8 (.act 7 plTail))))))))
set_option maxHeartbeats 8000000 in
theorem copy_go {w : World} {o : Option Addr} {l : List La} (cp : Nat) (H : TabL w o l) (hN : ∀ a ∈ l, Nl a) (hB : ∀ a ∈ l, a.x.fl.length ≤ 900000 ∧ a.x.pm.length ≤ 900000) (hl : l.length ≤ 300000) : Calls Try.prog 26 #[.slice o l.length cp] w (CoO w (l.map La.x)) := by
  have HT := hide H
  have HNl := hide hN
  have HBd := hide hB
  have HC := hide ((Cx.start w (fun _ => False)).row_nil 48 10)
  have k0 : (l.length : Int) ≤ 300000 := by omega
  clear H hN hB
  go_enter Try.func26, Try.ntmps26
  go_wp2
  go_loopw [3, 4] (fun rv iv W => ∃ (i : Nat) (oc : Option Addr) (cc : Nat) (xs : List Value), i ≤ l.length ∧ iv = .int .i64 i ∧ rv = .slice oc i cc ∧ Hid (Cx w (fun _ => False) none [] [⟨.slice oc i cc, 48, 10, i, xs⟩] [(((l.map La.x).take i).flatMap tyD, xs)] W)) (fun _ iv _ => l.length - (intOf iv).toNat)
  case atStart => exact ⟨0, none, 0, [], by omega, rfl, rfl, hide (HC.out.add (by simp only [List.take_zero, List.flatMap_nil, isV]))⟩
  case round =>
    clear HC
    obtain ⟨i, oc, cc, xs, hi, rfl, rfl, HC⟩ := hrel
    by_cases hlt : i < l.length
    · have q1 : (i : Int) < l.length := by omega
      obtain ⟨la, hx⟩ : ∃ x, l[i]? = some x := ⟨l[i], List.getElem?_eq_getElem hlt⟩
      have hmem := List.mem_of_getElem? hx
      obtain ⟨ad, rfl, hel⟩ := HT.out.row.el laC_len (by decide) hx
      obtain ⟨B, hB⟩ : ∃ B, ad.add (i * 10) = B := ⟨_, rfl⟩
      rw [hB] at hel
      have HE1 := hide (fun W (hW : w.grownBy W none) j u (hu : (laC la)[j]? = some u) => hW.cell (hel j u hu) (by simp))
      have HFo := hide (HT.out.parts la hmem).fl
      have HPo := hide (HT.out.parts la hmem).pm
      have HNf := hide (HNl.out la hmem).fl
      have HNp := hide (HNl.out la hmem).pm
      obtain ⟨hf, hp⟩ := HBd.out la hmem
      have HX := hide hx
      clear hx hmem hel
      obtain ⟨⟨fm, md, nm, ln, el, ba, fl, pr, rs, ds⟩, fo, fc, po, pc⟩ := la
      unfold laC at HE1
      dsimp only at HE1 HFo HPo HNf HNp hf hp
      go_wp2_with (first | (refine at_load 48 rfl ?_; refine wl_run rfl 48 _ rfl rfl (run_load_s tyT B [.int .i64 fm, .string (bs md), .string (bs nm), .int .i64 ln, .int .i64 el, .int .i64 ba, .slice fo fl.length fc, .slice po pr.length pc, .int .i64 rs, .int .i64 ds] rfl (HE1.out _ HC.out.grown)) ?_) | (refine at_alloc 48 rfl ?_; refine wl_alloc rfl 48 rfl _ zTy HC.out ?_; intro bx w' hn hc; (replace HC := hide hc; clear hc)) | (refine at_store 48 rfl ?_; refine wl_store (us := [.int .i64 fm, .string (bs md), .string (bs nm), .int .i64 ln, .int .i64 el, .int .i64 ba, .slice fo fl.length fc, .slice po pr.length pc, .int .i64 rs, .int .i64 ds]) rfl 48 _ _ rfl rfl rfl tyT.sz rfl HC.out (by repeat (first | exact List.Mem.head _ | apply List.Mem.tail)) (by exact PutS.all _ _ rfl) (by repeat (first | exact Upd.here _ _ _ | apply Upd.there)) ?_; intro w' hc; (replace HC := hide hc; clear hc)))
      (replace HC := hide (HC.out.g (d1_g _)); have HC0 := HC; refine wp_region_inM (fun W => World.grownBy _ W none) [9, 10, 11] plCopy (by kernel_rfl) (by kernel_rfl) (by kernel_rfl) (by kernel_rfl) (fun _ _ d _ _ h => by cases d <;> exact h) (gr_ref _ _) ?_; have HS := hide (gr_of HC.out none))
      (refine inM_read (v := ?_) rfl (Or.inl ⟨by rfl, ?_⟩) ?_; rotate_left 1; (focus (intro W hSW; clear hSW; go_simp; (try (with_reducible rfl)))); (try simp only [Act.put, List.getElem_toArray, List.getElem_cons_zero, List.getElem_cons_succ, List.setIfInBounds_toArray, List.set_cons_zero, List.set_cons_succ]))
      (refine inM_read rfl (yl_c tcLF rfl rfl rfl HC0.out (by first | assumption | exact nx0 _) (by repeat (first | exact List.Mem.head _ | apply List.Mem.tail)) (by repeat (first | exact GetS.cons _ (GetS.nil _) | apply GetS.skip))) ?_; (try simp only [Act.put, List.getElem_toArray, List.getElem_cons_zero, List.getElem_cons_succ, List.setIfInBounds_toArray, List.set_cons_zero, List.set_cons_succ]))
      (refine inM_read (v := ?_) rfl (Or.inl ⟨by rfl, ?_⟩) ?_; rotate_left 1; (focus (intro W hSW; clear hSW; go_simp; (try (with_reducible rfl)))); (try simp only [Act.put, List.getElem_toArray, List.getElem_cons_zero, List.getElem_cons_succ, List.setIfInBounds_toArray, List.set_cons_zero, List.set_cons_succ]))
      (refine inM_read rfl (yl_c tcLP rfl rfl rfl HC0.out (by first | assumption | exact nx0 _) (by repeat (first | exact List.Mem.head _ | apply List.Mem.tail)) (by repeat (first | exact GetS.cons _ (GetS.nil _) | apply GetS.skip))) ?_; (try simp only [Act.put, List.getElem_toArray, List.getElem_cons_zero, List.getElem_cons_succ, List.setIfInBounds_toArray, List.set_cons_zero, List.set_cons_succ]))
      (refine inM_fork rfl rfl rfl rfl (fun K' hK => ?_) (fun K' hK => ?_))
      · (refine op_b0 45 75 3 rfl Try.underlying45 someF HC.out ?_; intro g1 w' hl hg hc; (replace HC := hide hc; clear hc); have HB1 := hide (Nat.le_trans HS.out.size hl); refine hK _ _ (.inr (gr_then0 HS.out hg)) ?_; replace HS := hide (gr_then0 HS.out hg); clear hK K' hg hl; (try simp only [Act.put, List.getElem_toArray, List.getElem_cons_zero, List.getElem_cons_succ, List.setIfInBounds_toArray, List.set_cons_zero, List.set_cons_succ]))
        (refine inM_fork rfl rfl rfl rfl (fun K' hK => ?_) (fun K' hK => ?_))
        · (refine op_apc _ _ rfl Try.underlying45 infoF (by decide) (by decide) rfl rfl HC.out (HFo.out.kept HC.out.grown) (by rw [flat_lenV flC_len]) HNf.out (fl_one _) (by omega) ?_; intro d1 cp1 w' hg hc; refine hK _ _ (.inr (gr_row HS.out hg rfl HB1.out)) ?_; replace HS := hide (gr_row HS.out hg rfl HB1.out); (replace HC := hide hc; clear hc); clear hK K' hg; simp only [Nat.zero_add, List.nil_append] at HC; (try simp only [Nat.zero_add]); (try simp only [Act.put, List.getElem_toArray, List.getElem_cons_zero, List.getElem_cons_succ, List.setIfInBounds_toArray, List.set_cons_zero, List.set_cons_succ]))
          (replace HC := hide (HC.out.row_tree (fl_isV _)))
          (refine inM_read (v := ?_) rfl (Or.inl ⟨by rfl, ?_⟩) ?_; rotate_left 1; (focus (intro W hSW; clear hSW; go_simp; (try (with_reducible rfl)))); (try simp only [Act.put, List.getElem_toArray, List.getElem_cons_zero, List.getElem_cons_succ, List.setIfInBounds_toArray, List.set_cons_zero, List.set_cons_succ]))
          (refine inM_act rfl rfl (fun K' hK => ?_))
          (refine op_b0 46 55 2 rfl Try.underlying46 someP HC.out ?_; intro g2 w' hl hg hc; (replace HC := hide hc; clear hc); have HB2 := hide (Nat.le_trans HS.out.size hl); refine hK _ _ (.inr (gr_then0 HS.out hg)) ?_; replace HS := hide (gr_then0 HS.out hg); clear hK K' hg hl; (try simp only [Act.put, List.getElem_toArray, List.getElem_cons_zero, List.getElem_cons_succ, List.setIfInBounds_toArray, List.set_cons_zero, List.set_cons_succ]))
          (refine inM_act rfl rfl (fun K' hK => ?_))
          (refine op_apc _ _ rfl Try.underlying46 infoP (by decide) (by decide) rfl rfl HC.out (HPo.out.kept HC.out.grown) (by rw [flat_lenV pmC_len]) HNp.out (pm_one _) (by omega) ?_; intro d2 cp2 w' hg hc; refine hK _ _ (.inr (gr_row HS.out hg rfl HB2.out)) ?_; replace HS := hide (gr_row HS.out hg rfl HB2.out); (replace HC := hide hc; clear hc); clear hK K' hg; simp only [Nat.zero_add, List.nil_append] at HC; (try simp only [Nat.zero_add]); (try simp only [Act.put, List.getElem_toArray, List.getElem_cons_zero, List.getElem_cons_succ, List.setIfInBounds_toArray, List.set_cons_zero, List.set_cons_succ]))
          (replace HC := hide (HC.out.row_tree (pm_isV _)))
          ((refine inM_act rfl rfl (fun K' hK => ?_)); refine op_store (us := [_]) 45 _ _ rfl rfl rfl tcLF.sz rfl HC.out (by repeat (first | exact List.Mem.head _ | apply List.Mem.tail)) (by repeat (first | exact PutS.cons _ _ (PutS.nil _) | apply PutS.skip)) (by repeat (first | exact Upd.here _ _ _ | apply Upd.there)) ?_; intro w' hc; (replace HC := hide hc; clear hc); refine hK _ _ (.inl rfl) ?_; clear hK K'; (try simp only [Act.put, List.getElem_toArray, List.getElem_cons_zero, List.getElem_cons_succ, List.setIfInBounds_toArray, List.set_cons_zero, List.set_cons_succ]))
          ((refine inM_act rfl rfl (fun K' hK => ?_)); refine op_same (v := ?_) ?_ ?_; rotate_left 1; (focus (go_simp; (try (with_reducible rfl)))); refine hK _ _ (.inl rfl) ?_; clear hK K'; (try simp only [Act.put, List.getElem_toArray, List.getElem_cons_zero, List.getElem_cons_succ, List.setIfInBounds_toArray, List.set_cons_zero, List.set_cons_succ]))
          ((refine inM_act rfl rfl (fun K' hK => ?_)); refine op_store (us := [_]) 46 _ _ rfl rfl rfl tcLP.sz rfl HC.out (by repeat (first | exact List.Mem.head _ | apply List.Mem.tail)) (by repeat (first | exact PutS.cons _ _ (PutS.nil _) | apply PutS.skip)) (by repeat (first | exact Upd.here _ _ _ | apply Upd.there)) ?_; intro w' hc; (replace HC := hide hc; clear hc); refine hK _ _ (.inl rfl) ?_; clear hK K'; (try simp only [Act.put, List.getElem_toArray, List.getElem_cons_zero, List.getElem_cons_succ, List.setIfInBounds_toArray, List.set_cons_zero, List.set_cons_succ]))
          (refine inM_end ?_)
          clear HC0 HS
          (go_wp2_with (first | (refine at_load 48 rfl ?_; refine wl_load_s rfl 48 _ rfl tyT rfl HC.out (by repeat (first | exact List.Mem.head _ | apply List.Mem.tail)) (GetS.all _) rfl ?_) | (refine at_bs 24 rfl ?_; refine wl_bl rfl 24 _ _ rfl 48 [.int .i64 fm, .string (bs md), .string (bs nm), .int .i64 ln, .int .i64 el, .int .i64 ba, .slice d1 fl.length cp1, .slice d2 pr.length cp2, .int .i64 rs, .int .i64 ds] HC.out (by kernel_rfl) ?_; intro b w' hn hc; (replace HC := hide hc; clear hc)) | (refine wl_ap rfl _ _ rfl Try.underlying24 infoT (by decide) (by decide) rfl rfl HC.out rfl rfl (by omega) ?_; intro d9 cp9 w' hc; (replace HC := hide hc; clear hc))); refine ⟨⟨i + 1, d9, cp9, _, by omega, by go_num, rfl, hide (copy_step HX.out HC.out)⟩, by simp [intOf]; omega⟩)
        · (refine op_b0 46 55 2 rfl Try.underlying46 someP HC.out ?_; intro g2 w' hl hg hc; (replace HC := hide hc; clear hc); have HB2 := hide (Nat.le_trans HS.out.size hl); refine hK _ _ (.inr (gr_then0 HS.out hg)) ?_; replace HS := hide (gr_then0 HS.out hg); clear hK K' hg hl; (try simp only [Act.put, List.getElem_toArray, List.getElem_cons_zero, List.getElem_cons_succ, List.setIfInBounds_toArray, List.set_cons_zero, List.set_cons_succ]))
          (replace HC := hide HC.out.swap)
          (refine inM_act rfl rfl (fun K' hK => ?_))
          (refine op_apc _ _ rfl Try.underlying45 infoF (by decide) (by decide) rfl rfl HC.out (HFo.out.kept HC.out.grown) (by rw [flat_lenV flC_len]) HNf.out (fl_one _) (by omega) ?_; intro d1 cp1 w' hg hc; refine hK _ _ (.inr (gr_row HS.out hg rfl HB1.out)) ?_; replace HS := hide (gr_row HS.out hg rfl HB1.out); (replace HC := hide hc; clear hc); clear hK K' hg; simp only [Nat.zero_add, List.nil_append] at HC; (try simp only [Nat.zero_add]); (try simp only [Act.put, List.getElem_toArray, List.getElem_cons_zero, List.getElem_cons_succ, List.setIfInBounds_toArray, List.set_cons_zero, List.set_cons_succ]))
          (replace HC := hide (HC.out.row_tree (fl_isV _)))
          (refine inM_read (v := ?_) rfl (Or.inl ⟨by rfl, ?_⟩) ?_; rotate_left 1; (focus (intro W hSW; clear hSW; go_simp; (try (with_reducible rfl)))); (try simp only [Act.put, List.getElem_toArray, List.getElem_cons_zero, List.getElem_cons_succ, List.setIfInBounds_toArray, List.set_cons_zero, List.set_cons_succ]))
          (refine inM_act rfl rfl (fun K' hK => ?_))
          (refine op_apc _ _ rfl Try.underlying46 infoP (by decide) (by decide) rfl rfl HC.out (HPo.out.kept HC.out.grown) (by rw [flat_lenV pmC_len]) HNp.out (pm_one _) (by omega) ?_; intro d2 cp2 w' hg hc; refine hK _ _ (.inr (gr_row HS.out hg rfl HB2.out)) ?_; replace HS := hide (gr_row HS.out hg rfl HB2.out); (replace HC := hide hc; clear hc); clear hK K' hg; simp only [Nat.zero_add, List.nil_append] at HC; (try simp only [Nat.zero_add]); (try simp only [Act.put, List.getElem_toArray, List.getElem_cons_zero, List.getElem_cons_succ, List.setIfInBounds_toArray, List.set_cons_zero, List.set_cons_succ]))
          (replace HC := hide (HC.out.row_tree (pm_isV _)))
          ((refine inM_act rfl rfl (fun K' hK => ?_)); refine op_store (us := [_]) 45 _ _ rfl rfl rfl tcLF.sz rfl HC.out (by repeat (first | exact List.Mem.head _ | apply List.Mem.tail)) (by repeat (first | exact PutS.cons _ _ (PutS.nil _) | apply PutS.skip)) (by repeat (first | exact Upd.here _ _ _ | apply Upd.there)) ?_; intro w' hc; (replace HC := hide hc; clear hc); refine hK _ _ (.inl rfl) ?_; clear hK K'; (try simp only [Act.put, List.getElem_toArray, List.getElem_cons_zero, List.getElem_cons_succ, List.setIfInBounds_toArray, List.set_cons_zero, List.set_cons_succ]))
          ((refine inM_act rfl rfl (fun K' hK => ?_)); refine op_same (v := ?_) ?_ ?_; rotate_left 1; (focus (go_simp; (try (with_reducible rfl)))); refine hK _ _ (.inl rfl) ?_; clear hK K'; (try simp only [Act.put, List.getElem_toArray, List.getElem_cons_zero, List.getElem_cons_succ, List.setIfInBounds_toArray, List.set_cons_zero, List.set_cons_succ]))
          ((refine inM_act rfl rfl (fun K' hK => ?_)); refine op_store (us := [_]) 46 _ _ rfl rfl rfl tcLP.sz rfl HC.out (by repeat (first | exact List.Mem.head _ | apply List.Mem.tail)) (by repeat (first | exact PutS.cons _ _ (PutS.nil _) | apply PutS.skip)) (by repeat (first | exact Upd.here _ _ _ | apply Upd.there)) ?_; intro w' hc; (replace HC := hide hc; clear hc); refine hK _ _ (.inl rfl) ?_; clear hK K'; (try simp only [Act.put, List.getElem_toArray, List.getElem_cons_zero, List.getElem_cons_succ, List.setIfInBounds_toArray, List.set_cons_zero, List.set_cons_succ]))
          (refine inM_end ?_)
          clear HC0 HS
          (go_wp2_with (first | (refine at_load 48 rfl ?_; refine wl_load_s rfl 48 _ rfl tyT rfl HC.out (by repeat (first | exact List.Mem.head _ | apply List.Mem.tail)) (GetS.all _) rfl ?_) | (refine at_bs 24 rfl ?_; refine wl_bl rfl 24 _ _ rfl 48 [.int .i64 fm, .string (bs md), .string (bs nm), .int .i64 ln, .int .i64 el, .int .i64 ba, .slice d1 fl.length cp1, .slice d2 pr.length cp2, .int .i64 rs, .int .i64 ds] HC.out (by kernel_rfl) ?_; intro b w' hn hc; (replace HC := hide hc; clear hc)) | (refine wl_ap rfl _ _ rfl Try.underlying24 infoT (by decide) (by decide) rfl rfl HC.out rfl rfl (by omega) ?_; intro d9 cp9 w' hc; (replace HC := hide hc; clear hc))); refine ⟨⟨i + 1, d9, cp9, _, by omega, by go_num, rfl, hide (copy_step HX.out HC.out)⟩, by simp [intOf]; omega⟩)
      · (refine op_b0 46 55 2 rfl Try.underlying46 someP HC.out ?_; intro g2 w' hl hg hc; (replace HC := hide hc; clear hc); have HB2 := hide (Nat.le_trans HS.out.size hl); refine hK _ _ (.inr (gr_then0 HS.out hg)) ?_; replace HS := hide (gr_then0 HS.out hg); clear hK K' hg hl; (try simp only [Act.put, List.getElem_toArray, List.getElem_cons_zero, List.getElem_cons_succ, List.setIfInBounds_toArray, List.set_cons_zero, List.set_cons_succ]))
        (refine inM_act rfl rfl (fun K' hK => ?_))
        (refine op_b0 45 75 3 rfl Try.underlying45 someF HC.out ?_; intro g1 w' hl hg hc; (replace HC := hide hc; clear hc); have HB1 := hide (Nat.le_trans HS.out.size hl); refine hK _ _ (.inr (gr_then0 HS.out hg)) ?_; replace HS := hide (gr_then0 HS.out hg); clear hK K' hg hl; (try simp only [Act.put, List.getElem_toArray, List.getElem_cons_zero, List.getElem_cons_succ, List.setIfInBounds_toArray, List.set_cons_zero, List.set_cons_succ]))
        (refine inM_act rfl rfl (fun K' hK => ?_))
        (refine op_apc _ _ rfl Try.underlying45 infoF (by decide) (by decide) rfl rfl HC.out (HFo.out.kept HC.out.grown) (by rw [flat_lenV flC_len]) HNf.out (fl_one _) (by omega) ?_; intro d1 cp1 w' hg hc; refine hK _ _ (.inr (gr_row HS.out hg rfl HB1.out)) ?_; replace HS := hide (gr_row HS.out hg rfl HB1.out); (replace HC := hide hc; clear hc); clear hK K' hg; simp only [Nat.zero_add, List.nil_append] at HC; (try simp only [Nat.zero_add]); (try simp only [Act.put, List.getElem_toArray, List.getElem_cons_zero, List.getElem_cons_succ, List.setIfInBounds_toArray, List.set_cons_zero, List.set_cons_succ]))
        (replace HC := hide (HC.out.row_tree (fl_isV _)))
        (refine inM_read (v := ?_) rfl (Or.inl ⟨by rfl, ?_⟩) ?_; rotate_left 1; (focus (intro W hSW; clear hSW; go_simp; (try (with_reducible rfl)))); (try simp only [Act.put, List.getElem_toArray, List.getElem_cons_zero, List.getElem_cons_succ, List.setIfInBounds_toArray, List.set_cons_zero, List.set_cons_succ]))
        (refine inM_act rfl rfl (fun K' hK => ?_))
        (refine op_apc _ _ rfl Try.underlying46 infoP (by decide) (by decide) rfl rfl HC.out (HPo.out.kept HC.out.grown) (by rw [flat_lenV pmC_len]) HNp.out (pm_one _) (by omega) ?_; intro d2 cp2 w' hg hc; refine hK _ _ (.inr (gr_row HS.out hg rfl HB2.out)) ?_; replace HS := hide (gr_row HS.out hg rfl HB2.out); (replace HC := hide hc; clear hc); clear hK K' hg; simp only [Nat.zero_add, List.nil_append] at HC; (try simp only [Nat.zero_add]); (try simp only [Act.put, List.getElem_toArray, List.getElem_cons_zero, List.getElem_cons_succ, List.setIfInBounds_toArray, List.set_cons_zero, List.set_cons_succ]))
        (replace HC := hide (HC.out.row_tree (pm_isV _)))
        ((refine inM_act rfl rfl (fun K' hK => ?_)); refine op_store (us := [_]) 45 _ _ rfl rfl rfl tcLF.sz rfl HC.out (by repeat (first | exact List.Mem.head _ | apply List.Mem.tail)) (by repeat (first | exact PutS.cons _ _ (PutS.nil _) | apply PutS.skip)) (by repeat (first | exact Upd.here _ _ _ | apply Upd.there)) ?_; intro w' hc; (replace HC := hide hc; clear hc); refine hK _ _ (.inl rfl) ?_; clear hK K'; (try simp only [Act.put, List.getElem_toArray, List.getElem_cons_zero, List.getElem_cons_succ, List.setIfInBounds_toArray, List.set_cons_zero, List.set_cons_succ]))
        ((refine inM_act rfl rfl (fun K' hK => ?_)); refine op_same (v := ?_) ?_ ?_; rotate_left 1; (focus (go_simp; (try (with_reducible rfl)))); refine hK _ _ (.inl rfl) ?_; clear hK K'; (try simp only [Act.put, List.getElem_toArray, List.getElem_cons_zero, List.getElem_cons_succ, List.setIfInBounds_toArray, List.set_cons_zero, List.set_cons_succ]))
        ((refine inM_act rfl rfl (fun K' hK => ?_)); refine op_store (us := [_]) 46 _ _ rfl rfl rfl tcLP.sz rfl HC.out (by repeat (first | exact List.Mem.head _ | apply List.Mem.tail)) (by repeat (first | exact PutS.cons _ _ (PutS.nil _) | apply PutS.skip)) (by repeat (first | exact Upd.here _ _ _ | apply Upd.there)) ?_; intro w' hc; (replace HC := hide hc; clear hc); refine hK _ _ (.inl rfl) ?_; clear hK K'; (try simp only [Act.put, List.getElem_toArray, List.getElem_cons_zero, List.getElem_cons_succ, List.setIfInBounds_toArray, List.set_cons_zero, List.set_cons_succ]))
        (refine inM_end ?_)
        clear HC0 HS
        (go_wp2_with (first | (refine at_load 48 rfl ?_; refine wl_load_s rfl 48 _ rfl tyT rfl HC.out (by repeat (first | exact List.Mem.head _ | apply List.Mem.tail)) (GetS.all _) rfl ?_) | (refine at_bs 24 rfl ?_; refine wl_bl rfl 24 _ _ rfl 48 [.int .i64 fm, .string (bs md), .string (bs nm), .int .i64 ln, .int .i64 el, .int .i64 ba, .slice d1 fl.length cp1, .slice d2 pr.length cp2, .int .i64 rs, .int .i64 ds] HC.out (by kernel_rfl) ?_; intro b w' hn hc; (replace HC := hide hc; clear hc)) | (refine wl_ap rfl _ _ rfl Try.underlying24 infoT (by decide) (by decide) rfl rfl HC.out rfl rfl (by omega) ?_; intro d9 cp9 w' hc; (replace HC := hide hc; clear hc))); refine ⟨⟨i + 1, d9, cp9, _, by omega, by go_num, rfl, hide (copy_step HX.out HC.out)⟩, by simp [intOf]; omega⟩)
    · obtain rfl : i = l.length := by omega
      go_wp2
      go_ret
      rw [List.take_of_length_le (by simp)] at HC
      have hr := HC.out.row _ (.head _)
      refine ⟨oc, cc, xs, by rw [List.length_map]; rfl, HC.out.grown, by rw [List.length_map]; exact hr, ?_⟩
      rw [List.length_map]
      exact isV.kept (Fr.here (fun b hb _ => ⟨hb.1.resolve_left id, hb.2.2 _ (.head _)⟩)) _ _ (HC.out.tr _ (.head _))
end Go.Proofs.Ythmldhppmpbadaa.Ty
