/-
  Package types: no type stands in itself.
-/
import Derived.Test.YtmoekalagollhaaTy8
namespace Go.Proofs.Ytmoekalagollhaa.Ty
open Go.RowKit hiding Hid
open Go.Proofs.Ytmoekalagollhaa.Tx Go.Proofs.Ytmoekalagollhaa.Lx Go.Proofs.Ytmoekalagollhaa.Tr
set_option linter.unusedVariables false
set_option linter.unusedSimpArgs false
set_option maxRecDepth 100000

section
variable {w0 : World} {o : Option Addr} {cp : Nat} {T : List Tt} {b : Nat}
theorem srC_len (n : Nat) (M : List Int) : (srC o n cp M).length = M.length + 1 := by simp [srC]
theorem srC_set (n : Nat) (M : List Int) (a : Nat) (v : Int) : (srC o n cp M).set (1 + a) (.int .i64 v) = srC o n cp (M.set a v) := by
  unfold srC
  rw [Nat.add_comm, List.set_cons_succ, List.map_set]
theorem srC_get {n : Nat} {M : List Int} {a : Nat} (h : a < M.length) : (srC o n cp M)[1 + a]? = some (.int .i64 (mk M a)) := by
  unfold srC mk
  rw [Nat.add_comm, List.getElem?_cons_succ, List.getElem?_map, List.getElem?_eq_getElem h]
  rfl
theorem putM {n : Nat} {M : List Int} {a : Nat} (h : a < M.length) (v : Int) : PutS (1 + a) [.int .i64 v] (srC o n cp M) (srC o n cp (M.set a v)) := by
  have := putS_at (srC o n cp M) (1 + a) (.int .i64 v) (by rw [srC_len]; omega)
  rwa [srC_set] at this
theorem srch_cell {M : List Int} {w : World} (H : Srch w0 o cp T b M w) {a : Nat} (h : a < M.length) : w.cell? ⟨b, 1 + a, none⟩ = some (.int .i64 (mk M a)) := by
  rw [cell_of_row _ _ _ _ _ _ H.blk]
  simpa using srC_get h
theorem srch_head {M : List Int} {w : World} (H : Srch w0 o cp T b M w) : w.cell? ⟨b, 0, none⟩ = some (.slice o T.length cp) := by
  rw [cell_of_row _ _ _ _ _ _ H.blk]
  rfl
theorem pend_any {U : List Nat} (hE : EndsOk w0 o cp T b U) {M : List Int} {w : World} {a : Nat} {la : La} (H : Srch w0 o cp T b M w) (hla : Lp w0 la) (hx : T[a]? = some la.x) (hin : InP T) (hv : Vm M) (hd : Dn T M) (hc : Cov U M) :
    Calls Try.prog 92 #[.pointer (some ⟨b, 0, none⟩), .agg (laC la).toArray] w (Vis w0 o cp T b M w (fun M' => ∀ j ∈ partsI la.x, mk M' j.toNat = 2) (Op1 T M a)) := by
  by_cases f78 : la.x.fm = 7 ∨ la.x.fm = 8
  · exact pend_one hE H hx hin hv hd hc f78
  by_cases f9 : la.x.fm = 9
  · exact pend_rec hE H hla hx hin hv hd hc f9
  · exact pend_none H hv hd ⟨fun e => f78 (.inl e), fun e => f78 (.inr e), f9⟩
set_option maxHeartbeats 8000000 in
theorem ends_step {U : List Nat} (hE : ∀ a, a ∈ U → EndsOk w0 o cp T b (U.erase a)) (hin : InP T) (hT : T.length ≤ 256) : EndsOk w0 o cp T b U := by
  intro M w a H ha hv hd hc
  have hM := H.len
  have haM : a < M.length := by omega
  have k0 : (a : Int) < 256 := by omega
  have k1 : (a : Int) < T.length := by omega
  have cM := srch_cell H haM
  have cH := srch_head H
  by_cases h0 : mk M a = 0
  · have hb : (mk M a != 0) = false := by simpa using h0
    obtain ⟨x, hx⟩ : ∃ x, T[a]? = some x := ⟨T[a], List.getElem?_eq_getElem ha⟩
    obtain ⟨ad, la, rfl, rfl, hcl, hla⟩ := H.tab.at hx
    have HEE := hide (hE a (hc a (by omega) h0))
    have HCv := hide (hc.less (a := a) haM)
    have HD1 := hide (hd.begin haM h0)
    have HV1 := hide (hv.set haM (v := 1) (.inr (.inl rfl)))
    have HX := hide hx
    have HLa := hide hla
    have HIn := hide hin
    have HS := hide H
    have HL1 := hide (show (M.set a 1).length = 256 by rw [List.length_set]; exact hM)
    have H0 := hide h0
    have HA := hide haM
    have HC := hide (H.cx (fun _ => False))
    obtain ⟨B, hB⟩ : ∃ B, ad.add (a * 10) = B := ⟨_, rfl⟩
    rw [hB] at hcl
    have HEL := hide (fun W (hW : w0.grownBy W none) j u (hu : (laC la)[j]? = some u) => hW.cell (hcl j u hu) (by simp))
    rw [h0] at cM
    clear H hv hd hc hE hin hcl hla hx hb h0 hM
    go_enter Try.func70, Try.ntmps70
    go_wp2_with (first | (refine at_store 3 rfl ?_; refine wl_store (us := [.int .i64 1]) rfl 3 _ _ rfl rfl rfl tcI.sz rfl HC.out (by repeat (first | exact List.Mem.head _ | apply List.Mem.tail)) (putM HA.out 1) (by repeat (first | exact Upd.here _ _ _ | apply Upd.there)) ?_; intro w' hc; (replace HC := hide hc; clear hc)) | (refine at_store 3 rfl ?_; refine wl_store (us := [.int .i64 2]) rfl 3 _ _ rfl rfl rfl tcI.sz rfl HC.out (by repeat (first | exact List.Mem.head _ | apply List.Mem.tail)) (putM HA2.out 2) (by repeat (first | exact Upd.here _ _ _ | apply Upd.there)) ?_; intro w' hc; (replace HC := hide hc; clear hc)) | (go_at_call 92; refine (pend_any HEE.out (HS.out.next HC.out.grown (HC.out.loc ⟨b, srC (some ad) T.length cp (M.set a 1), 90⟩ (by repeat (first | exact List.Mem.head _ | apply List.Mem.tail))) HL1.out) HLa.out HX.out HIn.out HV1.out HD1.out HCv.out).mono ?_; rintro e w2 ⟨c, M', rfl, hg, hs, hy, hn⟩; have HG := hide hg; have HZ := hide hs; cases c <;> (first | (have HQ := hide (hy rfl); have HC1 := hide (HC.out.callX hg (by repeat (first | exact List.Mem.head _ | apply List.Mem.tail)) hs.blk (by repeat (first | exact Upd.here _ _ _ | apply Upd.there))); clear HC; have HC := HC1; clear HC1; have HA2 := hide (show a < M'.length by rw [hs.len]; omega); clear hy hn hg hs) | (have HN := hide (hn rfl); clear hy hn hg hs))) | (refine at_load 22 rfl ?_; refine wl_load_c rfl 22 _ rfl tcLT rfl HC.out (by repeat (first | exact List.Mem.head _ | apply List.Mem.tail)) (GetS.cons _ (GetS.nil _)) ?_) | (refine at_load 32 rfl ?_; refine wl_run rfl 32 _ rfl rfl (run_load_s tyT _ (laC la) rfl (HEL.out _ (grown_then HS.out.gr HC.out.grown (fun y e => by cases e; exact .inr HS.out.new)))) ?_))
    · go_ret
      exact ⟨false, M', rfl, grown_then HC.out.grown HG.out (fun y e => .inl e), HZ.out, (fun e => by cases e), fun _ => on_parts HA.out HN.out⟩
    · go_ret
      exact ⟨true, M'.set a 2, rfl, HC.out.grown, HS.out.next HC.out.grown (HC.out.loc ⟨b, srC (some ad) T.length cp (M'.set a 2), 90⟩ (by repeat (first | exact List.Mem.head _ | apply List.Mem.tail))) (by rw [List.length_set]; exact HZ.out.len), fun _ => ⟨done_at HX.out HA.out HA2.out H0.out HQ.out.1 HQ.out.2, by show mk _ a = 2; rw [mk_set HA2.out, if_pos rfl]⟩, (fun e => by cases e)⟩
  · have hb : (mk M a != 0) = true := by simpa using h0
    have HS := hide H
    have HK := hide (And.intro hv (And.intro hd hc))
    rw [show mk M a = mk M a from rfl] at cM
    obtain ⟨m, hm⟩ : ∃ m, mk M a = m := ⟨_, rfl⟩
    rw [hm] at cM hb h0
    have HMm := hide hm
    clear H hv hd hc hm
    go_enter Try.func70, Try.ntmps70
    go_wp2
    go_ret
    refine ⟨m == 2, M, by simp, grown_refl w _, HS.out, fun e => ?_, fun e => ?_⟩
    · exact ⟨⟨Lm.refl _, HK.out.2.1, HK.out.1⟩, by show mk M a = 2; rw [HMm.out]; simpa using e⟩
    · refine on_begun ?_
      have := HK.out.1 a
      rw [HMm.out] at this ⊢
      simp at e h0
      omega
theorem ends_all (hin : InP T) (hT : T.length ≤ 256) : ∀ (n : Nat) (U : List Nat), U.length ≤ n → EndsOk w0 o cp T b U
  | 0, U, h => ends_step (fun a ha => by rw [List.eq_nil_of_length_eq_zero (Nat.le_zero.1 h)] at ha; cases ha) hin hT
  | n + 1, U, h => ends_step (fun a ha => ends_all hin hT n _ (by rw [List.length_erase_of_mem ha]; omega)) hin hT
end
/- Whether a table's types end. -/
theorem zS : (Try.prog.info? 90).bind (fun i => i.zero.map (·.cells)) = some (srC none 0 0 (List.replicate 256 0)).toArray := by kernel_rfl
theorem tyS : TyS Try.prog 90 257 := tyS_of Try.underlying90 rfl (by kernel_rfl)
theorem mk_zero (i : Nat) : mk (List.replicate 256 0) i = 0 := by
  unfold mk
  rw [List.getElem?_replicate]
  split <;> rfl
end Go.Proofs.Ytmoekalagollhaa.Ty
