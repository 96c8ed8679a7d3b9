/-
  Package types: records, the whole table.
-/
import Derived.Test.YthmldhppmpbadaaY4
namespace Go.Proofs.Ythmldhppmpbadaa.Ty
open Go.RowKit hiding Hid
open Go.Maps Go.Proofs.Ythmldhppmpbadaa.Tx Go.Proofs.Ythmldhppmpbadaa.Lx Go.Proofs.Ythmldhppmpbadaa.Tr Go.Proofs.Ythmldhppmpbadaa.Mp
set_option linter.unusedVariables false
set_option linter.unusedSimpArgs false
set_option maxRecDepth 100000

theorem zE : (Try.prog.info? 113).bind (fun i => i.zero.map (·.cells)) = some ([] : List Value).toArray := by kernel_rfl
theorem tyE : TyS Try.prog 113 0 := tyS_of Try.underlying113 rfl (by kernel_rfl)
def RcO (w : World) (T : List Tt) (e : Ending) (w' : World) : Prop := ∃ d, e = .returned (.bool d) ∧ w.grownBy w' none ∧ (d = true ↔ ∀ i, RecD T i)
theorem pm_next {f : Txt → Int} {i : Nat} {N : List Txt} (h : ∀ s (k : Nat), i ≤ k → k ≠ 0 → f s ≠ k) : ∀ s (k : Nat), i + 1 ≤ k → k ≠ 0 → pm f i N s ≠ k := fun s k hk h0 => by
  unfold pm
  split
  · omega
  · exact h s k (by omega) h0
theorem rec_none {T : List Tt} {i : Nat} {x : Tt} (h : T[i]? = some x) (hf : x.fm ≠ 9) : RecD T i := fun y hy e => by rw [h] at hy; cases hy; exact absurd e hf
theorem rec_next {T : List Tt} {i : Nat} (h : ∀ k, k < i → RecD T k) (h1 : RecD T i) : ∀ k, k < i + 1 → RecD T k := fun k hk => by
  by_cases e : k = i
  · rw [e]; exact h1
  · exact h k (by omega)
theorem rec_all {T : List Tt} (h : ∀ k, k < T.length → RecD T k) (k : Nat) : RecD T k := by
  by_cases hk : k < T.length
  · exact h k hk
  · intro x hx
    rw [List.getElem?_eq_none (by omega)] at hx
    cases hx
theorem rec_twice {T : List Tt} {i : Nat} {x : Tt} (h : T[i]? = some x) (hf : x.fm = 9) (hm : (x.md, x.ds) ∈ ownE T i) : ¬ ∀ i, RecD T i := fun ha => by
  obtain ⟨j, y, hj, hy, h1, h2, e⟩ := ownE_mem.1 hm
  simp only [Prod.mk.injEq] at e
  have := ((ha i) x h hf).1 j y hj hy h1 e.1.symm e.2.symm
  rw [← e.2] at h2
  exact h2 this
theorem rec_deep {T : List Tt} {i n : Nat} {x : Tt} (h : T[i]? = some x) (hf : x.fm = 9) (hl : Lv T n i) (hn : ¬ n ≤ 4) : ¬ ∀ i, RecD T i := fun ha => by
  obtain ⟨m, hm, hl2, _⟩ := ((ha i) x h hf).2
  rw [Lv.one hl hl2] at hn
  exact hn hm
theorem rec_names {T : List Tt} {i n : Nat} {x : Tt} (h : T[i]? = some x) (hf : x.fm = 9) (hl : Lv T n i) (hn : ¬ (nmsL T n i).Nodup) : ¬ ∀ i, RecD T i := fun ha => by
  obtain ⟨m, hm, hl2, hd⟩ := ((ha i) x h hf).2
  rw [Lv.one hl hl2] at hn
  exact hn hd
theorem rec_good {T : List Tt} {i n : Nat} {x : Tt} (h : T[i]? = some x) (hf : x.fm = 9) (hm : (x.md, x.ds) ∉ ownE T i) (hl : Lv T n i) (hn : n ≤ 4) (hd : (nmsL T n i).Nodup) : RecD T i := fun y hy e => by
  rw [h] at hy
  cases hy
  refine ⟨fun k z hk hz hz9 e1 e2 => ?_, n, hn, hl, hd⟩
  by_cases hds : x.ds = -1
  · exact hds
  · exact absurd (ownE_mem.2 ⟨k, z, hk, hz, hz9, by rw [e2]; exact hds, by rw [e1, e2]⟩) hm
set_option maxHeartbeats 8000000 in
theorem records_at {w : World} {o : Option Addr} {T : List Tt} (cp : Nat) (H : Tab w o T) (hp : RecPre T) : Calls Try.prog 63 #[.slice o T.length cp] w (RcO w T) := by
  have HT := hide H
  have HP := hide hp
  have hle := hp.le
  have k0 : (T.length : Int) ≤ 256 := by omega
  have HC := hide (Cf.of (Cx.start w (fun _ => False)))
  clear H hp
  go_enter Try.func63, Try.ntmps63
  go_wp2_with (first | (refine at_mkmap 111 rfl ?_; refine cf_mkmap rfl 111 rfl (fun b W => MapO W b []) MapO.made (fun b => stabO b []) HC.out ?_; intro b1 w' hc; (replace HC := hide hc; clear hc)) | (refine at_mkmap 112 rfl ?_; refine cf_mkmap rfl 112 rfl (fun b W => MapI W b (fun _ => 0) 0) MapI.made (fun b => stabI b _ _) HC.out ?_; intro b2 w' hc; (replace HC := hide hc; clear hc)))
  go_loopw [13] (fun iv W => ∃ (i c : Nat) (f : Txt → Int), i ≤ T.length ∧ iv = .int .i64 i ∧ Hid (∀ k, k < i → RecD T k) ∧ Hid (c ≤ 320 * i ∧ ∀ s (k : Nat), i ≤ k → k ≠ 0 → f s ≠ k) ∧ Hid (Cf w (fun _ => False) none [] [] [⟨b1, fun W => MapO W b1 (ownE T i)⟩, ⟨b2, fun W => MapI W b2 f c⟩] W)) (fun iv _ => T.length - (intOf iv).toNat)
  case atStart => exact ⟨0, 0, fun _ => 0, by omega, rfl, hide (fun k hk => by omega), hide ⟨by omega, fun s k _ hk e => hk (by simpa using e.symm)⟩, hide HC.out.swap⟩
  case round =>
    clear HC
    obtain ⟨i, c, f, hi, rfl, HA, HF, HC⟩ := hrel
    by_cases hlt : i < T.length
    · have j1 : (i : Int) < T.length := by omega
      obtain ⟨x, hx⟩ : ∃ x, T[i]? = some x := ⟨T[i], List.getElem?_eq_getElem hlt⟩
      obtain ⟨ad, ⟨⟨fm, md, nm, ln, el, ba, fl, pr, rs, ds⟩, fo, fc, po, pc⟩, rfl, rfl, hcl, hla⟩ := HT.out.at hx
      obtain ⟨B, hB⟩ : ∃ B, ad.add (i * 10) = B := ⟨_, rfl⟩
      rw [hB] at hcl
      have HEL := hide (fun W (hW : w.grownBy W none) j u (hu : (laC ⟨⟨fm, md, nm, ln, el, ba, fl, pr, rs, ds⟩, fo, fc, po, pc⟩)[j]? = some u) => hW.cell (hcl j u hu) (by simp))
      unfold laC at HEL
      dsimp only at HEL
      have HX := hide hx
      have HMd := hide hla.sm.md
      clear hcl hla hx
      by_cases hf : fm = 9
      · have hfb : (fm != 9) = false := by simpa using hf
        have HF9 := hide hf
        obtain ⟨⟨n, hn, hlv⟩, d0, d1⟩ := HP.out.lv i _ HX.out hf
        dsimp only at d0 d1
        have HLv := hide hlv
        clear hf
        have HI0 := hide (show i ≠ 0 from fun e => by
          subst e
          exact HP.out.z _ HX.out HF9.out)
        have hko : kok (md, ds) := ⟨HMd.out, by dsimp only; omega⟩
        have HKo := hide hko
        have HEl := hide (show (ownE T i).length < 1000000 by have := ownE_len T i; omega)
        have HFi := hide (fun s => HF.out.2 s i (Nat.le_refl _) HI0.out)
        by_cases hm : (md, ds) ∈ ownE T i
        · have HIn := hide hm
          have HLK := hide (fun W (h : MapO W b1 (ownE T i)) => (show (Instr.lookup 111 (.map (some b1)) (.agg #[.string (bs md), .int .i64 ds]) true).run Try.prog W = .ok (.tuple #[.agg #[], .bool true]) W from h.yes HIn.out))
          clear hm hlv hko
          go_wp2_with (first | (first | (refine at_load 48 rfl ?_; refine wl_run rfl 48 _ rfl rfl (run_load_s tyT _ [.int .i64 fm, .string (bs md), .string (bs nm), .int .i64 ln, .int .i64 el, .int .i64 ba, .slice fo fl.length fc, .slice po pr.length pc, .int .i64 rs, .int .i64 ds] rfl (HEL.out _ HC.out.cx.grown)) ?_) | (refine at_alloc 48 rfl ?_; refine cf_alloc rfl 48 rfl _ zTy HC.out ?_; intro bt w' hn hc; (replace HC := hide hc; clear hc)) | (refine at_store 48 rfl ?_; refine cf_store rfl 48 _ _ rfl rfl rfl tyT.sz rfl HC.out (by repeat (first | exact List.Mem.head _ | apply List.Mem.tail)) (by exact PutS.all _ _ rfl) (by repeat (first | exact Upd.here _ _ _ | apply Upd.there)) ?_; intro w' hc; (replace HC := hide hc; clear hc)) | (refine at_load 3 rfl ?_; refine wl_load_c rfl 3 _ rfl tcI rfl HC.out.cx (by repeat (first | exact List.Mem.head _ | apply List.Mem.tail)) (by repeat (first | exact GetS.cons _ (GetS.nil _) | apply GetS.skip)) ?_) | (refine at_load 9 rfl ?_; refine wl_load_c rfl 9 _ rfl tcS rfl HC.out.cx (by repeat (first | exact List.Mem.head _ | apply List.Mem.tail)) (by repeat (first | exact GetS.cons _ (GetS.nil _) | apply GetS.skip)) ?_) | (refine at_alloc 113 rfl ?_; refine cf_alloc rfl 113 rfl _ zE HC.out ?_; intro bz w' hn hc; (replace HC := hide hc; clear hc)) | (refine at_store 113 rfl ?_; refine cf_store rfl 113 _ _ rfl rfl rfl tyE.sz rfl HC.out (by repeat (first | exact List.Mem.head _ | apply List.Mem.tail)) (by exact PutS.all _ _ rfl) (by repeat (first | exact Upd.here _ _ _ | apply Upd.there)) ?_; intro w' hc; (replace HC := hide hc; clear hc))) | (refine at_lookup 111 rfl ?_; refine wl_look (m := .map (some b1)) (k := .agg #[.string (bs md), .int .i64 ds]) (r := .tuple #[.agg #[], .bool true]) rfl rfl rfl rfl (HLK.out _ (HC.out.fs _ (.head _))) ?_))
          go_ret
          exact ⟨false, rfl, HC.out.cx.grown, ⟨(fun e => by cases e), fun h => (rec_twice HX.out HF9.out HIn.out h).elim⟩⟩
        · have HIn := hide hm
          have HLK := hide (fun W (h : MapO W b1 (ownE T i)) => (show (Instr.lookup 111 (.map (some b1)) (.agg #[.string (bs md), .int .i64 ds]) true).run Try.prog W = .ok (.tuple #[.agg #[], .bool false]) W from h.no HKo.out HIn.out))
          have HPT := hide (fun W (h : MapO W b1 (ownE T i)) => (show ∃ w', (Instr.mapUpdate 111 (.map (some b1)) (.agg #[.string (bs md), .int .i64 ds]) (.agg #[])).run Try.prog W = .ok () w' ∧ MapO w' b1 (ownE T i ++ [(md, ds)]) ∧ W.grownBy w' (some b1) from h.put HKo.out HEl.out))
          by_cases h4 : n ≤ 4
          · have HBd := hide (show c + (nmsL T n i).length < 1000000 by
              have h1 := nms_len HP.out n i
              have h2 := HF.out.1
              have h3 : 64 * (n + 1) ≤ 320 := by omega
              omega)
            have k4 : (n : Int) ≤ 4 := by omega
            clear hm hlv hko
            by_cases hd : ds = -1
            · have hdb : (ds != -1) = false := by simpa using hd
              have HD9 := hide hd
              clear hd
              go_wp2_with (first | (first | (refine at_load 48 rfl ?_; refine wl_run rfl 48 _ rfl rfl (run_load_s tyT _ [.int .i64 fm, .string (bs md), .string (bs nm), .int .i64 ln, .int .i64 el, .int .i64 ba, .slice fo fl.length fc, .slice po pr.length pc, .int .i64 rs, .int .i64 ds] rfl (HEL.out _ HC.out.cx.grown)) ?_) | (refine at_alloc 48 rfl ?_; refine cf_alloc rfl 48 rfl _ zTy HC.out ?_; intro bt w' hn hc; (replace HC := hide hc; clear hc)) | (refine at_store 48 rfl ?_; refine cf_store rfl 48 _ _ rfl rfl rfl tyT.sz rfl HC.out (by repeat (first | exact List.Mem.head _ | apply List.Mem.tail)) (by exact PutS.all _ _ rfl) (by repeat (first | exact Upd.here _ _ _ | apply Upd.there)) ?_; intro w' hc; (replace HC := hide hc; clear hc)) | (refine at_load 3 rfl ?_; refine wl_load_c rfl 3 _ rfl tcI rfl HC.out.cx (by repeat (first | exact List.Mem.head _ | apply List.Mem.tail)) (by repeat (first | exact GetS.cons _ (GetS.nil _) | apply GetS.skip)) ?_) | (refine at_load 9 rfl ?_; refine wl_load_c rfl 9 _ rfl tcS rfl HC.out.cx (by repeat (first | exact List.Mem.head _ | apply List.Mem.tail)) (by repeat (first | exact GetS.cons _ (GetS.nil _) | apply GetS.skip)) ?_) | (refine at_alloc 113 rfl ?_; refine cf_alloc rfl 113 rfl _ zE HC.out ?_; intro bz w' hn hc; (replace HC := hide hc; clear hc)) | (refine at_store 113 rfl ?_; refine cf_store rfl 113 _ _ rfl rfl rfl tyE.sz rfl HC.out (by repeat (first | exact List.Mem.head _ | apply List.Mem.tail)) (by exact PutS.all _ _ rfl) (by repeat (first | exact Upd.here _ _ _ | apply Upd.there)) ?_; intro w' hc; (replace HC := hide hc; clear hc))) | (refine at_lookup 111 rfl ?_; refine wl_look (m := .map (some b1)) (k := .agg #[.string (bs md), .int .i64 ds]) (r := .tuple #[.agg #[], .bool false]) rfl rfl rfl rfl (HLK.out _ (HC.out.fs _ (.head _))) ?_) | (go_at_call 99; refine (count_at _ (HT.out.kept HC.out.cx.grown) HLv.out (by omega)).mono ?_; rintro e w' ⟨rfl, hw⟩; replace hw := hw.symm; subst hw) | (go_at_call 100; refine (named_at _ HT.out HC.out.cx.grown ((HC.out.old _ (.tail _ (.head _))).resolve_right (by simp)) HLv.out HI0.out (HC.out.fs _ (.tail _ (.head _))) HFi.out HBd.out).mono ?_; rintro e w2 ⟨d, rfl, hg, hy, hn⟩; have HG := hide hg; cases d <;> (first | (have HQ := hide (hy rfl); replace HC := hide ((HC.out.swap.turn (Fs' := []) hg (hy rfl).2 (stabI _ _ _)).swap); clear hy hn hg) | (have HN := hide (hn rfl); clear hy hn hg))))
              · go_ret
                exact ⟨false, rfl, grown_then HC.out.cx.grown HG.out (fun y e => by cases e; exact (HC.out.old _ (.tail _ (.head _))).symm), ⟨(fun e => by cases e), fun h => (rec_names HX.out HF9.out HLv.out HN.out h).elim⟩⟩
              · refine ⟨⟨i + 1, c + (nmsL T n i).length, pm f i (nmsL T n i), by omega, by go_num, hide (rec_next HA.out (rec_good HX.out HF9.out HIn.out HLv.out h4 HQ.out.1)), hide ⟨?_, ?_⟩, hide ?_⟩, by simp [intOf]; omega⟩
                · have h1 := nms_len HP.out n i
                  have h2 := HF.out.1
                  omega
                · exact pm_next HF.out.2
                · rw [ownE_step HX.out, if_neg (by rw [HD9.out]; simp)]
                  exact HC.out.drop.drop
            · have hdb : (ds != -1) = true := by simpa using hd
              go_wp2_with (first | (first | (refine at_load 48 rfl ?_; refine wl_run rfl 48 _ rfl rfl (run_load_s tyT _ [.int .i64 fm, .string (bs md), .string (bs nm), .int .i64 ln, .int .i64 el, .int .i64 ba, .slice fo fl.length fc, .slice po pr.length pc, .int .i64 rs, .int .i64 ds] rfl (HEL.out _ HC.out.cx.grown)) ?_) | (refine at_alloc 48 rfl ?_; refine cf_alloc rfl 48 rfl _ zTy HC.out ?_; intro bt w' hn hc; (replace HC := hide hc; clear hc)) | (refine at_store 48 rfl ?_; refine cf_store rfl 48 _ _ rfl rfl rfl tyT.sz rfl HC.out (by repeat (first | exact List.Mem.head _ | apply List.Mem.tail)) (by exact PutS.all _ _ rfl) (by repeat (first | exact Upd.here _ _ _ | apply Upd.there)) ?_; intro w' hc; (replace HC := hide hc; clear hc)) | (refine at_load 3 rfl ?_; refine wl_load_c rfl 3 _ rfl tcI rfl HC.out.cx (by repeat (first | exact List.Mem.head _ | apply List.Mem.tail)) (by repeat (first | exact GetS.cons _ (GetS.nil _) | apply GetS.skip)) ?_) | (refine at_load 9 rfl ?_; refine wl_load_c rfl 9 _ rfl tcS rfl HC.out.cx (by repeat (first | exact List.Mem.head _ | apply List.Mem.tail)) (by repeat (first | exact GetS.cons _ (GetS.nil _) | apply GetS.skip)) ?_) | (refine at_alloc 113 rfl ?_; refine cf_alloc rfl 113 rfl _ zE HC.out ?_; intro bz w' hn hc; (replace HC := hide hc; clear hc)) | (refine at_store 113 rfl ?_; refine cf_store rfl 113 _ _ rfl rfl rfl tyE.sz rfl HC.out (by repeat (first | exact List.Mem.head _ | apply List.Mem.tail)) (by exact PutS.all _ _ rfl) (by repeat (first | exact Upd.here _ _ _ | apply Upd.there)) ?_; intro w' hc; (replace HC := hide hc; clear hc))) | (refine at_lookup 111 rfl ?_; refine wl_look (m := .map (some b1)) (k := .agg #[.string (bs md), .int .i64 ds]) (r := .tuple #[.agg #[], .bool false]) rfl rfl rfl rfl (HLK.out _ (HC.out.fs _ (.head _))) ?_) | (refine at_put 111 rfl ?_; obtain ⟨w9, hr9, hm9, hg9⟩ := HPT.out _ (HC.out.fs _ (.head _)); refine wl_put (m := .map (some b1)) (k := .agg #[.string (bs md), .int .i64 ds]) (v := .agg #[]) rfl rfl rfl rfl rfl hr9 ?_; replace HC := hide (HC.out.turn (Fs' := []) hg9 hm9 (stabO _ _)); clear hr9 hm9 hg9) | (go_at_call 99; refine (count_at _ (HT.out.kept HC.out.cx.grown) HLv.out (by omega)).mono ?_; rintro e w' ⟨rfl, hw⟩; replace hw := hw.symm; subst hw) | (go_at_call 100; refine (named_at _ HT.out HC.out.cx.grown ((HC.out.old _ (.tail _ (.head _))).resolve_right (by simp)) HLv.out HI0.out (HC.out.fs _ (.tail _ (.head _))) HFi.out HBd.out).mono ?_; rintro e w2 ⟨d, rfl, hg, hy, hn⟩; have HG := hide hg; cases d <;> (first | (have HQ := hide (hy rfl); replace HC := hide ((HC.out.swap.turn (Fs' := []) hg (hy rfl).2 (stabI _ _ _)).swap); clear hy hn hg) | (have HN := hide (hn rfl); clear hy hn hg))))
              · go_ret
                exact ⟨false, rfl, grown_then HC.out.cx.grown HG.out (fun y e => by cases e; exact (HC.out.old _ (.tail _ (.head _))).symm), ⟨(fun e => by cases e), fun h => (rec_names HX.out HF9.out HLv.out HN.out h).elim⟩⟩
              · refine ⟨⟨i + 1, c + (nmsL T n i).length, pm f i (nmsL T n i), by omega, by go_num, hide (rec_next HA.out (rec_good HX.out HF9.out HIn.out HLv.out h4 HQ.out.1)), hide ⟨?_, ?_⟩, hide ?_⟩, by simp [intOf]; omega⟩
                · have h1 := nms_len HP.out n i
                  have h2 := HF.out.1
                  omega
                · exact pm_next HF.out.2
                · rw [ownE_step HX.out, if_pos ⟨HF9.out, hd⟩]
                  exact HC.out.drop.drop
          · have k4 : ¬ (n : Int) ≤ 4 := by omega
            clear hm hlv hko
            by_cases hd : ds = -1
            · have hdb : (ds != -1) = false := by simpa using hd
              clear hd
              go_wp2_with (first | (first | (refine at_load 48 rfl ?_; refine wl_run rfl 48 _ rfl rfl (run_load_s tyT _ [.int .i64 fm, .string (bs md), .string (bs nm), .int .i64 ln, .int .i64 el, .int .i64 ba, .slice fo fl.length fc, .slice po pr.length pc, .int .i64 rs, .int .i64 ds] rfl (HEL.out _ HC.out.cx.grown)) ?_) | (refine at_alloc 48 rfl ?_; refine cf_alloc rfl 48 rfl _ zTy HC.out ?_; intro bt w' hn hc; (replace HC := hide hc; clear hc)) | (refine at_store 48 rfl ?_; refine cf_store rfl 48 _ _ rfl rfl rfl tyT.sz rfl HC.out (by repeat (first | exact List.Mem.head _ | apply List.Mem.tail)) (by exact PutS.all _ _ rfl) (by repeat (first | exact Upd.here _ _ _ | apply Upd.there)) ?_; intro w' hc; (replace HC := hide hc; clear hc)) | (refine at_load 3 rfl ?_; refine wl_load_c rfl 3 _ rfl tcI rfl HC.out.cx (by repeat (first | exact List.Mem.head _ | apply List.Mem.tail)) (by repeat (first | exact GetS.cons _ (GetS.nil _) | apply GetS.skip)) ?_) | (refine at_load 9 rfl ?_; refine wl_load_c rfl 9 _ rfl tcS rfl HC.out.cx (by repeat (first | exact List.Mem.head _ | apply List.Mem.tail)) (by repeat (first | exact GetS.cons _ (GetS.nil _) | apply GetS.skip)) ?_) | (refine at_alloc 113 rfl ?_; refine cf_alloc rfl 113 rfl _ zE HC.out ?_; intro bz w' hn hc; (replace HC := hide hc; clear hc)) | (refine at_store 113 rfl ?_; refine cf_store rfl 113 _ _ rfl rfl rfl tyE.sz rfl HC.out (by repeat (first | exact List.Mem.head _ | apply List.Mem.tail)) (by exact PutS.all _ _ rfl) (by repeat (first | exact Upd.here _ _ _ | apply Upd.there)) ?_; intro w' hc; (replace HC := hide hc; clear hc))) | (refine at_lookup 111 rfl ?_; refine wl_look (m := .map (some b1)) (k := .agg #[.string (bs md), .int .i64 ds]) (r := .tuple #[.agg #[], .bool false]) rfl rfl rfl rfl (HLK.out _ (HC.out.fs _ (.head _))) ?_) | (go_at_call 99; refine (count_at _ (HT.out.kept HC.out.cx.grown) HLv.out (by omega)).mono ?_; rintro e w' ⟨rfl, hw⟩; replace hw := hw.symm; subst hw))
              go_ret
              exact ⟨false, rfl, HC.out.cx.grown, ⟨(fun e => by cases e), fun h => (rec_deep HX.out HF9.out HLv.out h4 h).elim⟩⟩
            · have hdb : (ds != -1) = true := by simpa using hd
              go_wp2_with (first | (first | (refine at_load 48 rfl ?_; refine wl_run rfl 48 _ rfl rfl (run_load_s tyT _ [.int .i64 fm, .string (bs md), .string (bs nm), .int .i64 ln, .int .i64 el, .int .i64 ba, .slice fo fl.length fc, .slice po pr.length pc, .int .i64 rs, .int .i64 ds] rfl (HEL.out _ HC.out.cx.grown)) ?_) | (refine at_alloc 48 rfl ?_; refine cf_alloc rfl 48 rfl _ zTy HC.out ?_; intro bt w' hn hc; (replace HC := hide hc; clear hc)) | (refine at_store 48 rfl ?_; refine cf_store rfl 48 _ _ rfl rfl rfl tyT.sz rfl HC.out (by repeat (first | exact List.Mem.head _ | apply List.Mem.tail)) (by exact PutS.all _ _ rfl) (by repeat (first | exact Upd.here _ _ _ | apply Upd.there)) ?_; intro w' hc; (replace HC := hide hc; clear hc)) | (refine at_load 3 rfl ?_; refine wl_load_c rfl 3 _ rfl tcI rfl HC.out.cx (by repeat (first | exact List.Mem.head _ | apply List.Mem.tail)) (by repeat (first | exact GetS.cons _ (GetS.nil _) | apply GetS.skip)) ?_) | (refine at_load 9 rfl ?_; refine wl_load_c rfl 9 _ rfl tcS rfl HC.out.cx (by repeat (first | exact List.Mem.head _ | apply List.Mem.tail)) (by repeat (first | exact GetS.cons _ (GetS.nil _) | apply GetS.skip)) ?_) | (refine at_alloc 113 rfl ?_; refine cf_alloc rfl 113 rfl _ zE HC.out ?_; intro bz w' hn hc; (replace HC := hide hc; clear hc)) | (refine at_store 113 rfl ?_; refine cf_store rfl 113 _ _ rfl rfl rfl tyE.sz rfl HC.out (by repeat (first | exact List.Mem.head _ | apply List.Mem.tail)) (by exact PutS.all _ _ rfl) (by repeat (first | exact Upd.here _ _ _ | apply Upd.there)) ?_; intro w' hc; (replace HC := hide hc; clear hc))) | (refine at_lookup 111 rfl ?_; refine wl_look (m := .map (some b1)) (k := .agg #[.string (bs md), .int .i64 ds]) (r := .tuple #[.agg #[], .bool false]) rfl rfl rfl rfl (HLK.out _ (HC.out.fs _ (.head _))) ?_) | (refine at_put 111 rfl ?_; obtain ⟨w9, hr9, hm9, hg9⟩ := HPT.out _ (HC.out.fs _ (.head _)); refine wl_put (m := .map (some b1)) (k := .agg #[.string (bs md), .int .i64 ds]) (v := .agg #[]) rfl rfl rfl rfl rfl hr9 ?_; replace HC := hide (HC.out.turn (Fs' := []) hg9 hm9 (stabO _ _)); clear hr9 hm9 hg9) | (go_at_call 99; refine (count_at _ (HT.out.kept HC.out.cx.grown) HLv.out (by omega)).mono ?_; rintro e w' ⟨rfl, hw⟩; replace hw := hw.symm; subst hw))
              go_ret
              exact ⟨false, rfl, HC.out.cx.grown, ⟨(fun e => by cases e), fun h => (rec_deep HX.out HF9.out HLv.out h4 h).elim⟩⟩
      · have hfb : (fm != 9) = true := by simpa using hf
        go_wp2_with (first | (refine at_load 48 rfl ?_; refine wl_run rfl 48 _ rfl rfl (run_load_s tyT _ [.int .i64 fm, .string (bs md), .string (bs nm), .int .i64 ln, .int .i64 el, .int .i64 ba, .slice fo fl.length fc, .slice po pr.length pc, .int .i64 rs, .int .i64 ds] rfl (HEL.out _ HC.out.cx.grown)) ?_) | (refine at_alloc 48 rfl ?_; refine cf_alloc rfl 48 rfl _ zTy HC.out ?_; intro bt w' hn hc; (replace HC := hide hc; clear hc)) | (refine at_store 48 rfl ?_; refine cf_store rfl 48 _ _ rfl rfl rfl tyT.sz rfl HC.out (by repeat (first | exact List.Mem.head _ | apply List.Mem.tail)) (by exact PutS.all _ _ rfl) (by repeat (first | exact Upd.here _ _ _ | apply Upd.there)) ?_; intro w' hc; (replace HC := hide hc; clear hc)) | (refine at_load 3 rfl ?_; refine wl_load_c rfl 3 _ rfl tcI rfl HC.out.cx (by repeat (first | exact List.Mem.head _ | apply List.Mem.tail)) (by repeat (first | exact GetS.cons _ (GetS.nil _) | apply GetS.skip)) ?_) | (refine at_load 9 rfl ?_; refine wl_load_c rfl 9 _ rfl tcS rfl HC.out.cx (by repeat (first | exact List.Mem.head _ | apply List.Mem.tail)) (by repeat (first | exact GetS.cons _ (GetS.nil _) | apply GetS.skip)) ?_) | (refine at_alloc 113 rfl ?_; refine cf_alloc rfl 113 rfl _ zE HC.out ?_; intro bz w' hn hc; (replace HC := hide hc; clear hc)) | (refine at_store 113 rfl ?_; refine cf_store rfl 113 _ _ rfl rfl rfl tyE.sz rfl HC.out (by repeat (first | exact List.Mem.head _ | apply List.Mem.tail)) (by exact PutS.all _ _ rfl) (by repeat (first | exact Upd.here _ _ _ | apply Upd.there)) ?_; intro w' hc; (replace HC := hide hc; clear hc)))
        refine ⟨⟨i + 1, c, f, by omega, by go_num, hide (rec_next HA.out (rec_none HX.out hf)), hide ⟨by have := HF.out.1; omega, fun s k hk => HF.out.2 s k (by omega)⟩, hide ?_⟩, by simp [intOf]; omega⟩
        rw [ownE_step HX.out, if_neg (by simp [hf])]
        exact HC.out.drop
    · obtain rfl : i = T.length := by omega
      go_wp2
      go_ret
      exact ⟨true, rfl, HC.out.cx.grown, ⟨fun _ k => rec_all HA.out k, fun _ => rfl⟩⟩
end Go.Proofs.Ythmldhppmpbadaa.Ty
