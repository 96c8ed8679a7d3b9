/-
  Layout, the document's own (package spinetref14): sizes of records; all sizes.
-/
import Derived.Test.YtnolelgmcmgohaaY9
import Derived.Test.YtnolelgmcmgohaaLz4
namespace Go.Proofs.Ytnolelgmcmgohaa.Ty
open Go.RowKit hiding Hid
open Go.Proofs.Ytnolelgmcmgohaa.Tx Go.Proofs.Ytnolelgmcmgohaa.Lx Go.Proofs.Ytnolelgmcmgohaa.Tr
set_option linter.unusedVariables false
set_option linter.unusedSimpArgs false
set_option maxRecDepth 100000

section
variable {w0 : World} {ad : Addr} {cp : Nat} {T : List Tt} {s : Int → Int} {b g : Nat}
theorem cls_far {w1 w2 W : World} {o : Option Addr} {xs : List Value} {g : Nat} (h : Cls w2 o xs) (hb : ∀ p, o = some p → w1.heap.size ≤ p.block) (hg : g < w1.heap.size) (hW : w2.grownBy W (some g)) : Cls W o xs := fun j u hu => by
  obtain ⟨p, e, hc⟩ := h j u hu
  refine ⟨p, e, hW.cell hc (fun e2 => ?_)⟩
  have := hb p e
  have hbl : (p.add j).block = p.block := by unfold Addr.add; split <;> rfl
  rw [hbl] at e2
  simp at e2
  omega
theorem laid_n {r : Nat → Nat} {k : Nat} (hZ : ZsOk w0 (some ad) cp T s b g r k) (hP : PkF T) (hs0 : ∀ a, 0 ≤ s a) (hs1 : ∀ a, s a ≤ 32769) (hT : T.length ≤ 256) {M : List Int} {w : World} (H : Zk w0 (some ad) cp T s b g M w) {lo : Option Addr} (lc : Nat) {l : List Int} {n : Nat} (hn : n = l.length) (hlo : ∀ W, w.grownBy W (some g) → Cls W lo (l.map (Value.int .i64))) (hln : l.length ≤ 1000) (hin : ∀ a ∈ l, 0 ≤ a ∧ a < T.length ∧ r a.toNat < k) (E Z : Int) (hE0 : 0 ≤ E) (hE1 : E ≤ 32772) (hZv : layC s E l = Z) :
    Calls Try.prog 53 #[.pointer (some ⟨b, 0, none⟩), .slice lo n lc, .int .i64 E] w (fun e w' => ∃ M oo cc, e = .returned (.tuple #[.slice oo n cc, .int .i64 Z]) ∧ w.grownBy w' (some g) ∧ Zk w0 (some ad) cp T s b g M w' ∧ Cls w' oo ((atsC s E l).map (Value.int .i64))) := by
  subst hn hZv
  exact laid_at hZ hP hs0 hs1 hT H lc hlo hln hin E hE0 hE1
theorem Zk.lt {M : List Int} {w : World} (H : Zk w0 (some ad) cp T s b g M w) : g < w.heap.size := (Array.getElem?_eq_some_iff.1 H.blk).1
set_option maxHeartbeats 16000000 in
theorem zsz_rec {r : Nat → Nat} {k : Nat} (hZ : ZsOk w0 (some ad) cp T s b g r k) (hB : Rb T s r) (hP : PkF T) (hz : s 0 = 0) {M : List Int} {w : World} {a : Nat} (H : Zk w0 (some ad) cp T s b g M w) (ha : a < T.length) (hr : r a < k + 1) (h0 : mk M a = 0) {x : Tt} (hx : T[a]? = some x) (hf : x.fm = 9) :
    Calls Try.prog 51 #[.pointer (some ⟨b, 0, none⟩), .int .i64 a] w (ZkO w0 (some ad) cp T s b g w (.int .i64 (s (a : Int)))) := by
  obtain ⟨ad', ⟨⟨fm, md, nm, ln, el, ba, fl, pm, rs, ds⟩, fo, fc, po, pc⟩, e1, rfl, hcl, hla⟩ := H.tab.at hx
  cases e1
  dsimp only at hf
  subst hf
  have hp := flsI (ba := ba) (ds := ds) (ln := ln) (el := el) (rs := rs) (md := md) (nm := nm) (fl := fl) (pm := pm) rfl
  have hba := hB.inp a _ hx ba (by rw [hp]; simp)
  have hbr := hB.rk a _ hx ba (by rw [hp]; simp)
  obtain ⟨q, rfl⟩ := Int.eq_ofNat_of_zero_le hba.1
  rw [Int.toNat_natCast] at hbr
  have HJ := hide (show q < T.length by omega)
  have HR := hide (show r q < k by omega)
  have HIn := hide (show ∀ t : Int, t ∈ fl.map (·.t) → 0 ≤ t ∧ t < T.length ∧ r t.toNat < k from fun t ht => by
    have h1 := hB.inp a _ hx t (by rw [hp]; exact List.mem_append.2 (.inl ht))
    have h2 := hB.rk a _ hx t (by rw [hp]; exact List.mem_append.2 (.inl ht))
    exact ⟨h1.1, h1.2, by omega⟩)
  have H64 := hide (hB.fl a _ hx)
  have HLa := hide hla
  have hs := hB.hs.eq a _ hx
  have hs2 : szX s ⟨9, md, nm, ln, el, (q : Int), fl, pm, rs, ds⟩ = up4 (layE s (s (q : Int)) (fl.map (·.t))) := rfl
  rw [hs2] at hs
  have e00 := hB.hs.lo (q : Int)
  have e01 := hB.hs.hi (q : Int)
  obtain ⟨E0, hE0⟩ : ∃ V, s (q : Int) = V := ⟨_, rfl⟩
  have HE0 := hide hE0
  rw [hE0] at e00 e01 hs
  rw [← cap_lay hB.hs.lo] at hs
  have hbd := layC_bd hB.hs.lo (fl.map (·.t)) E0 e00 (by omega)
  obtain ⟨Z, hZ2⟩ : ∃ Z, layC s E0 (fl.map (·.t)) = Z := ⟨_, rfl⟩
  rw [hZ2] at hs hbd
  have HZv := hide hZ2
  obtain ⟨z0, z1⟩ := hbd
  obtain ⟨U, hU⟩ : ∃ U, up4 Z = U := ⟨_, rfl⟩
  have HU := hide hU
  have u0 := up4_le Z
  have u1 := up4_lt Z
  rw [hU] at hs u0 u1
  obtain ⟨V, hV⟩ : ∃ V, s (a : Int) = V := ⟨_, rfl⟩
  rw [hV] at hs ⊢
  have HV := hide hV.symm
  obtain ⟨B, hB2⟩ : ∃ B, ad.add (a * 10) = B := ⟨_, rfl⟩
  rw [hB2] at hcl
  unfold laC at hcl
  dsimp only at hcl
  have HEL := hide (fun W (hW : w0.grownBy W none) j' u (hu : ([.int .i64 9, .string (bs md), .string (bs nm), .int .i64 ln, .int .i64 el, .int .i64 (q : Int), .slice fo fl.length fc, .slice po pm.length pc, .int .i64 rs, .int .i64 ds] : List Value)[j']? = some u) => hW.cell (hcl j' u hu) (by simp))
  have HZ := hide hZ
  have HA := hide ha
  have HPk := hide hP
  have HSs := hide hB.hs
  have HHi := hide hB.hi
  (have HZk := hide H; have HS := hide H; have HC := hide (H.cx (fun _ => False)); have HLt := hide (show a < M.length by rw [H.len]; exact ha); obtain ⟨c0, c1⟩ := zk_two H; have cK := zk_cell H ha; have bl0 := block_lt_of_cell c0; have blK := block_lt_of_cell cK; have k1 : (a : Int) < T.length := by omega)
  rw [h0] at cK
  by_cases q0 : q = 0
  · subst q0
    have hE : E0 = 0 := by rw [← hE0]; exact hz
    subst hE
    obtain ⟨M1, hM1⟩ : ∃ M1, M = M1 := ⟨_, rfl⟩
    clear H hcl hla hx h0 hV ha hB hp hba hbr hs2 hZ2 hU hZ hr hE0 hP
    by_cases hm : U ≤ 32769
    · obtain rfl : V = U := by omega
      clear hs
      subst hM1
      go_enter Try.func51, Try.ntmps51
      (go_wp2_with (first | (refine at_load 32 rfl ?_; refine wl_run rfl 32 _ rfl rfl (run_load_s tyT B _ rfl (HEL.out _ (grown_then HZk.out.gr HC.out.grown (fun y e => by cases e; exact .inr HZk.out.ng)))) ?_) | ((refine at_alloc 32 rfl ?_; refine wl_alloc rfl 32 rfl _ zTy HC.out ?_; intro bx w' hn hc; (replace HC := hide hc; clear hc)); ((try clear c0 c1); obtain ⟨c0, c1⟩ := zk_two (HZk.out.next (M' := M) HC.out.grown (HC.out.loc ⟨g, stC M, 3⟩ (by repeat (first | exact List.Mem.head _ | apply List.Mem.tail))) HS.out.len HS.out.ok))) | ((refine at_store 32 rfl ?_; refine wl_store rfl 32 _ _ rfl rfl rfl tyT.sz rfl HC.out (by repeat (first | exact List.Mem.head _ | apply List.Mem.tail)) (by exact PutS.all _ _ rfl) (by repeat (first | exact Upd.here _ _ _ | apply Upd.there)) ?_; intro w' hc; (replace HC := hide hc; clear hc)); ((try clear c0 c1); obtain ⟨c0, c1⟩ := zk_two (HZk.out.next (M' := M) HC.out.grown (HC.out.loc ⟨g, stC M, 3⟩ (by repeat (first | exact List.Mem.head _ | apply List.Mem.tail))) HS.out.len HS.out.ok))) | (refine at_load 3 rfl ?_; refine wl_load_c rfl 3 _ rfl tcI rfl HC.out (by repeat (first | exact List.Mem.head _ | apply List.Mem.tail)) (by repeat (first | exact GetS.cons _ (GetS.nil _) | apply GetS.skip)) ?_) | (refine at_load 32 rfl ?_; refine wl_load_s rfl 32 _ rfl tyT rfl HC.out (by repeat (first | exact List.Mem.head _ | apply List.Mem.tail)) (GetS.all _) rfl ?_) | (go_at_call 54; refine (fields_of (la := ⟨⟨9, md, nm, ln, el, _, fl, pm, rs, ds⟩, fo, fc, po, pc⟩) (HLa.out.kept (grown_then HZk.out.gr HC.out.grown (fun y e => by cases e; exact .inr HZk.out.ng))) H64.out).mono ?_; rintro e w2 ⟨xo, xc, rfl, hg, hcl, hbl⟩; have HXl := hide (fun W (hW : World.grownBy _ W (some g)) => cls_far hcl hbl (HC.out.lt (p := ⟨g, stC M, 3⟩) (by repeat (first | exact List.Mem.head _ | apply List.Mem.tail))) hW); replace HC := hide (HC.out.g hg); clear hg hcl hbl) | (go_at_call 53; refine (laid_n HZ.out HPk.out HSs.out.lo HSs.out.hi HHi.out (HZk.out.next (M' := M) HC.out.grown (HC.out.loc ⟨g, stC M, 3⟩ (by repeat (first | exact List.Mem.head _ | apply List.Mem.tail))) HS.out.len HS.out.ok) xc (l := fl.map (·.t)) (List.length_map _).symm HXl.out (by rw [List.length_map]; have := H64.out; omega) HIn.out _ Z e00 (by omega) HZv.out).mono ?_; rintro e w3 ⟨M', yo, yc, rfl, hg, hs, _⟩; replace HC := hide (HC.out.callX hg (by repeat (first | exact List.Mem.head _ | apply List.Mem.tail)) hs.blk (by repeat (first | exact Upd.here _ _ _ | apply Upd.there))); replace HS := hide hs; clear c0 c1; obtain ⟨c0, c1⟩ := zk_two hs; replace HLt := hide (show a < M'.length by rw [hs.len]; exact HA.out); clear hg hs) | (go_at_call 57; refine (up_at _ _ z0 (by omega)).mono ?_; rw [HU.out]; rintro e w' ⟨rfl, hw⟩; replace hw := hw.symm; subst hw) | (refine at_store 3 rfl ?_; refine wl_store (us := [.int .i64 (V + 1)]) rfl 3 _ _ rfl rfl rfl tcI.sz rfl HC.out (by repeat (first | exact List.Mem.head _ | apply List.Mem.tail)) (st_put HLt.out _) (by repeat (first | exact Upd.here _ _ _ | apply Upd.there)) ?_; intro w' hc; (replace HC := hide hc; clear hc)) | (refine at_store 3 rfl ?_; refine wl_store (us := [.int .i64 (32769 + 1)]) rfl 3 _ _ rfl rfl rfl tcI.sz rfl HC.out (by repeat (first | exact List.Mem.head _ | apply List.Mem.tail)) (st_put HLt.out _) (by repeat (first | exact Upd.here _ _ _ | apply Upd.there)) ?_; intro w' hc; (replace HC := hide hc; clear hc))))
      go_ret
      (exact ⟨(M').set a (V + 1), rfl, HC.out.grown, HZk.out.next HC.out.grown (HC.out.loc ⟨g, stC ((M').set a (V + 1)), 3⟩ (by repeat (first | exact List.Mem.head _ | apply List.Mem.tail))) (by rw [List.length_set]; exact HS.out.len) (zk_set HLt.out HS.out.ok HV.out)⟩)
    · have hm' : 32769 < U := by omega
      obtain rfl : V = 32769 := by omega
      clear hs
      subst hM1
      go_enter Try.func51, Try.ntmps51
      (go_wp2_with (first | (refine at_load 32 rfl ?_; refine wl_run rfl 32 _ rfl rfl (run_load_s tyT B _ rfl (HEL.out _ (grown_then HZk.out.gr HC.out.grown (fun y e => by cases e; exact .inr HZk.out.ng)))) ?_) | ((refine at_alloc 32 rfl ?_; refine wl_alloc rfl 32 rfl _ zTy HC.out ?_; intro bx w' hn hc; (replace HC := hide hc; clear hc)); ((try clear c0 c1); obtain ⟨c0, c1⟩ := zk_two (HZk.out.next (M' := M) HC.out.grown (HC.out.loc ⟨g, stC M, 3⟩ (by repeat (first | exact List.Mem.head _ | apply List.Mem.tail))) HS.out.len HS.out.ok))) | ((refine at_store 32 rfl ?_; refine wl_store rfl 32 _ _ rfl rfl rfl tyT.sz rfl HC.out (by repeat (first | exact List.Mem.head _ | apply List.Mem.tail)) (by exact PutS.all _ _ rfl) (by repeat (first | exact Upd.here _ _ _ | apply Upd.there)) ?_; intro w' hc; (replace HC := hide hc; clear hc)); ((try clear c0 c1); obtain ⟨c0, c1⟩ := zk_two (HZk.out.next (M' := M) HC.out.grown (HC.out.loc ⟨g, stC M, 3⟩ (by repeat (first | exact List.Mem.head _ | apply List.Mem.tail))) HS.out.len HS.out.ok))) | (refine at_load 3 rfl ?_; refine wl_load_c rfl 3 _ rfl tcI rfl HC.out (by repeat (first | exact List.Mem.head _ | apply List.Mem.tail)) (by repeat (first | exact GetS.cons _ (GetS.nil _) | apply GetS.skip)) ?_) | (refine at_load 32 rfl ?_; refine wl_load_s rfl 32 _ rfl tyT rfl HC.out (by repeat (first | exact List.Mem.head _ | apply List.Mem.tail)) (GetS.all _) rfl ?_) | (go_at_call 54; refine (fields_of (la := ⟨⟨9, md, nm, ln, el, _, fl, pm, rs, ds⟩, fo, fc, po, pc⟩) (HLa.out.kept (grown_then HZk.out.gr HC.out.grown (fun y e => by cases e; exact .inr HZk.out.ng))) H64.out).mono ?_; rintro e w2 ⟨xo, xc, rfl, hg, hcl, hbl⟩; have HXl := hide (fun W (hW : World.grownBy _ W (some g)) => cls_far hcl hbl (HC.out.lt (p := ⟨g, stC M, 3⟩) (by repeat (first | exact List.Mem.head _ | apply List.Mem.tail))) hW); replace HC := hide (HC.out.g hg); clear hg hcl hbl) | (go_at_call 53; refine (laid_n HZ.out HPk.out HSs.out.lo HSs.out.hi HHi.out (HZk.out.next (M' := M) HC.out.grown (HC.out.loc ⟨g, stC M, 3⟩ (by repeat (first | exact List.Mem.head _ | apply List.Mem.tail))) HS.out.len HS.out.ok) xc (l := fl.map (·.t)) (List.length_map _).symm HXl.out (by rw [List.length_map]; have := H64.out; omega) HIn.out _ Z e00 (by omega) HZv.out).mono ?_; rintro e w3 ⟨M', yo, yc, rfl, hg, hs, _⟩; replace HC := hide (HC.out.callX hg (by repeat (first | exact List.Mem.head _ | apply List.Mem.tail)) hs.blk (by repeat (first | exact Upd.here _ _ _ | apply Upd.there))); replace HS := hide hs; clear c0 c1; obtain ⟨c0, c1⟩ := zk_two hs; replace HLt := hide (show a < M'.length by rw [hs.len]; exact HA.out); clear hg hs) | (go_at_call 57; refine (up_at _ _ z0 (by omega)).mono ?_; rw [HU.out]; rintro e w' ⟨rfl, hw⟩; replace hw := hw.symm; subst hw) | (refine at_store 3 rfl ?_; refine wl_store (us := [.int .i64 (V + 1)]) rfl 3 _ _ rfl rfl rfl tcI.sz rfl HC.out (by repeat (first | exact List.Mem.head _ | apply List.Mem.tail)) (st_put HLt.out _) (by repeat (first | exact Upd.here _ _ _ | apply Upd.there)) ?_; intro w' hc; (replace HC := hide hc; clear hc)) | (refine at_store 3 rfl ?_; refine wl_store (us := [.int .i64 (32769 + 1)]) rfl 3 _ _ rfl rfl rfl tcI.sz rfl HC.out (by repeat (first | exact List.Mem.head _ | apply List.Mem.tail)) (st_put HLt.out _) (by repeat (first | exact Upd.here _ _ _ | apply Upd.there)) ?_; intro w' hc; (replace HC := hide hc; clear hc))))
      go_ret
      (exact ⟨(M').set a (32769 + 1), rfl, HC.out.grown, HZk.out.next HC.out.grown (HC.out.loc ⟨g, stC ((M').set a (32769 + 1)), 3⟩ (by repeat (first | exact List.Mem.head _ | apply List.Mem.tail))) (by rw [List.length_set]; exact HS.out.len) (zk_set HLt.out HS.out.ok HV.out)⟩)
  · have nq : ((q : Int) != 0) = true := by simpa using q0
    clear H hcl hla hx h0 hV ha hB hp hba hbr hs2 hZ2 hU hZ hr hE0 hP q0
    by_cases hm : U ≤ 32769
    · obtain rfl : V = U := by omega
      clear hs
      go_enter Try.func51, Try.ntmps51
      (go_wp2_with (first | (refine at_load 32 rfl ?_; refine wl_run rfl 32 _ rfl rfl (run_load_s tyT B _ rfl (HEL.out _ (grown_then HZk.out.gr HC.out.grown (fun y e => by cases e; exact .inr HZk.out.ng)))) ?_) | ((refine at_alloc 32 rfl ?_; refine wl_alloc rfl 32 rfl _ zTy HC.out ?_; intro bx w' hn hc; (replace HC := hide hc; clear hc)); ((try clear c0 c1); obtain ⟨c0, c1⟩ := zk_two (HZk.out.next (M' := M) HC.out.grown (HC.out.loc ⟨g, stC M, 3⟩ (by repeat (first | exact List.Mem.head _ | apply List.Mem.tail))) HS.out.len HS.out.ok))) | ((refine at_store 32 rfl ?_; refine wl_store rfl 32 _ _ rfl rfl rfl tyT.sz rfl HC.out (by repeat (first | exact List.Mem.head _ | apply List.Mem.tail)) (by exact PutS.all _ _ rfl) (by repeat (first | exact Upd.here _ _ _ | apply Upd.there)) ?_; intro w' hc; (replace HC := hide hc; clear hc)); ((try clear c0 c1); obtain ⟨c0, c1⟩ := zk_two (HZk.out.next (M' := M) HC.out.grown (HC.out.loc ⟨g, stC M, 3⟩ (by repeat (first | exact List.Mem.head _ | apply List.Mem.tail))) HS.out.len HS.out.ok))) | (refine at_load 3 rfl ?_; refine wl_load_c rfl 3 _ rfl tcI rfl HC.out (by repeat (first | exact List.Mem.head _ | apply List.Mem.tail)) (by repeat (first | exact GetS.cons _ (GetS.nil _) | apply GetS.skip)) ?_) | (refine at_load 32 rfl ?_; refine wl_load_s rfl 32 _ rfl tyT rfl HC.out (by repeat (first | exact List.Mem.head _ | apply List.Mem.tail)) (GetS.all _) rfl ?_) | (go_at_call 51; refine (HZ.out M _ q (HZk.out.next (M' := M) HC.out.grown (HC.out.loc ⟨g, stC M, 3⟩ (by repeat (first | exact List.Mem.head _ | apply List.Mem.tail))) HZk.out.len HZk.out.ok) HJ.out HR.out).mono ?_; rw [HE0.out]; rintro e w2 ⟨M1, rfl, hg, hs⟩; replace HC := hide (HC.out.callX hg (by repeat (first | exact List.Mem.head _ | apply List.Mem.tail)) hs.blk (by repeat (first | exact Upd.here _ _ _ | apply Upd.there))); replace HS := hide hs; clear c0 c1; obtain ⟨c0, c1⟩ := zk_two hs; clear hg hs) | (go_at_call 54; refine (fields_of (la := ⟨⟨9, md, nm, ln, el, _, fl, pm, rs, ds⟩, fo, fc, po, pc⟩) (HLa.out.kept (grown_then HZk.out.gr HC.out.grown (fun y e => by cases e; exact .inr HZk.out.ng))) H64.out).mono ?_; rintro e w2 ⟨xo, xc, rfl, hg, hcl, hbl⟩; have HXl := hide (fun W (hW : World.grownBy _ W (some g)) => cls_far hcl hbl (HC.out.lt (p := ⟨g, stC M1, 3⟩) (by repeat (first | exact List.Mem.head _ | apply List.Mem.tail))) hW); replace HC := hide (HC.out.g hg); clear hg hcl hbl) | (go_at_call 53; refine (laid_n HZ.out HPk.out HSs.out.lo HSs.out.hi HHi.out (HZk.out.next (M' := M1) HC.out.grown (HC.out.loc ⟨g, stC M1, 3⟩ (by repeat (first | exact List.Mem.head _ | apply List.Mem.tail))) HS.out.len HS.out.ok) xc (l := fl.map (·.t)) (List.length_map _).symm HXl.out (by rw [List.length_map]; have := H64.out; omega) HIn.out _ Z e00 (by omega) HZv.out).mono ?_; rintro e w3 ⟨M', yo, yc, rfl, hg, hs, _⟩; replace HC := hide (HC.out.callX hg (by repeat (first | exact List.Mem.head _ | apply List.Mem.tail)) hs.blk (by repeat (first | exact Upd.here _ _ _ | apply Upd.there))); replace HS := hide hs; clear c0 c1; obtain ⟨c0, c1⟩ := zk_two hs; replace HLt := hide (show a < M'.length by rw [hs.len]; exact HA.out); clear hg hs) | (go_at_call 57; refine (up_at _ _ z0 (by omega)).mono ?_; rw [HU.out]; rintro e w' ⟨rfl, hw⟩; replace hw := hw.symm; subst hw) | (refine at_store 3 rfl ?_; refine wl_store (us := [.int .i64 (V + 1)]) rfl 3 _ _ rfl rfl rfl tcI.sz rfl HC.out (by repeat (first | exact List.Mem.head _ | apply List.Mem.tail)) (st_put HLt.out _) (by repeat (first | exact Upd.here _ _ _ | apply Upd.there)) ?_; intro w' hc; (replace HC := hide hc; clear hc)) | (refine at_store 3 rfl ?_; refine wl_store (us := [.int .i64 (32769 + 1)]) rfl 3 _ _ rfl rfl rfl tcI.sz rfl HC.out (by repeat (first | exact List.Mem.head _ | apply List.Mem.tail)) (st_put HLt.out _) (by repeat (first | exact Upd.here _ _ _ | apply Upd.there)) ?_; intro w' hc; (replace HC := hide hc; clear hc))))
      go_ret
      (exact ⟨(M').set a (V + 1), rfl, HC.out.grown, HZk.out.next HC.out.grown (HC.out.loc ⟨g, stC ((M').set a (V + 1)), 3⟩ (by repeat (first | exact List.Mem.head _ | apply List.Mem.tail))) (by rw [List.length_set]; exact HS.out.len) (zk_set HLt.out HS.out.ok HV.out)⟩)
    · have hm' : 32769 < U := by omega
      obtain rfl : V = 32769 := by omega
      clear hs
      go_enter Try.func51, Try.ntmps51
      (go_wp2_with (first | (refine at_load 32 rfl ?_; refine wl_run rfl 32 _ rfl rfl (run_load_s tyT B _ rfl (HEL.out _ (grown_then HZk.out.gr HC.out.grown (fun y e => by cases e; exact .inr HZk.out.ng)))) ?_) | ((refine at_alloc 32 rfl ?_; refine wl_alloc rfl 32 rfl _ zTy HC.out ?_; intro bx w' hn hc; (replace HC := hide hc; clear hc)); ((try clear c0 c1); obtain ⟨c0, c1⟩ := zk_two (HZk.out.next (M' := M) HC.out.grown (HC.out.loc ⟨g, stC M, 3⟩ (by repeat (first | exact List.Mem.head _ | apply List.Mem.tail))) HS.out.len HS.out.ok))) | ((refine at_store 32 rfl ?_; refine wl_store rfl 32 _ _ rfl rfl rfl tyT.sz rfl HC.out (by repeat (first | exact List.Mem.head _ | apply List.Mem.tail)) (by exact PutS.all _ _ rfl) (by repeat (first | exact Upd.here _ _ _ | apply Upd.there)) ?_; intro w' hc; (replace HC := hide hc; clear hc)); ((try clear c0 c1); obtain ⟨c0, c1⟩ := zk_two (HZk.out.next (M' := M) HC.out.grown (HC.out.loc ⟨g, stC M, 3⟩ (by repeat (first | exact List.Mem.head _ | apply List.Mem.tail))) HS.out.len HS.out.ok))) | (refine at_load 3 rfl ?_; refine wl_load_c rfl 3 _ rfl tcI rfl HC.out (by repeat (first | exact List.Mem.head _ | apply List.Mem.tail)) (by repeat (first | exact GetS.cons _ (GetS.nil _) | apply GetS.skip)) ?_) | (refine at_load 32 rfl ?_; refine wl_load_s rfl 32 _ rfl tyT rfl HC.out (by repeat (first | exact List.Mem.head _ | apply List.Mem.tail)) (GetS.all _) rfl ?_) | (go_at_call 51; refine (HZ.out M _ q (HZk.out.next (M' := M) HC.out.grown (HC.out.loc ⟨g, stC M, 3⟩ (by repeat (first | exact List.Mem.head _ | apply List.Mem.tail))) HZk.out.len HZk.out.ok) HJ.out HR.out).mono ?_; rw [HE0.out]; rintro e w2 ⟨M1, rfl, hg, hs⟩; replace HC := hide (HC.out.callX hg (by repeat (first | exact List.Mem.head _ | apply List.Mem.tail)) hs.blk (by repeat (first | exact Upd.here _ _ _ | apply Upd.there))); replace HS := hide hs; clear c0 c1; obtain ⟨c0, c1⟩ := zk_two hs; clear hg hs) | (go_at_call 54; refine (fields_of (la := ⟨⟨9, md, nm, ln, el, _, fl, pm, rs, ds⟩, fo, fc, po, pc⟩) (HLa.out.kept (grown_then HZk.out.gr HC.out.grown (fun y e => by cases e; exact .inr HZk.out.ng))) H64.out).mono ?_; rintro e w2 ⟨xo, xc, rfl, hg, hcl, hbl⟩; have HXl := hide (fun W (hW : World.grownBy _ W (some g)) => cls_far hcl hbl (HC.out.lt (p := ⟨g, stC M1, 3⟩) (by repeat (first | exact List.Mem.head _ | apply List.Mem.tail))) hW); replace HC := hide (HC.out.g hg); clear hg hcl hbl) | (go_at_call 53; refine (laid_n HZ.out HPk.out HSs.out.lo HSs.out.hi HHi.out (HZk.out.next (M' := M1) HC.out.grown (HC.out.loc ⟨g, stC M1, 3⟩ (by repeat (first | exact List.Mem.head _ | apply List.Mem.tail))) HS.out.len HS.out.ok) xc (l := fl.map (·.t)) (List.length_map _).symm HXl.out (by rw [List.length_map]; have := H64.out; omega) HIn.out _ Z e00 (by omega) HZv.out).mono ?_; rintro e w3 ⟨M', yo, yc, rfl, hg, hs, _⟩; replace HC := hide (HC.out.callX hg (by repeat (first | exact List.Mem.head _ | apply List.Mem.tail)) hs.blk (by repeat (first | exact Upd.here _ _ _ | apply Upd.there))); replace HS := hide hs; clear c0 c1; obtain ⟨c0, c1⟩ := zk_two hs; replace HLt := hide (show a < M'.length by rw [hs.len]; exact HA.out); clear hg hs) | (go_at_call 57; refine (up_at _ _ z0 (by omega)).mono ?_; rw [HU.out]; rintro e w' ⟨rfl, hw⟩; replace hw := hw.symm; subst hw) | (refine at_store 3 rfl ?_; refine wl_store (us := [.int .i64 (V + 1)]) rfl 3 _ _ rfl rfl rfl tcI.sz rfl HC.out (by repeat (first | exact List.Mem.head _ | apply List.Mem.tail)) (st_put HLt.out _) (by repeat (first | exact Upd.here _ _ _ | apply Upd.there)) ?_; intro w' hc; (replace HC := hide hc; clear hc)) | (refine at_store 3 rfl ?_; refine wl_store (us := [.int .i64 (32769 + 1)]) rfl 3 _ _ rfl rfl rfl tcI.sz rfl HC.out (by repeat (first | exact List.Mem.head _ | apply List.Mem.tail)) (st_put HLt.out _) (by repeat (first | exact Upd.here _ _ _ | apply Upd.there)) ?_; intro w' hc; (replace HC := hide hc; clear hc))))
      go_ret
      (exact ⟨(M').set a (32769 + 1), rfl, HC.out.grown, HZk.out.next HC.out.grown (HC.out.loc ⟨g, stC ((M').set a (32769 + 1)), 3⟩ (by repeat (first | exact List.Mem.head _ | apply List.Mem.tail))) (by rw [List.length_set]; exact HS.out.len) (zk_set HLt.out HS.out.ok HV.out)⟩)
theorem zsize_step {r : Nat → Nat} {k : Nat} (hZ : ZsOk w0 (some ad) cp T s b g r k) (hB : Rb T s r) (hP : PkF T) (hz : s 0 = 0) : ZsOk w0 (some ad) cp T s b g r (k + 1) := by
  intro M w a H ha hr
  rcases H.ok a ha with h0 | h0
  · obtain ⟨x, hx⟩ : ∃ x, T[a]? = some x := ⟨T[a], List.getElem?_eq_getElem ha⟩
    by_cases f9 : x.fm = 9
    · exact zsz_rec hZ hB hP hz H ha hr h0 hx f9
    by_cases f7 : x.fm = 7
    · exact zsz_arr hZ hB H ha hr h0 hx f7
    have hs := hB.hs.eq a _ hx
    refine zsz_plain H ha hB.hi h0 hx _ rfl ?_
    rw [hs]
    unfold szX
    by_cases f4 : x.fm = 1 ∨ x.fm = 4 ∨ x.fm = 10 ∨ x.fm = 11
    · rw [if_pos f4]; exact .inl ⟨f4, rfl⟩
    · rw [if_neg f4]
      by_cases f1 : x.fm = 2 ∨ x.fm = 3
      · rw [if_pos f1]; exact .inr (.inl ⟨f1, rfl⟩)
      · rw [if_neg f1, if_neg f7, if_neg f9]; exact .inr (.inr ⟨by omega, rfl⟩)
  · exact zsz_known H ha hB.hi h0 (hB.hs.lo _) (hB.hs.hi _)
theorem zsize_all {r : Nat → Nat} (hB : Rb T s r) (hP : PkF T) (hz : s 0 = 0) : ∀ k, ZsOk w0 (some ad) cp T s b g r k
  | 0 => fun M w a H ha hr => by omega
  | k + 1 => zsize_step (zsize_all hB hP hz k) hB hP hz
end
end Go.Proofs.Ytnolelgmcmgohaa.Ty
