/-
  Package types: the search for types in themselves.
-/
import Derived.Test.YtmoekalagollhaaTy7
import Derived.Test.YtmoekalagollhaaTp1
namespace Go.Proofs.Ytmoekalagollhaa.Ty
open Go.RowKit hiding Hid
open Go.Proofs.Ytmoekalagollhaa.Tx Go.Proofs.Ytmoekalagollhaa.Lx Go.Proofs.Ytmoekalagollhaa.Tr
set_option linter.unusedVariables false
set_option linter.unusedSimpArgs false
set_option maxRecDepth 100000

def srC (o : Option Addr) (n cp : Nat) (M : List Int) : List Value := .slice o n cp :: M.map (Value.int .i64)
structure Srch (w0 : World) (o : Option Addr) (cp : Nat) (T : List Tt) (b : Nat) (M : List Int) (w : World) : Prop where
  tab : Tab w0 o T
  gr : w0.grownBy w none
  new : w0.heap.size ≤ b
  blk : w.heap[b]? = some (.cells (srC o T.length cp M).toArray 90 (0, 0))
  len : M.length = 256
theorem getS_at : ∀ (cs : List Value) (n : Nat) (u : Value), cs[n]? = some u → GetS n [u] cs
  | [], n, u, h => by simp at h
  | c :: cs, 0, u, h => by simp at h; subst h; exact .cons _ (.nil _)
  | c :: cs, n + 1, u, h => .skip _ (getS_at cs n u (by simpa using h))
theorem putS_at : ∀ (cs : List Value) (n : Nat) (u : Value), n < cs.length → PutS n [u] cs (cs.set n u)
  | [], n, u, h => by simp at h
  | c :: cs, 0, u, h => .cons _ _ (.nil _)
  | c :: cs, n + 1, u, h => .skip _ (putS_at cs n u (by simpa using h))
section
variable {w0 : World} {o : Option Addr} {cp : Nat} {T : List Tt} {b : Nat}
theorem Srch.cx {M : List Int} {w : World} (H : Srch w0 o cp T b M w) (A : Nat → Prop) : Cx w A (some b) [⟨b, srC o T.length cp M, 90⟩] [] [] w :=
  ⟨grown_refl w _, fun p hp => by rw [List.mem_singleton] at hp; subst hp; exact H.blk, fun p hp => by rw [List.mem_singleton] at hp; subst hp; exact .inr rfl, List.pairwise_singleton _ _, by simp, by simp, List.Pairwise.nil, by simp, fun x e => by cases e; exact (Array.getElem?_eq_some_iff.1 H.blk).1⟩
theorem Srch.next {M M' : List Int} {w w' : World} (H : Srch w0 o cp T b M w) (hg : w.grownBy w' (some b)) (hb : w'.heap[b]? = some (.cells (srC o T.length cp M').toArray 90 (0, 0))) (hl : M'.length = 256) : Srch w0 o cp T b M' w' :=
  ⟨H.tab, grown_then H.gr hg (fun y e => by cases e; exact .inr H.new), H.new, hb, hl⟩
/- A visit, and what it tells. -/
def Vis (w0 : World) (o : Option Addr) (cp : Nat) (T : List Tt) (b : Nat) (M : List Int) (w : World) (Y : List Int → Prop) (N : Prop) (e : Ending) (w' : World) : Prop :=
  ∃ c M', e = .returned (.bool c) ∧ w.grownBy w' (some b) ∧ Srch w0 o cp T b M' w' ∧ (c = true → Oy T M M' ∧ Y M') ∧ (c = false → N)
def EndsOk (w0 : World) (o : Option Addr) (cp : Nat) (T : List Tt) (b : Nat) (U : List Nat) : Prop := ∀ (M : List Int) (w : World) (a : Nat), Srch w0 o cp T b M w → a < T.length → Vm M → Dn T M → Cov U M →
  Calls Try.prog 70 #[.pointer (some ⟨b, 0, none⟩), .int .i64 a] w (Vis w0 o cp T b M w (fun M' => mk M' a = 2) (On T M a))
set_option maxHeartbeats 4000000 in
theorem pend_one {U : List Nat} (hE : EndsOk w0 o cp T b U) {M : List Int} {w : World} {a : Nat} {la : La} (H : Srch w0 o cp T b M w) (hx : T[a]? = some la.x) (hin : InP T) (hv : Vm M) (hd : Dn T M) (hc : Cov U M) (hf : la.x.fm = 7 ∨ la.x.fm = 8) :
    Calls Try.prog 92 #[.pointer (some ⟨b, 0, none⟩), .agg (laC la).toArray] w (Vis w0 o cp T b M w (fun M' => ∀ j ∈ partsI la.x, mk M' j.toNat = 2) (Op1 T M a)) := by
  obtain ⟨⟨fm, md, nm, ln, el, ba, fl, pm, rs, ds⟩, fo, fc, po, pc⟩ := la
  dsimp only at hf hx ⊢
  have hp : partsI ⟨fm, md, nm, ln, el, ba, fl, pm, rs, ds⟩ = [el] := by unfold partsI; rw [if_pos hf]
  obtain ⟨h0, h1⟩ := hin a _ hx el (by rw [hp]; simp)
  obtain ⟨j, rfl⟩ := Int.eq_ofNat_of_zero_le h0
  have HE := hide hE
  have HS := hide H
  have HC := hide (H.cx (fun _ => False))
  have HK := hide (And.intro hv (And.intro hd hc))
  have HX := hide hx
  have HP := hide hp
  have HJ := hide (show j < T.length by omega)
  unfold laC
  dsimp only
  clear hE H hx hin hv hd hc hp h0 h1
  have key : ∀ (W : World) (b' : Nat) (cs : List Value) (t : TypeId), Cx w (fun _ => False) (some b) [⟨b', cs, t⟩, ⟨b, srC o T.length cp M, 90⟩] [] [] W → Srch w0 o cp T b M W := fun W b' cs t hc =>
    HS.out.next hc.grown (hc.loc _ (.tail _ (.head _))) HS.out.len
  have HKy := hide key
  clear key
  rcases hf with rfl | rfl
  all_goals (go_enter Try.func92, Try.ntmps92)
  all_goals (go_wp2_with (first | ((refine at_box 32 rfl ?_; refine wl_box rfl 32 _ rfl _ rfl HC.out ?_; intro b w' hn hc; (replace HC := hide hc; clear hc)); (obtain ⟨c0, c1, c2, c3, c4, c5, c6, c7, c8, c9⟩ := ten_f HC.out)) | (go_at_call 70; refine (HE.out M _ j (HKy.out _ _ _ _ HC.out) HJ.out HK.out.1 HK.out.2.1 HK.out.2.2).mono ?_; rintro e w2 ⟨c, M', rfl, hg, hs, hy, hn⟩)))
  all_goals go_ret
  all_goals (refine ⟨c, M', rfl, grown_then HC.out.grown hg (fun y e => .inl e), hs, fun e => ⟨(hy e).1, fun i hi => ?_⟩, fun e => op_part (j := (j : Int)) HX.out (by rw [HP.out]; exact .head _) (Lm.refl _) (hn e)⟩)
  all_goals (rw [HP.out, List.mem_singleton] at hi; subst hi; exact (hy e).2)
set_option maxHeartbeats 4000000 in
theorem pend_none {M : List Int} {w : World} {a : Nat} {la : La} (H : Srch w0 o cp T b M w) (hv : Vm M) (hd : Dn T M) (hf : la.x.fm ≠ 7 ∧ la.x.fm ≠ 8 ∧ la.x.fm ≠ 9) :
    Calls Try.prog 92 #[.pointer (some ⟨b, 0, none⟩), .agg (laC la).toArray] w (Vis w0 o cp T b M w (fun M' => ∀ j ∈ partsI la.x, mk M' j.toNat = 2) (Op1 T M a)) := by
  obtain ⟨⟨fm, md, nm, ln, el, ba, fl, pm, rs, ds⟩, fo, fc, po, pc⟩ := la
  dsimp only at hf ⊢
  have HP := hide (show partsI ⟨fm, md, nm, ln, el, ba, fl, pm, rs, ds⟩ = [] by unfold partsI; rw [if_neg (by simp [hf.1, hf.2.1]), if_neg hf.2.2])
  obtain ⟨f7, f8, f9⟩ := hf
  have HS := hide H
  have HC := hide (H.cx (fun _ => False))
  have HK := hide (And.intro hv hd)
  unfold laC
  dsimp only
  clear H hv hd
  go_enter Try.func92, Try.ntmps92
  go_wp2_with ((refine at_box 32 rfl ?_; refine wl_box rfl 32 _ rfl _ rfl HC.out ?_; intro b w' hn hc; (replace HC := hide hc; clear hc)); (obtain ⟨c0, c1, c2, c3, c4, c5, c6, c7, c8, c9⟩ := ten_f HC.out))
  go_ret
  refine ⟨true, M, rfl, HC.out.grown, HS.out.next HC.out.grown (HC.out.loc _ (.tail _ (.head _))) HS.out.len, fun e => ⟨⟨Lm.refl _, HK.out.2, HK.out.1⟩, fun i hi => ?_⟩, fun e => by cases e⟩
  rw [HP.out] at hi
  cases hi
theorem flsI {fm ba ds ln el rs : Int} {md nm : Txt} {fl : List Fl} {pm : List Pm} (h : fm = 9) : partsI ⟨fm, md, nm, ln, el, ba, fl, pm, rs, ds⟩ = fl.map (·.t) ++ [ba] := by unfold partsI; subst h; rfl
set_option maxHeartbeats 8000000 in
theorem pend_rec {U : List Nat} (hE : EndsOk w0 o cp T b U) {M : List Int} {w : World} {a : Nat} {la : La} (H : Srch w0 o cp T b M w) (hla : Lp w0 la) (hx : T[a]? = some la.x) (hin : InP T) (hv : Vm M) (hd : Dn T M) (hc : Cov U M) (hf : la.x.fm = 9) :
    Calls Try.prog 92 #[.pointer (some ⟨b, 0, none⟩), .agg (laC la).toArray] w (Vis w0 o cp T b M w (fun M' => ∀ j ∈ partsI la.x, mk M' j.toNat = 2) (Op1 T M a)) := by
  obtain ⟨⟨fm, md, nm, ln, el, ba, fl, pm, rs, ds⟩, fo, fc, po, pc⟩ := la
  dsimp only at hf hx ⊢
  have hp := flsI (ba := ba) (ds := ds) (ln := ln) (el := el) (rs := rs) (md := md) (nm := nm) (fl := fl) (pm := pm) hf
  subst hf
  have HB := hide (hin a _ hx ba (by rw [hp]; simp))
  have HFs := hide (fun f hf => hin a _ hx f (by rw [hp]; simp only [List.mem_append, List.mem_map]; exact .inl hf))
  have hla1 := hla.fl
  have hla2 := hla.sm.fl
  dsimp only at hla1 hla2
  have k0 : (fl.length : Int) ≤ 1000000 := by omega
  have HO := hide hla1
  have HE := hide hE
  have HS := hide H
  have HC := hide (H.cx (fun _ => False))
  have HK := hide (And.intro hv (And.intro hd hc))
  have HX := hide hx
  have HP := hide hp
  unfold laC
  dsimp only
  clear hE H hx hin hv hd hc hp hla hla1 hla2
  go_enter Try.func92, Try.ntmps92
  go_wp2_with (first | (refine at_box 32 rfl ?_; refine wl_box rfl 32 _ rfl _ rfl HC.out ?_; intro bb w' hn hc; (replace HC := hide hc; clear hc)) | (refine at_load 3 rfl ?_; refine wl_load_c rfl 3 _ rfl tcI rfl HC.out (by repeat (first | exact List.Mem.head _ | apply List.Mem.tail)) (by repeat (first | exact GetS.cons _ (GetS.nil _) | apply GetS.skip)) ?_) | (refine at_load 29 rfl ?_; refine wl_load_c rfl 29 _ rfl tcLF rfl HC.out (by repeat (first | exact List.Mem.head _ | apply List.Mem.tail)) (by repeat (first | exact GetS.cons _ (GetS.nil _) | apply GetS.skip)) ?_))
  go_loopw [21] (fun iv W => ∃ (i : Nat) (M1 : List Int), i ≤ fl.length ∧ iv = .int .i64 i ∧ Hid (Oy T M M1) ∧ Hid (∀ f ∈ fl.take i, mk M1 f.t.toNat = 2) ∧ Hid (M1.length = 256) ∧ Hid (Cx w (fun _ => False) (some b) [⟨bb, [.int .i64 9, .string (bs md), .string (bs nm), .int .i64 ln, .int .i64 el, .int .i64 ba, .slice fo fl.length fc, .slice po pm.length pc, .int .i64 rs, .int .i64 ds], 32⟩, ⟨b, srC o T.length cp M1, 90⟩] [] [] W)) (fun iv _ => fl.length - (intOf iv).toNat)
  case atStart => exact ⟨0, M, by omega, rfl, hide ⟨Lm.refl _, HK.out.2.1, HK.out.1⟩, hide (by simp), hide HS.out.len, HC⟩
  case round =>
    clear HC
    obtain ⟨i, M1, hi, rfl, HY, HA, HL, HC⟩ := hrel
    have HCv := hide (HK.out.2.2.mono HY.out.le)
    by_cases hlt : i < fl.length
    · have j1 : (i : Int) < fl.length := by omega
      obtain ⟨⟨n, x, t⟩, hxi⟩ : ∃ p, fl[i]? = some p := ⟨fl[i], List.getElem?_eq_getElem hlt⟩
      have hm : t ∈ fl.map (·.t) := List.mem_map.2 ⟨_, List.mem_of_getElem? hxi, rfl⟩
      obtain ⟨q0, q1⟩ := HFs.out t (List.mem_map.1 hm)
      obtain ⟨j, rfl⟩ := Int.eq_ofNat_of_zero_le q0
      have HJ := hide (show j < T.length by omega)
      have HMm := hide hm
      obtain ⟨ad, rfl, hel⟩ := HO.out.el flC_len (by decide) hxi
      have HEL := hide (fun W (hW : w0.grownBy W none) j' u (hu : (flC ⟨n, x, (j : Int)⟩)[j']? = some u) => hW.cell (hel j' u hu) (by simp))
      unfold flC at HEL
      dsimp only at HEL
      obtain ⟨B, hB⟩ : ∃ B, ad.add (i * 3) = B := ⟨_, rfl⟩
      rw [hB] at HEL
      have HXi := hide hxi
      clear hel hxi hm q0 q1
      go_wp2_with (first | (refine at_load 100 rfl ?_; refine wl_run rfl 100 _ rfl rfl (run_load_s tyF _ [.string (bs n), .bool x, .int .i64 (j : Int)] rfl (HEL.out _ (grown_then HS.out.gr HC.out.grown (fun y e => by cases e; exact .inr HS.out.new)))) ?_) | (refine at_alloc 100 rfl ?_; refine wl_alloc rfl 100 rfl _ zF HC.out ?_; intro bf w' hn hc; (replace HC := hide hc; clear hc)) | (refine at_store 100 rfl ?_; refine wl_store rfl 100 _ _ rfl rfl rfl tyF.sz rfl HC.out (by repeat (first | exact List.Mem.head _ | apply List.Mem.tail)) (by exact PutS.all _ _ rfl) (by repeat (first | exact Upd.here _ _ _ | apply Upd.there)) ?_; intro w' hc; (replace HC := hide hc; clear hc)) | (refine at_load 3 rfl ?_; refine wl_load_c rfl 3 _ rfl tcI rfl HC.out (by repeat (first | exact List.Mem.head _ | apply List.Mem.tail)) (by repeat (first | exact GetS.cons _ (GetS.nil _) | apply GetS.skip)) ?_) | (go_at_call 70; refine (HE.out M1 _ j (HS.out.next HC.out.grown (HC.out.loc ⟨b, srC o T.length cp M1, 90⟩ (by repeat (first | exact List.Mem.head _ | apply List.Mem.tail))) HL.out) HJ.out HY.out.vm HY.out.dn HCv.out).mono ?_; rintro e w2 ⟨c, M', rfl, hg, hs, hy, hn⟩; have HG := hide hg; have HZ := hide hs; cases c <;> (first | (have HQ := hide (hy rfl); clear hy hn hg hs) | (have HN := hide (hn rfl); clear hy hn hg hs))))
      · go_ret
        exact ⟨false, M', rfl, grown_then HC.out.grown HG.out (fun y e => .inl e), HZ.out, (fun e => by cases e), fun _ => op_part (j := (j : Int)) HX.out (by rw [HP.out]; exact List.mem_append.2 (.inl HMm.out)) HY.out.le HN.out⟩
      · refine ⟨⟨i + 1, M', by omega, by go_num, hide ⟨HY.out.le.trans HQ.out.1.le, HQ.out.1.dn, HQ.out.1.vm⟩, hide (fun f hf => ?_), hide HZ.out.len, hide ?_⟩, by simp [intOf]; omega⟩
        · rw [List.take_add_one, HXi.out] at hf
          rcases List.mem_append.1 hf with hf | hf
          · exact HQ.out.1.le.two _ (HA.out f hf)
          · simp at hf
            subst hf
            exact HQ.out.2
        · exact (HC.out.callX HG.out (by repeat (first | exact List.Mem.head _ | apply List.Mem.tail)) HZ.out.blk (by repeat (first | exact Upd.here _ _ _ | apply Upd.there))).drop
    · obtain rfl : i = fl.length := by omega
      obtain ⟨q0, q1⟩ := HB.out
      obtain ⟨j, rfl⟩ := Int.eq_ofNat_of_zero_le q0
      have HJ := hide (show j < T.length by omega)
      clear q0 q1
      go_wp2_with (first | (refine at_load 3 rfl ?_; refine wl_load_c rfl 3 _ rfl tcI rfl HC.out (by repeat (first | exact List.Mem.head _ | apply List.Mem.tail)) (by repeat (first | exact GetS.cons _ (GetS.nil _) | apply GetS.skip)) ?_) | (go_at_call 70; refine (HE.out M1 _ j (HS.out.next HC.out.grown (HC.out.loc ⟨b, srC o T.length cp M1, 90⟩ (by repeat (first | exact List.Mem.head _ | apply List.Mem.tail))) HL.out) HJ.out HY.out.vm HY.out.dn HCv.out).mono ?_; rintro e w2 ⟨c, M', rfl, hg, hs, hy, hn⟩; have HG := hide hg; have HZ := hide hs; cases c <;> (first | (have HQ := hide (hy rfl); clear hy hn hg hs) | (have HN := hide (hn rfl); clear hy hn hg hs))))
      · go_ret
        exact ⟨false, M', rfl, grown_then HC.out.grown HG.out (fun y e => .inl e), HZ.out, (fun e => by cases e), fun _ => op_part (j := (j : Int)) HX.out (by rw [HP.out]; simp) HY.out.le HN.out⟩
      · go_ret
        refine ⟨true, M', rfl, grown_then HC.out.grown HG.out (fun y e => .inl e), HZ.out, fun _ => ⟨⟨HY.out.le.trans HQ.out.1.le, HQ.out.1.dn, HQ.out.1.vm⟩, fun k hk => ?_⟩, (fun e => by cases e)⟩
        rw [HP.out] at hk
        rcases List.mem_append.1 hk with hk | hk
        · obtain ⟨f, hf, rfl⟩ := List.mem_map.1 hk
          have := HA.out f (by rw [List.take_of_length_le (Nat.le_refl _)]; exact hf)
          exact HQ.out.1.le.two _ this
        · rw [List.mem_singleton] at hk
          subst hk
          exact HQ.out.2
end
end Go.Proofs.Ytmoekalagollhaa.Ty
