/-
  The document's own tables (package spinetref13): whether a type stands in itself.
  The document's own tables (package spinetref13): whether a type stands in itself, by way of what stands in it.
  The document's own tables (package spinetref13): whether a type stands in itself, by way of what stands in it.
-/
import Derived.Test.YthmldhppmpbadaaY15
import Derived.Test.YthmldhppmpbadaaTq1
namespace Go.Proofs.Ythmldhppmpbadaa.Ty
open Go.RowKit hiding Hid
open Go.Maps Go.Proofs.Ythmldhppmpbadaa.Tx Go.Proofs.Ythmldhppmpbadaa.Lx Go.Proofs.Ythmldhppmpbadaa.Tr Go.Proofs.Ythmldhppmpbadaa.Mp
set_option linter.unusedVariables false
set_option linter.unusedSimpArgs false
set_option maxRecDepth 100000

def stC (M : List Int) : List Value := M.map (Value.int .i64)
structure Srr (w0 : World) (o : Option Addr) (cp : Nat) (T : List Tt) (sb : Nat) (M : List Int) (w : World) : Prop where
  tab : Tab w0 o T
  gr : w0.grownBy w none
  new : w0.heap.size ≤ sb
  blk : w.heap[sb]? = some (.cells (stC M).toArray 3 (0, 0))
  len : M.length = T.length
section
variable {w0 : World} {o : Option Addr} {cp : Nat} {T : List Tt} {sb : Nat}
theorem Srr.cx {M : List Int} {w : World} (H : Srr w0 o cp T sb M w) (A : Nat → Prop) : Cx w A (some sb) [⟨sb, stC M, 3⟩] [] [] w :=
  ⟨grown_refl w _, fun p hp => by rw [List.mem_singleton] at hp; subst hp; exact H.blk, fun p hp => by rw [List.mem_singleton] at hp; subst hp; exact .inr rfl, List.pairwise_singleton _ _, by simp, by simp, List.Pairwise.nil, by simp, fun x e => by cases e; exact (Array.getElem?_eq_some_iff.1 H.blk).1⟩
theorem Srr.next {M M' : List Int} {w w' : World} (H : Srr w0 o cp T sb M w) (hg : w.grownBy w' (some sb)) (hb : w'.heap[sb]? = some (.cells (stC M').toArray 3 (0, 0))) (hl : M'.length = T.length) : Srr w0 o cp T sb M' w' :=
  ⟨H.tab, grown_then H.gr hg (fun y e => by cases e; exact .inr H.new), H.new, hb, hl⟩
def VisR (w0 : World) (o : Option Addr) (cp : Nat) (T : List Tt) (sb : Nat) (M : List Int) (w : World) (a : Nat) (e : Ending) (w' : World) : Prop :=
  ∃ c M', e = .returned (.bool c) ∧ w.grownBy w' (some sb) ∧ Srr w0 o cp T sb M' w' ∧ (c = false → OyR T M M' ∧ mk M' a = 2) ∧ (c = true → OnR T M a)
def RndOk (w0 : World) (o : Option Addr) (cp : Nat) (T : List Tt) (sb : Nat) (U : List Nat) : Prop := ∀ (M : List Int) (w : World) (a : Nat), Srr w0 o cp T sb M w → a < T.length → Vm M → DnR T M → Cov U M →
  Calls Try.prog 52 #[.slice o T.length cp, .int .i64 a, .slice (some ⟨sb, 0, none⟩) T.length T.length] w (VisR w0 o cp T sb M w a)
theorem st_get {M : List Int} {a : Nat} (h : a < M.length) : (stC M)[a]? = some (.int .i64 (mk M a)) := by
  unfold stC mk
  rw [List.getElem?_map, List.getElem?_eq_getElem h]
  rfl
theorem st_put {M : List Int} {a : Nat} (h : a < M.length) (v : Int) : PutS a [.int .i64 v] (stC M) (stC (M.set a v)) := by
  have := putS_at (stC M) a (.int .i64 v) (by simpa [stC] using h)
  rwa [show (stC M).set a (.int .i64 v) = stC (M.set a v) by unfold stC; rw [List.map_set]] at this
theorem st_cell {M : List Int} {w : World} (H : Srr w0 o cp T sb M w) {a : Nat} (h : a < M.length) : w.cell? ⟨sb, a, none⟩ = some (.int .i64 (mk M a)) := by
  rw [cell_of_row _ _ _ _ _ _ H.blk]
  simpa using st_get h
set_option maxHeartbeats 8000000 in
theorem round_seen {U : List Nat} {M : List Int} {w : World} {a : Nat} (H : Srr w0 o cp T sb M w) (ha : a < T.length) (hv : Vm M) (hd : DnR T M) (h0 : mk M a ≠ 0) (hT : T.length ≤ 256) : Calls Try.prog 52 #[.slice o T.length cp, .int .i64 a, .slice (some ⟨sb, 0, none⟩) T.length T.length] w (VisR w0 o cp T sb M w a) := by
  have k1 : (a : Int) < T.length := by omega
  have cM := st_cell H (a := a) (by rw [H.len]; exact ha)
  have bl := block_lt_of_cell cM
  have HS := hide H
  have HK := hide (And.intro hv hd)
  by_cases h1 : mk M a = 1
  · have HN := hide (onR_begun (T := T) h1)
    rw [h1] at cM
    clear H hv hd h0
    go_enter Try.func52, Try.ntmps52
    go_wp2
    go_ret
    exact ⟨true, M, rfl, grown_refl w _, HS.out, (fun e => by cases e), fun _ => HN.out⟩
  · have h2 : mk M a = 2 := by have := hv a; omega
    have H2 := hide h2
    rw [h2] at cM
    clear H hv hd h0
    go_enter Try.func52, Try.ntmps52
    go_wp2
    go_ret
    exact ⟨false, M, rfl, grown_refl w _, HS.out, fun _ => ⟨⟨Lm.refl _, HK.out.2, HK.out.1⟩, H2.out⟩, (fun e => by cases e)⟩
end
end Go.Proofs.Ythmldhppmpbadaa.Ty
namespace Go.Proofs.Ythmldhppmpbadaa.Ty
open Go.RowKit hiding Hid
open Go.Maps Go.Proofs.Ythmldhppmpbadaa.Tx Go.Proofs.Ythmldhppmpbadaa.Lx Go.Proofs.Ythmldhppmpbadaa.Tr Go.Proofs.Ythmldhppmpbadaa.Mp
set_option linter.unusedVariables false
set_option linter.unusedSimpArgs false
set_option maxRecDepth 100000

section
variable {w0 : World} {o : Option Addr} {cp : Nat} {T : List Tt} {sb : Nat}
/- What the walk stands on at a type that nobody saw yet. -/
structure Nw (w0 : World) (ad : Addr) (cp : Nat) (T : List Tt) (sb : Nat) (U : List Nat) (M : List Int) (w : World) (a : Nat) (x : Tt) : Prop where
  ok : RndOk w0 (some ad) cp T sb (U.erase a)
  st : Srr w0 (some ad) cp T sb M w
  at' : T[a]? = some x
  z : mk M a = 0
  vm : Vm (M.set a 1)
  dn : DnR T (M.set a 1)
  cov : Cov (U.erase a) (M.set a 1)
  inr : InR T
  le : T.length ≤ 256
theorem Nw.lt {ad : Addr} {U : List Nat} {M : List Int} {w : World} {a : Nat} {x : Tt} (h : Nw w0 ad cp T sb U M w a x) : a < M.length := by rw [h.st.len]; exact (List.getElem?_eq_some_iff.1 h.at').1
set_option maxHeartbeats 8000000 in
theorem round_none {ad : Addr} {U : List Nat} {M : List Int} {w : World} {a : Nat} {x : Tt} (H : Nw w0 ad cp T sb U M w a x) (hf : x.fm ≠ 7 ∧ x.fm ≠ 8 ∧ x.fm ≠ 9) : Calls Try.prog 52 #[.slice (some ad) T.length cp, .int .i64 a, .slice (some ⟨sb, 0, none⟩) T.length T.length] w (VisR w0 (some ad) cp T sb M w a) := by
  have HN := hide H
  have ha := (List.getElem?_eq_some_iff.1 H.at').1
  have k1 : (a : Int) < T.length := by omega
  have cM := st_cell H.st (a := a) H.lt
  have bl := block_lt_of_cell cM
  rw [H.z] at cM
  have HC := hide (H.st.cx (fun _ => False))
  have HA := hide H.lt
  obtain ⟨ad', la, e1, rfl, hcl, hp⟩ := H.st.tab.at H.at'
  cases e1
  obtain ⟨B, hB⟩ : ∃ B, ad.add (a * 10) = B := ⟨_, rfl⟩
  rw [hB] at hcl
  have HB0 := hide (ten_of hcl).1
  have HP := hide (show partsR la.x = [] by unfold partsR; rw [if_neg (by simp [hf.1, hf.2.1]), if_neg hf.2.2])
  obtain ⟨f7, f8, f9⟩ := hf
  clear H hcl hp
  go_enter Try.func52, Try.ntmps52
  go_upto_region 6 with (first | (refine at_store 3 rfl ?_; refine wl_store (us := [.int .i64 1]) rfl 3 _ _ rfl rfl rfl tcI.sz rfl HC.out (by repeat (first | exact List.Mem.head _ | apply List.Mem.tail)) (st_put HA.out 1) (by repeat (first | exact Upd.here _ _ _ | apply Upd.there)) ?_; intro w' hc; (replace HC := hide hc; clear hc)))
  have d0 := (grown_then HN.out.st.gr HC.out.grown (fun y e => by cases e; exact .inr HN.out.st.new)).cell HB0.out (by simp)
  have bl2 := block_lt_of_cell d0
  clear cM bl
  have HA2 := hide (show a < (M.set a 1).length by rw [List.length_set]; exact HA.out)
  go_wp2_with fail
  go_loopw [9] (fun kv W => kv = .int .i64 (0 : Nat) ∧ Hid (Cx w (fun _ => False) (some sb) [⟨sb, stC (M.set a 1), 3⟩] [] [] W)) (fun _ _ => 0)
  case atStart => exact ⟨rfl, HC⟩
  case round =>
    clear HC d0 bl2
    obtain ⟨rfl, HC⟩ := hrel
    go_wp2_with (first | (refine at_store 3 rfl ?_; refine wl_store (us := [.int .i64 2]) rfl 3 _ _ rfl rfl rfl tcI.sz rfl HC.out (by repeat (first | exact List.Mem.head _ | apply List.Mem.tail)) (st_put HA2.out 2) (by repeat (first | exact Upd.here _ _ _ | apply Upd.there)) ?_; intro w' hc; (replace HC := hide hc; clear hc)))
    go_ret
    refine ⟨false, (M.set a 1).set a 2, rfl, HC.out.grown, HN.out.st.next HC.out.grown (HC.out.loc ⟨sb, stC ((M.set a 1).set a 2), 3⟩ (by repeat (first | exact List.Mem.head _ | apply List.Mem.tail))) (by rw [List.length_set, List.length_set]; exact HN.out.st.len), fun _ => ⟨doneR_at HN.out.at' HA.out HA2.out HN.out.z ⟨Lm.refl _, HN.out.dn, HN.out.vm⟩ (by rw [HP.out]; simp), ?_⟩, (fun e => by cases e)⟩
    rw [mk_set HA2.out, if_pos rfl]
end
end Go.Proofs.Ythmldhppmpbadaa.Ty
namespace Go.Proofs.Ythmldhppmpbadaa.Ty
open Go.RowKit hiding Hid
open Go.Maps Go.Proofs.Ythmldhppmpbadaa.Tx Go.Proofs.Ythmldhppmpbadaa.Lx Go.Proofs.Ythmldhppmpbadaa.Tr Go.Proofs.Ythmldhppmpbadaa.Mp
set_option linter.unusedVariables false
set_option linter.unusedSimpArgs false
set_option maxRecDepth 100000

section
variable {w0 : World} {o : Option Addr} {cp : Nat} {T : List Tt} {sb : Nat}
set_option maxHeartbeats 8000000 in
theorem round_7 {ad : Addr} {U : List Nat} {M : List Int} {w : World} {a : Nat} {x : Tt} (H : Nw w0 ad cp T sb U M w a x) (hf : x.fm = 7) : Calls Try.prog 52 #[.slice (some ad) T.length cp, .int .i64 a, .slice (some ⟨sb, 0, none⟩) T.length T.length] w (VisR w0 (some ad) cp T sb M w a) := by
  have HN := hide H
  have ha := (List.getElem?_eq_some_iff.1 H.at').1
  have k1 : (a : Int) < T.length := by omega
  have cM := st_cell H.st (a := a) H.lt
  have bl := block_lt_of_cell cM
  rw [H.z] at cM
  have HC := hide (H.st.cx (fun _ => False))
  have HA := hide H.lt
  obtain ⟨ad', la, e1, rfl, hcl, hp⟩ := H.st.tab.at H.at'
  cases e1
  obtain ⟨B, hB⟩ : ∃ B, ad.add (a * 10) = B := ⟨_, rfl⟩
  rw [hB] at hcl
  have HB0 := hide (ten_of hcl).1
  have HB4 := hide (ten_of hcl).2.2.2.2.1
  have HP := hide (show partsR la.x = [la.x.el] by unfold partsR; rw [if_pos (by simp [hf])])
  have HLn := hide (show (partsR la.x).length = 1 by rw [HP.out]; rfl)
  clear H hcl hp
  go_enter Try.func52, Try.ntmps52
  go_upto_region 6 with (first | (refine at_store 3 rfl ?_; refine wl_store (us := [.int .i64 1]) rfl 3 _ _ rfl rfl rfl tcI.sz rfl HC.out (by repeat (first | exact List.Mem.head _ | apply List.Mem.tail)) (st_put HA.out 1) (by repeat (first | exact Upd.here _ _ _ | apply Upd.there)) ?_; intro w' hc; (replace HC := hide hc; clear hc)))
  have d0 := (grown_then HN.out.st.gr HC.out.grown (fun y e => by cases e; exact .inr HN.out.st.new)).cell HB0.out (by simp)
  have d4 := (grown_then HN.out.st.gr HC.out.grown (fun y e => by cases e; exact .inr HN.out.st.new)).cell HB4.out (by simp)
  have bl2 := block_lt_of_cell d0
  clear cM bl
  rw [hf] at d0
  go_wp2_with (refine at_bs 69 rfl ?_; refine wl_br rfl 69 _ _ rfl 3 1 [.int .i64 la.x.el] HC.out rfl (by decide) (by kernel_rfl) ?_; intro b0 w' hc; (replace HC := hide hc; clear hc))
  obtain ⟨oc, hoc⟩ : ∃ oc, (some ⟨b0, 0, none⟩ : Option Addr) = oc := ⟨_, rfl⟩
  rw [hoc] at HC ⊢
  rw [show [Value.int .i64 la.x.el] = (partsR la.x).map (Value.int .i64) by rw [HP.out]; rfl] at HC
  clear hoc d0 d4 bl2
  go_loopw [9] (fun kv W => ∃ (k : Nat) (M1 : List Int), k ≤ 1 ∧ kv = .int .i64 k ∧ Hid (OyR T (M.set a 1) M1 ∧ ∀ j ∈ (partsR la.x).take k, mk M1 j.toNat = 2) ∧ Hid (M1.length = T.length) ∧ Hid (Cx w (fun _ => False) (some sb) [⟨sb, stC M1, 3⟩] [⟨.slice oc 1 1, 3, 1, 1, (partsR la.x).map (Value.int .i64)⟩] [] W)) (fun kv _ => 1 - (intOf kv).toNat)
  case atStart => exact ⟨0, M.set a 1, by omega, rfl, hide ⟨⟨Lm.refl _, HN.out.dn, HN.out.vm⟩, by simp⟩, hide (by rw [List.length_set]; exact HN.out.st.len), HC⟩
  case round =>
    clear HC
    obtain ⟨k, M1, hk, rfl, HY, HL1, HC⟩ := hrel
    have HA2 := hide (show a < M1.length by rw [HL1.out]; exact (List.getElem?_eq_some_iff.1 HN.out.at').1)
    by_cases hlt : k < 1
    · have q1 : (k : Int) < 1 := by omega
      obtain ⟨t, ht⟩ : ∃ t, (partsR la.x)[k]? = some t := ⟨(partsR la.x)[k]'(by rw [HLn.out]; exact hlt), List.getElem?_eq_getElem _⟩
      obtain ⟨t0, t1⟩ := HN.out.inr a _ HN.out.at' t (List.mem_of_getElem? ht)
      obtain ⟨q, rfl⟩ := Int.eq_ofNat_of_zero_le t0
      have HQ := hide (show q < T.length by omega)
      have HTk := hide ht
      obtain ⟨oc', cc', e2, hcls⟩ := row_cls (HC.out.row _ (.head _))
      cases e2
      obtain ⟨ra, hra, hcr⟩ := hcls k (.int .i64 (q : Int)) (by rw [List.getElem?_map, ht]; rfl)
      subst hra
      have br := block_lt_of_cell hcr
      clear hcls t0 t1 ht
      go_wp2_with (go_at_call 52; refine (HN.out.ok M1 _ q (HN.out.st.next HC.out.grown (HC.out.loc ⟨sb, stC M1, 3⟩ (by repeat (first | exact List.Mem.head _ | apply List.Mem.tail))) HL1.out) HQ.out HY.out.1.vm HY.out.1.dn (HN.out.cov.mono HY.out.1.le)).mono ?_; rintro e w9 ⟨c, M', rfl, hg, hs, hy, hn⟩; have HG := hide hg; have HZ := hide hs; have HC1 := hide (HC.out.callX hg (by repeat (first | exact List.Mem.head _ | apply List.Mem.tail)) hs.blk (by repeat (first | exact Upd.here _ _ _ | apply Upd.there))); cases c <;> (first | (have HW := hide (hy rfl); clear hy hn hg hs) | (have HV := hide (hn rfl); clear hy hn hg hs)))
      · refine ⟨⟨k + 1, M', by omega, by go_num, hide ⟨⟨HY.out.1.le.trans HW.out.1.le, HW.out.1.dn, HW.out.1.vm⟩, fun j hj => ?_⟩, hide HZ.out.len, HC1⟩, by simp [intOf]; omega⟩
        rw [List.take_add_one, HTk.out] at hj
        rcases List.mem_append.1 hj with hj | hj
        · exact HW.out.1.le.two _ (HY.out.2 j hj)
        · simp at hj
          subst hj
          exact HW.out.2
      · go_ret
        exact ⟨true, M', rfl, grown_then HC.out.grown HG.out (fun y e => .inl e), HZ.out, (fun e => by cases e), fun _ => onR_parts HA.out (opR_part (j := (q : Int)) HN.out.at' (List.mem_of_getElem? HTk.out) HY.out.1.le HV.out)⟩
    · obtain rfl : k = 1 := by omega
      go_wp2_with (first | (refine at_store 3 rfl ?_; refine wl_store (us := [.int .i64 2]) rfl 3 _ _ rfl rfl rfl tcI.sz rfl HC.out (by repeat (first | exact List.Mem.head _ | apply List.Mem.tail)) (st_put HA2.out 2) (by repeat (first | exact Upd.here _ _ _ | apply Upd.there)) ?_; intro w' hc; (replace HC := hide hc; clear hc)))
      go_ret
      refine ⟨false, M1.set a 2, rfl, HC.out.grown, HN.out.st.next HC.out.grown (HC.out.loc ⟨sb, stC (M1.set a 2), 3⟩ (by repeat (first | exact List.Mem.head _ | apply List.Mem.tail))) (by rw [List.length_set]; exact HL1.out), fun _ => ⟨doneR_at HN.out.at' HA.out HA2.out HN.out.z HY.out.1 (fun j hj => HY.out.2 j (by rw [List.take_of_length_le (by rw [HLn.out]; exact Nat.le_refl _)]; exact hj)), ?_⟩, (fun e => by cases e)⟩
      rw [mk_set HA2.out, if_pos rfl]
set_option maxHeartbeats 8000000 in
theorem round_8 {ad : Addr} {U : List Nat} {M : List Int} {w : World} {a : Nat} {x : Tt} (H : Nw w0 ad cp T sb U M w a x) (hf : x.fm = 8) : Calls Try.prog 52 #[.slice (some ad) T.length cp, .int .i64 a, .slice (some ⟨sb, 0, none⟩) T.length T.length] w (VisR w0 (some ad) cp T sb M w a) := by
  have HN := hide H
  have ha := (List.getElem?_eq_some_iff.1 H.at').1
  have k1 : (a : Int) < T.length := by omega
  have cM := st_cell H.st (a := a) H.lt
  have bl := block_lt_of_cell cM
  rw [H.z] at cM
  have HC := hide (H.st.cx (fun _ => False))
  have HA := hide H.lt
  obtain ⟨ad', la, e1, rfl, hcl, hp⟩ := H.st.tab.at H.at'
  cases e1
  obtain ⟨B, hB⟩ : ∃ B, ad.add (a * 10) = B := ⟨_, rfl⟩
  rw [hB] at hcl
  have HB0 := hide (ten_of hcl).1
  have HB4 := hide (ten_of hcl).2.2.2.2.1
  have HP := hide (show partsR la.x = [la.x.el] by unfold partsR; rw [if_pos (by simp [hf])])
  have HLn := hide (show (partsR la.x).length = 1 by rw [HP.out]; rfl)
  clear H hcl hp
  go_enter Try.func52, Try.ntmps52
  go_upto_region 6 with (first | (refine at_store 3 rfl ?_; refine wl_store (us := [.int .i64 1]) rfl 3 _ _ rfl rfl rfl tcI.sz rfl HC.out (by repeat (first | exact List.Mem.head _ | apply List.Mem.tail)) (st_put HA.out 1) (by repeat (first | exact Upd.here _ _ _ | apply Upd.there)) ?_; intro w' hc; (replace HC := hide hc; clear hc)))
  have d0 := (grown_then HN.out.st.gr HC.out.grown (fun y e => by cases e; exact .inr HN.out.st.new)).cell HB0.out (by simp)
  have d4 := (grown_then HN.out.st.gr HC.out.grown (fun y e => by cases e; exact .inr HN.out.st.new)).cell HB4.out (by simp)
  have bl2 := block_lt_of_cell d0
  clear cM bl
  rw [hf] at d0
  go_wp2_with (refine at_bs 69 rfl ?_; refine wl_br rfl 69 _ _ rfl 3 1 [.int .i64 la.x.el] HC.out rfl (by decide) (by kernel_rfl) ?_; intro b0 w' hc; (replace HC := hide hc; clear hc))
  obtain ⟨oc, hoc⟩ : ∃ oc, (some ⟨b0, 0, none⟩ : Option Addr) = oc := ⟨_, rfl⟩
  rw [hoc] at HC ⊢
  rw [show [Value.int .i64 la.x.el] = (partsR la.x).map (Value.int .i64) by rw [HP.out]; rfl] at HC
  clear hoc d0 d4 bl2
  go_loopw [9] (fun kv W => ∃ (k : Nat) (M1 : List Int), k ≤ 1 ∧ kv = .int .i64 k ∧ Hid (OyR T (M.set a 1) M1 ∧ ∀ j ∈ (partsR la.x).take k, mk M1 j.toNat = 2) ∧ Hid (M1.length = T.length) ∧ Hid (Cx w (fun _ => False) (some sb) [⟨sb, stC M1, 3⟩] [⟨.slice oc 1 1, 3, 1, 1, (partsR la.x).map (Value.int .i64)⟩] [] W)) (fun kv _ => 1 - (intOf kv).toNat)
  case atStart => exact ⟨0, M.set a 1, by omega, rfl, hide ⟨⟨Lm.refl _, HN.out.dn, HN.out.vm⟩, by simp⟩, hide (by rw [List.length_set]; exact HN.out.st.len), HC⟩
  case round =>
    clear HC
    obtain ⟨k, M1, hk, rfl, HY, HL1, HC⟩ := hrel
    have HA2 := hide (show a < M1.length by rw [HL1.out]; exact (List.getElem?_eq_some_iff.1 HN.out.at').1)
    by_cases hlt : k < 1
    · have q1 : (k : Int) < 1 := by omega
      obtain ⟨t, ht⟩ : ∃ t, (partsR la.x)[k]? = some t := ⟨(partsR la.x)[k]'(by rw [HLn.out]; exact hlt), List.getElem?_eq_getElem _⟩
      obtain ⟨t0, t1⟩ := HN.out.inr a _ HN.out.at' t (List.mem_of_getElem? ht)
      obtain ⟨q, rfl⟩ := Int.eq_ofNat_of_zero_le t0
      have HQ := hide (show q < T.length by omega)
      have HTk := hide ht
      obtain ⟨oc', cc', e2, hcls⟩ := row_cls (HC.out.row _ (.head _))
      cases e2
      obtain ⟨ra, hra, hcr⟩ := hcls k (.int .i64 (q : Int)) (by rw [List.getElem?_map, ht]; rfl)
      subst hra
      have br := block_lt_of_cell hcr
      clear hcls t0 t1 ht
      go_wp2_with (go_at_call 52; refine (HN.out.ok M1 _ q (HN.out.st.next HC.out.grown (HC.out.loc ⟨sb, stC M1, 3⟩ (by repeat (first | exact List.Mem.head _ | apply List.Mem.tail))) HL1.out) HQ.out HY.out.1.vm HY.out.1.dn (HN.out.cov.mono HY.out.1.le)).mono ?_; rintro e w9 ⟨c, M', rfl, hg, hs, hy, hn⟩; have HG := hide hg; have HZ := hide hs; have HC1 := hide (HC.out.callX hg (by repeat (first | exact List.Mem.head _ | apply List.Mem.tail)) hs.blk (by repeat (first | exact Upd.here _ _ _ | apply Upd.there))); cases c <;> (first | (have HW := hide (hy rfl); clear hy hn hg hs) | (have HV := hide (hn rfl); clear hy hn hg hs)))
      · refine ⟨⟨k + 1, M', by omega, by go_num, hide ⟨⟨HY.out.1.le.trans HW.out.1.le, HW.out.1.dn, HW.out.1.vm⟩, fun j hj => ?_⟩, hide HZ.out.len, HC1⟩, by simp [intOf]; omega⟩
        rw [List.take_add_one, HTk.out] at hj
        rcases List.mem_append.1 hj with hj | hj
        · exact HW.out.1.le.two _ (HY.out.2 j hj)
        · simp at hj
          subst hj
          exact HW.out.2
      · go_ret
        exact ⟨true, M', rfl, grown_then HC.out.grown HG.out (fun y e => .inl e), HZ.out, (fun e => by cases e), fun _ => onR_parts HA.out (opR_part (j := (q : Int)) HN.out.at' (List.mem_of_getElem? HTk.out) HY.out.1.le HV.out)⟩
    · obtain rfl : k = 1 := by omega
      go_wp2_with (first | (refine at_store 3 rfl ?_; refine wl_store (us := [.int .i64 2]) rfl 3 _ _ rfl rfl rfl tcI.sz rfl HC.out (by repeat (first | exact List.Mem.head _ | apply List.Mem.tail)) (st_put HA2.out 2) (by repeat (first | exact Upd.here _ _ _ | apply Upd.there)) ?_; intro w' hc; (replace HC := hide hc; clear hc)))
      go_ret
      refine ⟨false, M1.set a 2, rfl, HC.out.grown, HN.out.st.next HC.out.grown (HC.out.loc ⟨sb, stC (M1.set a 2), 3⟩ (by repeat (first | exact List.Mem.head _ | apply List.Mem.tail))) (by rw [List.length_set]; exact HL1.out), fun _ => ⟨doneR_at HN.out.at' HA.out HA2.out HN.out.z HY.out.1 (fun j hj => HY.out.2 j (by rw [List.take_of_length_le (by rw [HLn.out]; exact Nat.le_refl _)]; exact hj)), ?_⟩, (fun e => by cases e)⟩
      rw [mk_set HA2.out, if_pos rfl]
end
end Go.Proofs.Ythmldhppmpbadaa.Ty
