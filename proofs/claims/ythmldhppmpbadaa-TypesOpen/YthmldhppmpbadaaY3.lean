/-
  Types in types, purely: ranks, and the marks of a search.
  Package types: the search for types in themselves.
  Package types: no type stands in itself.
  Package types: no type stands in itself, the whole table.
-/
import Derived.Test.YthmldhppmpbadaaY2
import Derived.Test.YthmldhppmpbadaaTy7
namespace Go.Proofs.Ythmldhppmpbadaa.Ty
open Go.RowKit hiding Hid
open Go.Proofs.Ythmldhppmpbadaa.Tx Go.Proofs.Ythmldhppmpbadaa.Lx Go.Proofs.Ythmldhppmpbadaa.Tr
set_option linter.unusedVariables false
set_option linter.unusedSimpArgs false

/- What stands in a type. -/
def partsI (x : Tt) : List Int := if x.fm = 7 ∨ x.fm = 8 then [x.el] else if x.fm = 9 then x.fl.map (·.t) ++ [x.ba] else []
def RankOf (T : List Tt) (r : Nat → Nat) : Prop := ∀ (i : Nat) (x : Tt), T[i]? = some x → ∀ j ∈ partsI x, r j.toNat < r i
def InP (T : List Tt) : Prop := ∀ (i : Nat) (x : Tt), T[i]? = some x → ∀ j ∈ partsI x, 0 ≤ j ∧ j < T.length
/- Marks. -/
def mk (M : List Int) (i : Nat) : Int := (M[i]?).getD 0
def Vm (M : List Int) : Prop := ∀ i, mk M i = 0 ∨ mk M i = 1 ∨ mk M i = 2
def Dn (T : List Tt) (M : List Int) : Prop := ∃ r : Nat → Nat, ∀ (i : Nat) (x : Tt), T[i]? = some x → mk M i = 2 → ∀ j ∈ partsI x, mk M j.toNat = 2 ∧ r j.toNat < r i
structure Lm (M M' : List Int) : Prop where
  one : ∀ i, mk M i = 1 ↔ mk M' i = 1
  two : ∀ i, mk M i = 2 → mk M' i = 2
  nil : ∀ i, mk M' i = 0 → mk M i = 0
theorem Lm.refl (M : List Int) : Lm M M := ⟨fun _ => Iff.rfl, fun _ h => h, fun _ h => h⟩
theorem Lm.trans {A B C : List Int} (h : Lm A B) (k : Lm B C) : Lm A C := ⟨fun i => (h.one i).trans (k.one i), fun i e => k.two i (h.two i e), fun i e => h.nil i (k.nil i e)⟩
theorem mk_set {M : List Int} {a : Nat} (h : a < M.length) (v : Int) (i : Nat) : mk (M.set a v) i = if i = a then v else mk M i := by
  unfold mk
  rw [List.getElem?_set]
  by_cases e : i = a
  · subst e
    simp [h]
  · simp [e, Ne.symm e]
def Cov (U : List Nat) (M : List Int) : Prop := ∀ i, i < 256 → mk M i = 0 → i ∈ U
theorem Cov.mono {U : List Nat} {M M' : List Int} (h : Cov U M) (k : Lm M M') : Cov U M' := fun i hi e => h i hi (k.nil i e)
theorem Cov.less {U : List Nat} {M : List Int} {a : Nat} (h : Cov U M) (ha : a < M.length) : Cov (U.erase a) (M.set a 1) := fun i hi e => by
  rw [mk_set ha] at e
  by_cases ei : i = a
  · simp [ei] at e
  · rw [if_neg ei] at e
    exact (List.mem_erase_of_ne ei).2 (h i hi e)
/- The outcome of a visit at a; of a visit of what stands in a. -/
structure Oy (T : List Tt) (M M' : List Int) : Prop where
  le : Lm M M'
  dn : Dn T M'
  vm : Vm M'
def On (T : List Tt) (M : List Int) (a : Nat) : Prop := ∀ r, RankOf T r → (∀ i, mk M i = 1 → r a < r i) → False
def Op1 (T : List Tt) (M : List Int) (a : Nat) : Prop := ∀ r, RankOf T r → (∀ i, mk M i = 1 → r a ≤ r i) → False
theorem on_begun {T : List Tt} {M : List Int} {a : Nat} (h : mk M a = 1) : On T M a := fun r _ hb => Nat.lt_irrefl _ (hb a h)
theorem on_parts {T : List Tt} {M : List Int} {a : Nat} (ha : a < M.length) (h : Op1 T (M.set a 1) a) : On T M a := fun r hr hb => h r hr (fun i e => by
  rw [mk_set ha] at e
  by_cases ei : i = a
  · rw [ei]; exact Nat.le_refl _
  · rw [if_neg ei] at e
    exact Nat.le_of_lt (hb i e))
theorem op_part {T : List Tt} {M M' : List Int} {a : Nat} {x : Tt} {j : Int} (hx : T[a]? = some x) (hj : j ∈ partsI x) (hl : Lm M M') (h : On T M' j.toNat) : Op1 T M a := fun r hr hb => h r hr (fun i e => Nat.lt_of_lt_of_le (hr a x hx j hj) (hb i ((hl.one i).2 e)))
theorem Vm.set {M : List Int} (h : Vm M) {a : Nat} (ha : a < M.length) {v : Int} (hv : v = 0 ∨ v = 1 ∨ v = 2) : Vm (M.set a v) := fun i => by
  rw [mk_set ha]
  split
  · exact hv
  · exact h i
theorem Dn.begin {T : List Tt} {M : List Int} {a : Nat} (h : Dn T M) (ha : a < M.length) (h0 : mk M a = 0) : Dn T (M.set a 1) := by
  obtain ⟨r, hr⟩ := h
  refine ⟨r, fun i x hx e j hj => ?_⟩
  rw [mk_set ha] at e
  by_cases ei : i = a
  · simp [ei] at e
  · rw [if_neg ei] at e
    obtain ⟨h1, h2⟩ := hr i x hx e j hj
    rw [mk_set ha]
    refine ⟨?_, h2⟩
    by_cases ej : j.toNat = a
    · rw [ej, h0] at h1; cases h1
    · rw [if_neg ej]; exact h1
def mxR (r : Nat → Nat) (l : List Int) : Nat := l.foldr (fun j m => max (r j.toNat) m) 0
theorem mxR_le (r : Nat → Nat) : ∀ (l : List Int) (j : Int), j ∈ l → r j.toNat ≤ mxR r l
  | [], j, h => by cases h
  | k :: l, j, h => by
    rcases List.mem_cons.1 h with rfl | h
    · exact Nat.le_max_left _ _
    · exact Nat.le_trans (mxR_le r l j h) (Nat.le_max_right _ _)
theorem done_at {T : List Tt} {M M2 : List Int} {a : Nat} {x : Tt} (hx : T[a]? = some x) (ha : a < M.length) (ha2 : a < M2.length) (h0 : mk M a = 0) (hy : Oy T (M.set a 1) M2) (hp : ∀ j ∈ partsI x, mk M2 j.toNat = 2) : Oy T M (M2.set a 2) := by
  have hb : mk M2 a = 1 := (hy.le.one a).1 (by rw [mk_set ha, if_pos rfl])
  refine ⟨⟨fun i => ?_, fun i e => ?_, fun i e => ?_⟩, ?_, hy.vm.set ha2 (.inr (.inr rfl))⟩
  · rw [mk_set ha2]
    by_cases ei : i = a
    · subst ei; rw [if_pos rfl, h0]; decide
    · rw [if_neg ei, ← hy.le.one i, mk_set ha, if_neg ei]
  · rw [mk_set ha2]
    by_cases ei : i = a
    · rw [if_pos ei]
    · rw [if_neg ei]
      exact hy.le.two i (by rw [mk_set ha, if_neg ei]; exact e)
  · rw [mk_set ha2] at e
    by_cases ei : i = a
    · rw [ei]; exact h0
    · rw [if_neg ei] at e
      have := hy.le.nil i e
      rw [mk_set ha, if_neg ei] at this
      exact this
  · obtain ⟨r, hr⟩ := hy.dn
    refine ⟨fun i => if i = a then mxR r (partsI x) + 1 else r i, fun i y hyi e j hj => ?_⟩
    rw [mk_set ha2] at e ⊢
    by_cases ei : i = a
    · subst ei
      rw [hx] at hyi
      cases hyi
      have h2 := hp j hj
      have ej : j.toNat ≠ i := fun e => by rw [e, hb] at h2; cases h2
      rw [if_neg ej]
      dsimp only
      rw [if_neg ej, if_pos rfl]
      exact ⟨h2, Nat.lt_succ_of_le (mxR_le r _ j hj)⟩
    · rw [if_neg ei] at e
      obtain ⟨h1, h2⟩ := hr i y hyi e j hj
      have ej : j.toNat ≠ a := fun e => by rw [e, hb] at h1; cases h1
      rw [if_neg ej]
      dsimp only
      rw [if_neg ej, if_neg ei]
      exact ⟨h1, h2⟩
theorem rank_of_dn {T : List Tt} {M : List Int} (h : Dn T M) (hd : ∀ i, i < T.length → mk M i = 2) : ∃ r, RankOf T r := by
  obtain ⟨r, hr⟩ := h
  exact ⟨r, fun i x hx j hj => (hr i x hx (hd i (List.getElem?_eq_some_iff.1 hx).1) j hj).2⟩
end Go.Proofs.Ythmldhppmpbadaa.Ty
namespace Go.Proofs.Ythmldhppmpbadaa.Ty
open Go.RowKit hiding Hid
open Go.Proofs.Ythmldhppmpbadaa.Tx Go.Proofs.Ythmldhppmpbadaa.Lx Go.Proofs.Ythmldhppmpbadaa.Tr
set_option linter.unusedVariables false
set_option linter.unusedSimpArgs false
set_option maxRecDepth 100000

def srC (o : Option Addr) (n cp : Nat) (M : List Int) : List Value := .slice o n cp :: M.map (Value.int .i64)
structure Srch (w0 : World) (o : Option Addr) (cp : Nat) (T : List Tt) (b : Nat) (M : List Int) (w : World) : Prop where
  tab : Tab w0 o T
  gr : w0.grownBy w none
  new : w0.heap.size ≤ b
  blk : w.heap[b]? = some (.cells (srC o T.length cp M).toArray 110 (0, 0))
  len : M.length = 256
theorem getS_at : ∀ (cs : List Value) (n : Nat) (u : Value), cs[n]? = some u → GetS n [u] cs
  | [], n, u, h => by simp at h
  | c :: cs, 0, u, h => by simp at h; subst h; exact .cons _ (.nil _)
  | c :: cs, n + 1, u, h => .skip _ (getS_at cs n u (by simpa using h))
theorem putS_at : ∀ (cs : List Value) (n : Nat) (u : Value), n < cs.length → PutS n [u] cs (cs.set n u)
  | [], n, u, h => by simp at h
  | c :: cs, 0, u, h => .cons _ _ (.nil _)
  | c :: cs, n + 1, u, h => .skip _ (putS_at cs n u (by simpa using h))
section
variable {w0 : World} {o : Option Addr} {cp : Nat} {T : List Tt} {b : Nat}
theorem Srch.cx {M : List Int} {w : World} (H : Srch w0 o cp T b M w) (A : Nat → Prop) : Cx w A (some b) [⟨b, srC o T.length cp M, 110⟩] [] [] w :=
  ⟨grown_refl w _, fun p hp => by rw [List.mem_singleton] at hp; subst hp; exact H.blk, fun p hp => by rw [List.mem_singleton] at hp; subst hp; exact .inr rfl, List.pairwise_singleton _ _, by simp, by simp, List.Pairwise.nil, by simp, fun x e => by cases e; exact (Array.getElem?_eq_some_iff.1 H.blk).1⟩
theorem Srch.next {M M' : List Int} {w w' : World} (H : Srch w0 o cp T b M w) (hg : w.grownBy w' (some b)) (hb : w'.heap[b]? = some (.cells (srC o T.length cp M').toArray 110 (0, 0))) (hl : M'.length = 256) : Srch w0 o cp T b M' w' :=
  ⟨H.tab, grown_then H.gr hg (fun y e => by cases e; exact .inr H.new), H.new, hb, hl⟩
/- A visit, and what it tells. -/
def Vis (w0 : World) (o : Option Addr) (cp : Nat) (T : List Tt) (b : Nat) (M : List Int) (w : World) (Y : List Int → Prop) (N : Prop) (e : Ending) (w' : World) : Prop :=
  ∃ c M', e = .returned (.bool c) ∧ w.grownBy w' (some b) ∧ Srch w0 o cp T b M' w' ∧ (c = true → Oy T M M' ∧ Y M') ∧ (c = false → N)
def EndsOk (w0 : World) (o : Option Addr) (cp : Nat) (T : List Tt) (b : Nat) (U : List Nat) : Prop := ∀ (M : List Int) (w : World) (a : Nat), Srch w0 o cp T b M w → a < T.length → Vm M → Dn T M → Cov U M →
  Calls Try.prog 98 #[.pointer (some ⟨b, 0, none⟩), .int .i64 a] w (Vis w0 o cp T b M w (fun M' => mk M' a = 2) (On T M a))
set_option maxHeartbeats 4000000 in
theorem pend_one {U : List Nat} (hE : EndsOk w0 o cp T b U) {M : List Int} {w : World} {a : Nat} {la : La} (H : Srch w0 o cp T b M w) (hx : T[a]? = some la.x) (hin : InP T) (hv : Vm M) (hd : Dn T M) (hc : Cov U M) (hf : la.x.fm = 7 ∨ la.x.fm = 8) :
    Calls Try.prog 118 #[.pointer (some ⟨b, 0, none⟩), .agg (laC la).toArray] w (Vis w0 o cp T b M w (fun M' => ∀ j ∈ partsI la.x, mk M' j.toNat = 2) (Op1 T M a)) := by
  obtain ⟨⟨fm, md, nm, ln, el, ba, fl, pm, rs, ds⟩, fo, fc, po, pc⟩ := la
  dsimp only at hf hx ⊢
  have hp : partsI ⟨fm, md, nm, ln, el, ba, fl, pm, rs, ds⟩ = [el] := by unfold partsI; rw [if_pos hf]
  obtain ⟨h0, h1⟩ := hin a _ hx el (by rw [hp]; simp)
  obtain ⟨j, rfl⟩ := Int.eq_ofNat_of_zero_le h0
  have HE := hide hE
  have HS := hide H
  have HC := hide (H.cx (fun _ => False))
  have HK := hide (And.intro hv (And.intro hd hc))
  have HX := hide hx
  have HP := hide hp
  have HJ := hide (show j < T.length by omega)
  unfold laC
  dsimp only
  clear hE H hx hin hv hd hc hp h0 h1
  have key : ∀ (W : World) (b' : Nat) (cs : List Value) (t : TypeId), Cx w (fun _ => False) (some b) [⟨b', cs, t⟩, ⟨b, srC o T.length cp M, 110⟩] [] [] W → Srch w0 o cp T b M W := fun W b' cs t hc =>
    HS.out.next hc.grown (hc.loc _ (.tail _ (.head _))) HS.out.len
  have HKy := hide key
  clear key
  rcases hf with rfl | rfl
  all_goals (go_enter Try.func118, Try.ntmps118)
  all_goals (go_wp2_with (first | ((refine at_box 48 rfl ?_; refine wl_box rfl 48 _ rfl _ rfl HC.out ?_; intro b w' hn hc; (replace HC := hide hc; clear hc)); (obtain ⟨c0, c1, c2, c3, c4, c5, c6, c7, c8, c9⟩ := ten_f HC.out)) | (go_at_call 98; refine (HE.out M _ j (HKy.out _ _ _ _ HC.out) HJ.out HK.out.1 HK.out.2.1 HK.out.2.2).mono ?_; rintro e w2 ⟨c, M', rfl, hg, hs, hy, hn⟩)))
  all_goals go_ret
  all_goals (refine ⟨c, M', rfl, grown_then HC.out.grown hg (fun y e => .inl e), hs, fun e => ⟨(hy e).1, fun i hi => ?_⟩, fun e => op_part (j := (j : Int)) HX.out (by rw [HP.out]; exact .head _) (Lm.refl _) (hn e)⟩)
  all_goals (rw [HP.out, List.mem_singleton] at hi; subst hi; exact (hy e).2)
set_option maxHeartbeats 4000000 in
theorem pend_none {M : List Int} {w : World} {a : Nat} {la : La} (H : Srch w0 o cp T b M w) (hv : Vm M) (hd : Dn T M) (hf : la.x.fm ≠ 7 ∧ la.x.fm ≠ 8 ∧ la.x.fm ≠ 9) :
    Calls Try.prog 118 #[.pointer (some ⟨b, 0, none⟩), .agg (laC la).toArray] w (Vis w0 o cp T b M w (fun M' => ∀ j ∈ partsI la.x, mk M' j.toNat = 2) (Op1 T M a)) := by
  obtain ⟨⟨fm, md, nm, ln, el, ba, fl, pm, rs, ds⟩, fo, fc, po, pc⟩ := la
  dsimp only at hf ⊢
  have HP := hide (show partsI ⟨fm, md, nm, ln, el, ba, fl, pm, rs, ds⟩ = [] by unfold partsI; rw [if_neg (by simp [hf.1, hf.2.1]), if_neg hf.2.2])
  obtain ⟨f7, f8, f9⟩ := hf
  have HS := hide H
  have HC := hide (H.cx (fun _ => False))
  have HK := hide (And.intro hv hd)
  unfold laC
  dsimp only
  clear H hv hd
  go_enter Try.func118, Try.ntmps118
  go_wp2_with ((refine at_box 48 rfl ?_; refine wl_box rfl 48 _ rfl _ rfl HC.out ?_; intro b w' hn hc; (replace HC := hide hc; clear hc)); (obtain ⟨c0, c1, c2, c3, c4, c5, c6, c7, c8, c9⟩ := ten_f HC.out))
  go_ret
  refine ⟨true, M, rfl, HC.out.grown, HS.out.next HC.out.grown (HC.out.loc _ (.tail _ (.head _))) HS.out.len, fun e => ⟨⟨Lm.refl _, HK.out.2, HK.out.1⟩, fun i hi => ?_⟩, fun e => by cases e⟩
  rw [HP.out] at hi
  cases hi
theorem flsI {fm ba ds ln el rs : Int} {md nm : Txt} {fl : List Fl} {pm : List Pm} (h : fm = 9) : partsI ⟨fm, md, nm, ln, el, ba, fl, pm, rs, ds⟩ = fl.map (·.t) ++ [ba] := by unfold partsI; subst h; rfl
set_option maxHeartbeats 8000000 in
theorem pend_rec {U : List Nat} (hE : EndsOk w0 o cp T b U) {M : List Int} {w : World} {a : Nat} {la : La} (H : Srch w0 o cp T b M w) (hla : Lp w0 la) (hx : T[a]? = some la.x) (hin : InP T) (hv : Vm M) (hd : Dn T M) (hc : Cov U M) (hf : la.x.fm = 9) :
    Calls Try.prog 118 #[.pointer (some ⟨b, 0, none⟩), .agg (laC la).toArray] w (Vis w0 o cp T b M w (fun M' => ∀ j ∈ partsI la.x, mk M' j.toNat = 2) (Op1 T M a)) := by
  obtain ⟨⟨fm, md, nm, ln, el, ba, fl, pm, rs, ds⟩, fo, fc, po, pc⟩ := la
  dsimp only at hf hx ⊢
  have hp := flsI (ba := ba) (ds := ds) (ln := ln) (el := el) (rs := rs) (md := md) (nm := nm) (fl := fl) (pm := pm) hf
  subst hf
  have HB := hide (hin a _ hx ba (by rw [hp]; simp))
  have HFs := hide (fun f hf => hin a _ hx f (by rw [hp]; simp only [List.mem_append, List.mem_map]; exact .inl hf))
  have hla1 := hla.fl
  have hla2 := hla.sm.fl
  dsimp only at hla1 hla2
  have k0 : (fl.length : Int) ≤ 1000000 := by omega
  have HO := hide hla1
  have HE := hide hE
  have HS := hide H
  have HC := hide (H.cx (fun _ => False))
  have HK := hide (And.intro hv (And.intro hd hc))
  have HX := hide hx
  have HP := hide hp
  unfold laC
  dsimp only
  clear hE H hx hin hv hd hc hp hla hla1 hla2
  go_enter Try.func118, Try.ntmps118
  go_wp2_with (first | (refine at_box 48 rfl ?_; refine wl_box rfl 48 _ rfl _ rfl HC.out ?_; intro bb w' hn hc; (replace HC := hide hc; clear hc)) | (refine at_load 3 rfl ?_; refine wl_load_c rfl 3 _ rfl tcI rfl HC.out (by repeat (first | exact List.Mem.head _ | apply List.Mem.tail)) (by repeat (first | exact GetS.cons _ (GetS.nil _) | apply GetS.skip)) ?_) | (refine at_load 45 rfl ?_; refine wl_load_c rfl 45 _ rfl tcLF rfl HC.out (by repeat (first | exact List.Mem.head _ | apply List.Mem.tail)) (by repeat (first | exact GetS.cons _ (GetS.nil _) | apply GetS.skip)) ?_))
  go_loopw [21] (fun iv W => ∃ (i : Nat) (M1 : List Int), i ≤ fl.length ∧ iv = .int .i64 i ∧ Hid (Oy T M M1) ∧ Hid (∀ f ∈ fl.take i, mk M1 f.t.toNat = 2) ∧ Hid (M1.length = 256) ∧ Hid (Cx w (fun _ => False) (some b) [⟨bb, [.int .i64 9, .string (bs md), .string (bs nm), .int .i64 ln, .int .i64 el, .int .i64 ba, .slice fo fl.length fc, .slice po pm.length pc, .int .i64 rs, .int .i64 ds], 48⟩, ⟨b, srC o T.length cp M1, 110⟩] [] [] W)) (fun iv _ => fl.length - (intOf iv).toNat)
  case atStart => exact ⟨0, M, by omega, rfl, hide ⟨Lm.refl _, HK.out.2.1, HK.out.1⟩, hide (by simp), hide HS.out.len, HC⟩
  case round =>
    clear HC
    obtain ⟨i, M1, hi, rfl, HY, HA, HL, HC⟩ := hrel
    have HCv := hide (HK.out.2.2.mono HY.out.le)
    by_cases hlt : i < fl.length
    · have j1 : (i : Int) < fl.length := by omega
      obtain ⟨⟨n, x, t⟩, hxi⟩ : ∃ p, fl[i]? = some p := ⟨fl[i], List.getElem?_eq_getElem hlt⟩
      have hm : t ∈ fl.map (·.t) := List.mem_map.2 ⟨_, List.mem_of_getElem? hxi, rfl⟩
      obtain ⟨q0, q1⟩ := HFs.out t (List.mem_map.1 hm)
      obtain ⟨j, rfl⟩ := Int.eq_ofNat_of_zero_le q0
      have HJ := hide (show j < T.length by omega)
      have HMm := hide hm
      obtain ⟨ad, rfl, hel⟩ := HO.out.el flC_len (by decide) hxi
      have HEL := hide (fun W (hW : w0.grownBy W none) j' u (hu : (flC ⟨n, x, (j : Int)⟩)[j']? = some u) => hW.cell (hel j' u hu) (by simp))
      unfold flC at HEL
      dsimp only at HEL
      obtain ⟨B, hB⟩ : ∃ B, ad.add (i * 3) = B := ⟨_, rfl⟩
      rw [hB] at HEL
      have HXi := hide hxi
      clear hel hxi hm q0 q1
      go_wp2_with (first | (refine at_load 75 rfl ?_; refine wl_run rfl 75 _ rfl rfl (run_load_s tyF _ [.string (bs n), .bool x, .int .i64 (j : Int)] rfl (HEL.out _ (grown_then HS.out.gr HC.out.grown (fun y e => by cases e; exact .inr HS.out.new)))) ?_) | (refine at_alloc 75 rfl ?_; refine wl_alloc rfl 75 rfl _ zF HC.out ?_; intro bf w' hn hc; (replace HC := hide hc; clear hc)) | (refine at_store 75 rfl ?_; refine wl_store rfl 75 _ _ rfl rfl rfl tyF.sz rfl HC.out (by repeat (first | exact List.Mem.head _ | apply List.Mem.tail)) (by exact PutS.all _ _ rfl) (by repeat (first | exact Upd.here _ _ _ | apply Upd.there)) ?_; intro w' hc; (replace HC := hide hc; clear hc)) | (refine at_load 3 rfl ?_; refine wl_load_c rfl 3 _ rfl tcI rfl HC.out (by repeat (first | exact List.Mem.head _ | apply List.Mem.tail)) (by repeat (first | exact GetS.cons _ (GetS.nil _) | apply GetS.skip)) ?_) | (go_at_call 98; refine (HE.out M1 _ j (HS.out.next HC.out.grown (HC.out.loc ⟨b, srC o T.length cp M1, 110⟩ (by repeat (first | exact List.Mem.head _ | apply List.Mem.tail))) HL.out) HJ.out HY.out.vm HY.out.dn HCv.out).mono ?_; rintro e w2 ⟨c, M', rfl, hg, hs, hy, hn⟩; have HG := hide hg; have HZ := hide hs; cases c <;> (first | (have HQ := hide (hy rfl); clear hy hn hg hs) | (have HN := hide (hn rfl); clear hy hn hg hs))))
      · go_ret
        exact ⟨false, M', rfl, grown_then HC.out.grown HG.out (fun y e => .inl e), HZ.out, (fun e => by cases e), fun _ => op_part (j := (j : Int)) HX.out (by rw [HP.out]; exact List.mem_append.2 (.inl HMm.out)) HY.out.le HN.out⟩
      · refine ⟨⟨i + 1, M', by omega, by go_num, hide ⟨HY.out.le.trans HQ.out.1.le, HQ.out.1.dn, HQ.out.1.vm⟩, hide (fun f hf => ?_), hide HZ.out.len, hide ?_⟩, by simp [intOf]; omega⟩
        · rw [List.take_add_one, HXi.out] at hf
          rcases List.mem_append.1 hf with hf | hf
          · exact HQ.out.1.le.two _ (HA.out f hf)
          · simp at hf
            subst hf
            exact HQ.out.2
        · exact (HC.out.callX HG.out (by repeat (first | exact List.Mem.head _ | apply List.Mem.tail)) HZ.out.blk (by repeat (first | exact Upd.here _ _ _ | apply Upd.there))).drop
    · obtain rfl : i = fl.length := by omega
      obtain ⟨q0, q1⟩ := HB.out
      obtain ⟨j, rfl⟩ := Int.eq_ofNat_of_zero_le q0
      have HJ := hide (show j < T.length by omega)
      clear q0 q1
      go_wp2_with (first | (refine at_load 3 rfl ?_; refine wl_load_c rfl 3 _ rfl tcI rfl HC.out (by repeat (first | exact List.Mem.head _ | apply List.Mem.tail)) (by repeat (first | exact GetS.cons _ (GetS.nil _) | apply GetS.skip)) ?_) | (go_at_call 98; refine (HE.out M1 _ j (HS.out.next HC.out.grown (HC.out.loc ⟨b, srC o T.length cp M1, 110⟩ (by repeat (first | exact List.Mem.head _ | apply List.Mem.tail))) HL.out) HJ.out HY.out.vm HY.out.dn HCv.out).mono ?_; rintro e w2 ⟨c, M', rfl, hg, hs, hy, hn⟩; have HG := hide hg; have HZ := hide hs; cases c <;> (first | (have HQ := hide (hy rfl); clear hy hn hg hs) | (have HN := hide (hn rfl); clear hy hn hg hs))))
      · go_ret
        exact ⟨false, M', rfl, grown_then HC.out.grown HG.out (fun y e => .inl e), HZ.out, (fun e => by cases e), fun _ => op_part (j := (j : Int)) HX.out (by rw [HP.out]; simp) HY.out.le HN.out⟩
      · go_ret
        refine ⟨true, M', rfl, grown_then HC.out.grown HG.out (fun y e => .inl e), HZ.out, fun _ => ⟨⟨HY.out.le.trans HQ.out.1.le, HQ.out.1.dn, HQ.out.1.vm⟩, fun k hk => ?_⟩, (fun e => by cases e)⟩
        rw [HP.out] at hk
        rcases List.mem_append.1 hk with hk | hk
        · obtain ⟨f, hf, rfl⟩ := List.mem_map.1 hk
          have := HA.out f (by rw [List.take_of_length_le (Nat.le_refl _)]; exact hf)
          exact HQ.out.1.le.two _ this
        · rw [List.mem_singleton] at hk
          subst hk
          exact HQ.out.2
end
end Go.Proofs.Ythmldhppmpbadaa.Ty
namespace Go.Proofs.Ythmldhppmpbadaa.Ty
open Go.RowKit hiding Hid
open Go.Proofs.Ythmldhppmpbadaa.Tx Go.Proofs.Ythmldhppmpbadaa.Lx Go.Proofs.Ythmldhppmpbadaa.Tr
set_option linter.unusedVariables false
set_option linter.unusedSimpArgs false
set_option maxRecDepth 100000

section
variable {w0 : World} {o : Option Addr} {cp : Nat} {T : List Tt} {b : Nat}
theorem srC_len (n : Nat) (M : List Int) : (srC o n cp M).length = M.length + 1 := by simp [srC]
theorem srC_set (n : Nat) (M : List Int) (a : Nat) (v : Int) : (srC o n cp M).set (1 + a) (.int .i64 v) = srC o n cp (M.set a v) := by
  unfold srC
  rw [Nat.add_comm, List.set_cons_succ, List.map_set]
theorem srC_get {n : Nat} {M : List Int} {a : Nat} (h : a < M.length) : (srC o n cp M)[1 + a]? = some (.int .i64 (mk M a)) := by
  unfold srC mk
  rw [Nat.add_comm, List.getElem?_cons_succ, List.getElem?_map, List.getElem?_eq_getElem h]
  rfl
theorem putM {n : Nat} {M : List Int} {a : Nat} (h : a < M.length) (v : Int) : PutS (1 + a) [.int .i64 v] (srC o n cp M) (srC o n cp (M.set a v)) := by
  have := putS_at (srC o n cp M) (1 + a) (.int .i64 v) (by rw [srC_len]; omega)
  rwa [srC_set] at this
theorem srch_cell {M : List Int} {w : World} (H : Srch w0 o cp T b M w) {a : Nat} (h : a < M.length) : w.cell? ⟨b, 1 + a, none⟩ = some (.int .i64 (mk M a)) := by
  rw [cell_of_row _ _ _ _ _ _ H.blk]
  simpa using srC_get h
theorem srch_head {M : List Int} {w : World} (H : Srch w0 o cp T b M w) : w.cell? ⟨b, 0, none⟩ = some (.slice o T.length cp) := by
  rw [cell_of_row _ _ _ _ _ _ H.blk]
  rfl
theorem pend_any {U : List Nat} (hE : EndsOk w0 o cp T b U) {M : List Int} {w : World} {a : Nat} {la : La} (H : Srch w0 o cp T b M w) (hla : Lp w0 la) (hx : T[a]? = some la.x) (hin : InP T) (hv : Vm M) (hd : Dn T M) (hc : Cov U M) :
    Calls Try.prog 118 #[.pointer (some ⟨b, 0, none⟩), .agg (laC la).toArray] w (Vis w0 o cp T b M w (fun M' => ∀ j ∈ partsI la.x, mk M' j.toNat = 2) (Op1 T M a)) := by
  by_cases f78 : la.x.fm = 7 ∨ la.x.fm = 8
  · exact pend_one hE H hx hin hv hd hc f78
  by_cases f9 : la.x.fm = 9
  · exact pend_rec hE H hla hx hin hv hd hc f9
  · exact pend_none H hv hd ⟨fun e => f78 (.inl e), fun e => f78 (.inr e), f9⟩
set_option maxHeartbeats 8000000 in
theorem ends_step {U : List Nat} (hE : ∀ a, a ∈ U → EndsOk w0 o cp T b (U.erase a)) (hin : InP T) (hT : T.length ≤ 256) : EndsOk w0 o cp T b U := by
  intro M w a H ha hv hd hc
  have hM := H.len
  have haM : a < M.length := by omega
  have k0 : (a : Int) < 256 := by omega
  have k1 : (a : Int) < T.length := by omega
  have cM := srch_cell H haM
  have cH := srch_head H
  by_cases h0 : mk M a = 0
  · have hb : (mk M a != 0) = false := by simpa using h0
    obtain ⟨x, hx⟩ : ∃ x, T[a]? = some x := ⟨T[a], List.getElem?_eq_getElem ha⟩
    obtain ⟨ad, la, rfl, rfl, hcl, hla⟩ := H.tab.at hx
    have HEE := hide (hE a (hc a (by omega) h0))
    have HCv := hide (hc.less (a := a) haM)
    have HD1 := hide (hd.begin haM h0)
    have HV1 := hide (hv.set haM (v := 1) (.inr (.inl rfl)))
    have HX := hide hx
    have HLa := hide hla
    have HIn := hide hin
    have HS := hide H
    have HL1 := hide (show (M.set a 1).length = 256 by rw [List.length_set]; exact hM)
    have H0 := hide h0
    have HA := hide haM
    have HC := hide (H.cx (fun _ => False))
    obtain ⟨B, hB⟩ : ∃ B, ad.add (a * 10) = B := ⟨_, rfl⟩
    rw [hB] at hcl
    have HEL := hide (fun W (hW : w0.grownBy W none) j u (hu : (laC la)[j]? = some u) => hW.cell (hcl j u hu) (by simp))
    rw [h0] at cM
    clear H hv hd hc hE hin hcl hla hx hb h0 hM
    go_enter Try.func98, Try.ntmps98
    go_wp2_with (first | (refine at_store 3 rfl ?_; refine wl_store (us := [.int .i64 1]) rfl 3 _ _ rfl rfl rfl tcI.sz rfl HC.out (by repeat (first | exact List.Mem.head _ | apply List.Mem.tail)) (putM HA.out 1) (by repeat (first | exact Upd.here _ _ _ | apply Upd.there)) ?_; intro w' hc; (replace HC := hide hc; clear hc)) | (refine at_store 3 rfl ?_; refine wl_store (us := [.int .i64 2]) rfl 3 _ _ rfl rfl rfl tcI.sz rfl HC.out (by repeat (first | exact List.Mem.head _ | apply List.Mem.tail)) (putM HA2.out 2) (by repeat (first | exact Upd.here _ _ _ | apply Upd.there)) ?_; intro w' hc; (replace HC := hide hc; clear hc)) | (go_at_call 118; refine (pend_any HEE.out (HS.out.next HC.out.grown (HC.out.loc ⟨b, srC (some ad) T.length cp (M.set a 1), 110⟩ (by repeat (first | exact List.Mem.head _ | apply List.Mem.tail))) HL1.out) HLa.out HX.out HIn.out HV1.out HD1.out HCv.out).mono ?_; rintro e w2 ⟨c, M', rfl, hg, hs, hy, hn⟩; have HG := hide hg; have HZ := hide hs; cases c <;> (first | (have HQ := hide (hy rfl); have HC1 := hide (HC.out.callX hg (by repeat (first | exact List.Mem.head _ | apply List.Mem.tail)) hs.blk (by repeat (first | exact Upd.here _ _ _ | apply Upd.there))); clear HC; have HC := HC1; clear HC1; have HA2 := hide (show a < M'.length by rw [hs.len]; omega); clear hy hn hg hs) | (have HN := hide (hn rfl); clear hy hn hg hs))) | (refine at_load 24 rfl ?_; refine wl_load_c rfl 24 _ rfl tcLT rfl HC.out (by repeat (first | exact List.Mem.head _ | apply List.Mem.tail)) (GetS.cons _ (GetS.nil _)) ?_) | (refine at_load 48 rfl ?_; refine wl_run rfl 48 _ rfl rfl (run_load_s tyT _ (laC la) rfl (HEL.out _ (grown_then HS.out.gr HC.out.grown (fun y e => by cases e; exact .inr HS.out.new)))) ?_))
    · go_ret
      exact ⟨false, M', rfl, grown_then HC.out.grown HG.out (fun y e => .inl e), HZ.out, (fun e => by cases e), fun _ => on_parts HA.out HN.out⟩
    · go_ret
      exact ⟨true, M'.set a 2, rfl, HC.out.grown, HS.out.next HC.out.grown (HC.out.loc ⟨b, srC (some ad) T.length cp (M'.set a 2), 110⟩ (by repeat (first | exact List.Mem.head _ | apply List.Mem.tail))) (by rw [List.length_set]; exact HZ.out.len), fun _ => ⟨done_at HX.out HA.out HA2.out H0.out HQ.out.1 HQ.out.2, by show mk _ a = 2; rw [mk_set HA2.out, if_pos rfl]⟩, (fun e => by cases e)⟩
  · have hb : (mk M a != 0) = true := by simpa using h0
    have HS := hide H
    have HK := hide (And.intro hv (And.intro hd hc))
    rw [show mk M a = mk M a from rfl] at cM
    obtain ⟨m, hm⟩ : ∃ m, mk M a = m := ⟨_, rfl⟩
    rw [hm] at cM hb h0
    have HMm := hide hm
    clear H hv hd hc hm
    go_enter Try.func98, Try.ntmps98
    go_wp2
    go_ret
    refine ⟨m == 2, M, by simp, grown_refl w _, HS.out, fun e => ?_, fun e => ?_⟩
    · exact ⟨⟨Lm.refl _, HK.out.2.1, HK.out.1⟩, by show mk M a = 2; rw [HMm.out]; simpa using e⟩
    · refine on_begun ?_
      have := HK.out.1 a
      rw [HMm.out] at this ⊢
      simp at e h0
      omega
theorem ends_all (hin : InP T) (hT : T.length ≤ 256) : ∀ (n : Nat) (U : List Nat), U.length ≤ n → EndsOk w0 o cp T b U
  | 0, U, h => ends_step (fun a ha => by rw [List.eq_nil_of_length_eq_zero (Nat.le_zero.1 h)] at ha; cases ha) hin hT
  | n + 1, U, h => ends_step (fun a ha => ends_all hin hT n _ (by rw [List.length_erase_of_mem ha]; omega)) hin hT
end
/- Whether a table's types end. -/
theorem zS : (Try.prog.info? 110).bind (fun i => i.zero.map (·.cells)) = some (srC none 0 0 (List.replicate 256 0)).toArray := by kernel_rfl
theorem tyS : TyS Try.prog 110 257 := tyS_of Try.underlying110 rfl (by kernel_rfl)
theorem mk_zero (i : Nat) : mk (List.replicate 256 0) i = 0 := by
  unfold mk
  rw [List.getElem?_replicate]
  split <;> rfl
end Go.Proofs.Ythmldhppmpbadaa.Ty
namespace Go.Proofs.Ythmldhppmpbadaa.Ty
open Go.RowKit hiding Hid
open Go.Proofs.Ythmldhppmpbadaa.Tx Go.Proofs.Ythmldhppmpbadaa.Lx Go.Proofs.Ythmldhppmpbadaa.Tr
set_option linter.unusedVariables false
set_option linter.unusedSimpArgs false
set_option maxRecDepth 100000

/- A call that turns a variable of the caller's own. -/
theorem own_call {w w1 w2 : World} {b : Nat} {cs cs' : List Value} {t : TypeId} (H : Cx w (fun _ => False) none [⟨b, cs, t⟩] [] [] w1) (hg : w1.grownBy w2 (some b)) (hb : w2.heap[b]? = some (.cells cs'.toArray t (0, 0))) : Cx w (fun _ => False) none [⟨b, cs', t⟩] [] [] w2 :=
  ⟨grown_then H.grown hg (fun y e => by cases e; exact .inr ((H.old _ (.head _)).resolve_right (by simp))), fun p hp => by rw [List.mem_singleton] at hp; subst hp; exact hb, fun p hp => by rw [List.mem_singleton] at hp; subst hp; exact H.old ⟨b, cs, t⟩ (.head _), List.pairwise_singleton _ _, by simp, by simp, List.Pairwise.nil, by simp, by simp⟩
theorem cov_all (M : List Int) : Cov (List.range 256) M := fun i hi _ => List.mem_range.2 hi
set_option maxHeartbeats 8000000 in
theorem none_at {w : World} {o : Option Addr} {T : List Tt} (cp : Nat) (H : Tab w o T) (hin : InP T) (hT : T.length ≤ 256) : Calls Try.prog 62 #[.slice o T.length cp] w fun e w' => ∃ c, e = .returned (.bool c) ∧ w.grownBy w' none ∧ (c = true ↔ ∃ r, RankOf T r) := by
  have HE := hide (fun b => ends_all (w0 := w) (o := o) (cp := cp) (b := b) hin hT 256 (List.range 256) (by rw [List.length_range]; exact Nat.le_refl _))
  have HT := hide H
  have HC := hide (Cx.start w (fun _ => False))
  have k0 : (T.length : Int) ≤ 256 := by omega
  clear H hin
  go_enter Try.func62, Try.ntmps62
  go_wp2_with (first | (refine at_alloc 110 rfl ?_; refine wl_alloc rfl 110 rfl _ zS HC.out ?_; intro b w' hn hc; (replace HC := hide hc; clear hc)) | (refine at_store 110 rfl ?_; refine wl_store (us := srC o T.length cp (List.replicate 256 0)) rfl 110 _ _ rfl rfl rfl tyS.sz rfl HC.out (by repeat (first | exact List.Mem.head _ | apply List.Mem.tail)) (by exact PutS.all _ _ rfl) (by repeat (first | exact Upd.here _ _ _ | apply Upd.there)) ?_; intro w' hc; (replace HC := hide hc; clear hc)))
  go_loopw [9] (fun iv W => ∃ (i : Nat) (M : List Int), i ≤ T.length ∧ iv = .int .i64 i ∧ Hid (Dn T M ∧ Vm M ∧ (∀ k, mk M k ≠ 1) ∧ (∀ k, k < i → mk M k = 2) ∧ M.length = 256) ∧ Hid (Cx w (fun _ => False) none [⟨b, srC o T.length cp M, 110⟩] [] [] W)) (fun iv _ => T.length - (intOf iv).toNat)
  case atStart => exact ⟨0, _, by omega, rfl, hide ⟨⟨fun _ => 0, (fun i x hx e => by rw [mk_zero] at e; cases e)⟩, fun i => .inl (mk_zero i), (fun k e => by rw [mk_zero] at e; cases e), (fun k hk => by omega), List.length_replicate⟩, HC⟩
  case round =>
    clear HC
    obtain ⟨i, M, hi, rfl, HA, HC⟩ := hrel
    by_cases hlt : i < T.length
    · have j1 : (i : Int) < T.length := by omega
      have HJ := hide hlt
      go_wp2_with (go_at_call 98; refine (HE.out b M _ i ⟨HT.out, HC.out.grown, (HC.out.old _ (.head _)).resolve_right (by simp), HC.out.loc ⟨b, srC o T.length cp M, 110⟩ (by repeat (first | exact List.Mem.head _ | apply List.Mem.tail)), HA.out.2.2.2.2⟩ HJ.out HA.out.2.1 HA.out.1 (cov_all M)).mono ?_; rintro e w2 ⟨c, M', rfl, hg, hs, hy, hn⟩; have HG := hide hg; have HZ := hide hs; have HC1 := hide (own_call HC.out hg hs.blk); cases c <;> (first | (have HQ := hide (hy rfl); clear hy hn hg hs) | (have HN := hide (hn rfl); clear hy hn hg hs)))
      · go_ret
        refine ⟨false, rfl, HC1.out.grown, fun e => (by cases e), fun ⟨r, hr⟩ => (HN.out r hr (fun k e => absurd e (HA.out.2.2.1 k))).elim⟩
      · refine ⟨⟨i + 1, M', by omega, by go_num, hide ⟨HQ.out.1.dn, HQ.out.1.vm, fun k e => HA.out.2.2.1 k ((HQ.out.1.le.one k).2 e), fun k hk => ?_, HZ.out.len⟩, hide ?_⟩, by simp [intOf]; omega⟩
        · by_cases e : k = i
          · rw [e]; exact HQ.out.2
          · exact HQ.out.1.le.two k (HA.out.2.2.2.1 k (by omega))
        · exact HC1.out
    · obtain rfl : i = T.length := by omega
      go_wp2
      go_ret
      exact ⟨true, rfl, HC.out.grown, fun _ => rank_of_dn HA.out.1 HA.out.2.2.2.1, fun _ => rfl⟩
end Go.Proofs.Ythmldhppmpbadaa.Ty
