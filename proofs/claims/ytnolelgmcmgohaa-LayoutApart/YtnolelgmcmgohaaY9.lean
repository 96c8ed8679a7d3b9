/-
  Layout, the document's own (package spinetref14): a record's field types; a sizer in memory.
  Layout, the document's own (package spinetref14): where things of types lie.
  Layout, the document's own (package spinetref14): sizes, whole.
-/
import Derived.Test.YtnolelgmcmgohaaLy7
import Derived.Test.YtnolelgmcmgohaaTg26
import Derived.Test.YtnolelgmcmgohaaY8
namespace Go.Proofs.Ytnolelgmcmgohaa.Ty
open Go.RowKit hiding Hid
open Go.Proofs.Ytnolelgmcmgohaa.Tx Go.Proofs.Ytnolelgmcmgohaa.Lx Go.Proofs.Ytnolelgmcmgohaa.Tr
set_option linter.unusedVariables false
set_option linter.unusedSimpArgs false
set_option maxRecDepth 100000

theorem row_clsB {w : World} {b0 k : Nat} {e : TypeId} {v : Value} {n : Nat} {xs : List Value} (h : w.ownsRow b0 e k v n xs) : ∃ o c, v = .slice o n c ∧ Cls w o xs ∧ ∀ ad, o = some ad → b0 ≤ ad.block := by
  have hc := fun g hg => h.cells (g := g) hg
  rcases h.2 with ⟨rfl, rfl⟩ | ⟨g, cap, cur, rfl, hbg, hgg, hcap, _⟩
  · have hl : xs = [] := List.eq_nil_of_length_eq_zero (by simpa using h.1)
    exact ⟨none, 0, rfl, fun j u hu => by rw [hl] at hu; simp at hu, fun ad e => by cases e⟩
  · exact ⟨_, cap, rfl, fun j u hu => ⟨_, rfl, hc g rfl j u hu⟩, fun ad e => by cases e; exact hbg⟩
def FdsO (w : World) (x : Tt) (e : Ending) (w' : World) : Prop := ∃ o c, e = .returned (.slice o x.fl.length c) ∧ w.grownBy w' none ∧ Cls w' o ((flT x).map (Value.int .i64)) ∧ ∀ ad, o = some ad → w.heap.size ≤ ad.block
set_option maxHeartbeats 8000000 in
theorem fields_of {w : World} {la : La} (h : Lp w la) (h64 : la.x.fl.length ≤ 64) : Calls Try.prog 54 #[.agg (laC la).toArray] w (FdsO w la.x) := by
  obtain ⟨⟨fm, md, nm, ln, el, ba, fl, pm, rs, ds⟩, fo, fc, po, pc⟩ := la
  have h1 := h.fl
  dsimp only at h1 h64
  have HF := hide h1
  have k0 : (fl.length : Int) ≤ 64 := by omega
  have HC := hide (Cx.start w (fun _ => False))
  unfold laC
  dsimp only
  clear h h1 h64
  go_enter Try.func54, Try.ntmps54
  go_wp2_with (first | (refine at_box 32 rfl ?_; refine wl_box rfl 32 _ rfl _ rfl HC.out ?_; intro bb w' hn hc; (replace HC := hide hc; clear hc)))
  replace HC := hide (HC.out.row_nil 3 1)
  go_loopw [3, 4] (fun ov iv W => ∃ (i : Nat) (oc : Option Addr) (cc : Nat), i ≤ fl.length ∧ iv = .int .i64 i ∧ ov = .slice oc i cc ∧ Hid (Cx w (fun _ => False) none [⟨bb, [.int .i64 fm, .string (bs md), .string (bs nm), .int .i64 ln, .int .i64 el, .int .i64 ba, .slice fo fl.length fc, .slice po pm.length pc, .int .i64 rs, .int .i64 ds], 32⟩] [⟨.slice oc i cc, 3, 1, i, (((fl.map (·.t)).take i)).map (Value.int .i64)⟩] [] W)) (fun _ iv _ => fl.length - (intOf iv).toNat)
  case atStart => exact ⟨0, none, 0, by omega, rfl, rfl, HC⟩
  case round =>
    clear HC
    obtain ⟨i, oc, cc, hi, rfl, rfl, HC⟩ := hrel
    by_cases hlt : i < fl.length
    · have j1 : (i : Int) < fl.length := by omega
      obtain ⟨⟨n, x, t⟩, hxi⟩ : ∃ p, fl[i]? = some p := ⟨fl[i], List.getElem?_eq_getElem hlt⟩
      have ht := fl_t hxi
      obtain ⟨pd, rfl, hel⟩ := HF.out.el flC_len (by decide) hxi
      obtain ⟨B3, hB3⟩ : ∃ B, pd.add (i * 3) = B := ⟨_, rfl⟩
      rw [hB3] at hel
      obtain ⟨g0, g1, g2⟩ := three_c (fun j u hu => HC.out.grown.cell (hel j u hu) (by simp))
      dsimp only at g2
      have bl := block_lt_of_cell g2
      have HRow := hide (show ((fl.map (·.t)).take i).map (Value.int .i64) ++ [.int .i64 t] = ((fl.map (·.t)).take (i + 1)).map (Value.int .i64) by rw [List.take_add_one, ht, Option.toList_some, List.map_append]; rfl)
      clear hel hxi ht g0 g1
      go_wp2_with (first | (refine at_load 29 rfl ?_; refine wl_load_c rfl 29 _ rfl tcLF rfl HC.out (by repeat (first | exact List.Mem.head _ | apply List.Mem.tail)) (by repeat (first | exact GetS.cons _ (GetS.nil _) | apply GetS.skip)) ?_) | (refine at_bs 42 rfl ?_; refine wl_bl rfl 42 _ _ rfl 3 [.int .i64 t] HC.out (by kernel_rfl) ?_; intro bx w' hn hc; (replace HC := hide hc; clear hc)) | (refine wl_ap rfl _ _ rfl Try.underlying42 infoI (by decide) (by decide) rfl rfl HC.out rfl rfl (by omega) ?_; intro d9 cp9 w' hc; (replace HC := hide hc; clear hc)))
      rw [HRow.out] at HC
      exact ⟨⟨i + 1, d9, cp9, by omega, by go_num, rfl, HC⟩, by simp [intOf]; omega⟩
    · have HIe := hide (show i = fl.length by omega)
      have q1 : ¬ (i : Int) < fl.length := by omega
      clear hlt
      go_wp2_with (first | (refine at_load 29 rfl ?_; refine wl_load_c rfl 29 _ rfl tcLF rfl HC.out (by repeat (first | exact List.Mem.head _ | apply List.Mem.tail)) (by repeat (first | exact GetS.cons _ (GetS.nil _) | apply GetS.skip)) ?_))
      go_ret
      have hr := HC.out.row _ (.head _)
      dsimp only at hr
      rw [HIe.out, List.take_of_length_le (by rw [List.length_map]; exact Nat.le_refl _)] at hr
      obtain ⟨o9, c9, e9, h9, h10⟩ := row_clsB hr
      cases e9
      exact ⟨oc, cc, by rw [HIe.out]; rfl, HC.out.grown, h9, h10⟩
/- A sizer: its table, and the sizes that it keeps. -/
def szC (o : Option Addr) (n cp g : Nat) : List Value := [.slice o n cp, .slice (some ⟨g, 0, none⟩) n n]
structure Zk (w0 : World) (o : Option Addr) (cp : Nat) (T : List Tt) (s : Int → Int) (b g : Nat) (M : List Int) (w : World) : Prop where
  tab : Tab w0 o T
  gr : w0.grownBy w none
  nb : w0.heap.size ≤ b
  ng : w0.heap.size ≤ g
  ne : b ≠ g
  head : w.heap[b]? = some (.cells (szC o T.length cp g).toArray 92 (0, 0))
  blk : w.heap[g]? = some (.cells (stC M).toArray 3 (0, 0))
  len : M.length = T.length
  ok : ∀ i : Nat, i < T.length → mk M i = 0 ∨ mk M i = s i + 1
def ZkO (w0 : World) (o : Option Addr) (cp : Nat) (T : List Tt) (s : Int → Int) (b g : Nat) (w : World) (v : Value) (e : Ending) (w' : World) : Prop :=
  ∃ M, e = .returned v ∧ w.grownBy w' (some g) ∧ Zk w0 o cp T s b g M w'
section
variable {w0 : World} {o : Option Addr} {cp : Nat} {T : List Tt} {s : Int → Int} {b g : Nat}
theorem Zk.cx {M : List Int} {w : World} (H : Zk w0 o cp T s b g M w) (A : Nat → Prop) : Cx w A (some g) [⟨g, stC M, 3⟩] [] [] w :=
  ⟨grown_refl w _, fun p hp => by rw [List.mem_singleton] at hp; subst hp; exact H.blk, fun p hp => by rw [List.mem_singleton] at hp; subst hp; exact .inr rfl, List.pairwise_singleton _ _, by simp, by simp, List.Pairwise.nil, by simp, fun x e => by cases e; exact (Array.getElem?_eq_some_iff.1 H.blk).1⟩
theorem Zk.next {M M' : List Int} {w w' : World} (H : Zk w0 o cp T s b g M w) (hg : w.grownBy w' (some g)) (hb : w'.heap[g]? = some (.cells (stC M').toArray 3 (0, 0))) (h1 : M'.length = T.length) (h2 : ∀ i : Nat, i < T.length → Ty.mk M' i = 0 ∨ Ty.mk M' i = s i + 1) : Zk w0 o cp T s b g M' w' :=
  ⟨H.tab, grown_then H.gr hg (fun y e => by cases e; exact .inr H.ng), H.nb, H.ng, H.ne, by rw [hg.block b (Array.getElem?_eq_some_iff.1 H.head).1 (fun e => H.ne (by simpa using e))]; exact H.head, hb, h1, h2⟩
theorem Zk.stay {M : List Int} {w w' : World} (H : Zk w0 o cp T s b g M w) (hg : w.grownBy w' (some g)) (hb : w'.heap[g]? = some (.cells (stC M).toArray 3 (0, 0))) : Zk w0 o cp T s b g M w' := H.next hg hb H.len H.ok
theorem zk_two {M : List Int} {w : World} (H : Zk w0 o cp T s b g M w) : w.cell? ⟨b, 0, none⟩ = some (.slice o T.length cp) ∧ w.cell? ⟨b, 1, none⟩ = some (.slice (some ⟨g, 0, none⟩) T.length T.length) := ⟨by rw [cell_of_row _ _ _ _ _ _ H.head]; rfl, by rw [cell_of_row _ _ _ _ _ _ H.head]; rfl⟩
theorem zk_cell {M : List Int} {w : World} (H : Zk w0 o cp T s b g M w) {a : Nat} (h : a < T.length) : w.cell? ⟨g, a, none⟩ = some (.int .i64 (mk M a)) := by
  rw [cell_of_row _ _ _ _ _ _ H.blk]
  simpa using st_get (M := M) (by rw [H.len]; exact h)
end
def NszO (w : World) (o : Option Addr) (cp : Nat) (T : List Tt) (s : Int → Int) (e : Ending) (w' : World) : Prop := ∃ b g M, e = .returned (.pointer (some ⟨b, 0, none⟩)) ∧ w.grownBy w' none ∧ Zk w o cp T s b g M w'
set_option maxHeartbeats 4000000 in
theorem newSizer_at {w : World} {o : Option Addr} {T : List Tt} (cp : Nat) (s : Int → Int) (H : Tab w o T) (hT : T.length ≤ 256) : Calls Try.prog 50 #[.slice o T.length cp] w (NszO w o cp T s) := by
  have HT := hide H
  have p256 : (T.length : Int) ≤ 256 := by omega
  obtain ⟨ti, tz, t1, t2, t3, t4, t5⟩ := mkI
  have HM := hide (And.intro t1 (And.intro t2 (And.intro t3 (And.intro t4 t5))))
  have HC := hide (Cx.start w (fun _ => False))
  clear H t1 t2 t3 t4 t5 hT
  go_enter Try.func50, Try.ntmps50
  go_wp2_with (first | (refine at_mks 42 rfl ?_; refine wl_mks rfl 42 _ _ rfl Try.underlying42 HM.out.1 HM.out.2.1 T.length rfl rfl (by rw [HM.out.2.2.2.1]; omega) (by rw [HM.out.2.2.1]; omega) (by omega) (stC (List.replicate T.length 0)) (by rw [HM.out.2.2.1]; exact made_0 HM.out.2.2.2.2 _) HC.out ?_; intro g w' hn hc; (replace HC := hide hc; clear hc)) | (refine at_box 92 rfl ?_; refine wl_box rfl 92 _ rfl _ rfl HC.out ?_; intro b w' hn hc; (replace HC := hide hc; clear hc)))
  go_ret
  have h1 := HC.out.loc ⟨b, szC o T.length cp g, 92⟩ (.head _)
  have h2 := HC.out.loc ⟨g, stC (List.replicate T.length 0), 3⟩ (.tail _ (.head _))
  have z : ∀ i, mk (List.replicate T.length 0) i = 0 := fun i => by unfold mk; rw [List.getElem?_replicate]; split <;> rfl
  exact ⟨b, g, List.replicate T.length 0, rfl, HC.out.grown, HT.out, HC.out.grown, (HC.out.old _ (.head _)).resolve_right (by simp), (HC.out.old _ (.tail _ (.head _))).resolve_right (by simp), (List.pairwise_cons.1 HC.out.dis).1 _ (.head _), h1, h2, List.length_replicate, fun i _ => .inl (z i)⟩
end Go.Proofs.Ytnolelgmcmgohaa.Ty
namespace Go.Proofs.Ytnolelgmcmgohaa.Ty
open Go.RowKit hiding Hid
open Go.Proofs.Ytnolelgmcmgohaa.Tx Go.Proofs.Ytnolelgmcmgohaa.Lx Go.Proofs.Ytnolelgmcmgohaa.Tr
set_option linter.unusedVariables false
set_option linter.unusedSimpArgs false
set_option maxRecDepth 100000

section
variable {w0 : World} {ad : Addr} {cp : Nat} {T : List Tt} {s : Int → Int} {b g : Nat}
def ZsOk (w0 : World) (o : Option Addr) (cp : Nat) (T : List Tt) (s : Int → Int) (b g : Nat) (r : Nat → Nat) (k : Nat) : Prop := ∀ (M : List Int) (w : World) (a : Nat), Zk w0 o cp T s b g M w → a < T.length → r a < k →
  Calls Try.prog 51 #[.pointer (some ⟨b, 0, none⟩), .int .i64 a] w (ZkO w0 o cp T s b g w (.int .i64 (s a)))
def LdO (w0 : World) (o : Option Addr) (cp : Nat) (T : List Tt) (s : Int → Int) (b g : Nat) (w : World) (l : List Int) (E : Int) (e : Ending) (w' : World) : Prop :=
  ∃ M oo cc, e = .returned (.tuple #[.slice oo l.length cc, .int .i64 (layC s E l)]) ∧ w.grownBy w' (some g) ∧ Zk w0 o cp T s b g M w' ∧ Cls w' oo ((atsC s E l).map (Value.int .i64))
/- The forms of a good table's places: just the two are packed. -/
def PkF (T : List Tt) : Prop := ∀ i : Nat, i < T.length → packF (i : Int) = (fmA T (i : Int) == 2 || fmA T (i : Int) == 3)
theorem GoodP.pkF {T : List Tt} (G : GoodP T) : PkF T := fun i hi => by
  obtain ⟨x, hx⟩ : ∃ x, T[i]? = some x := ⟨T[i], List.getElem?_eq_getElem hi⟩
  rw [fmA_at hx]
  unfold packF
  by_cases h7 : i < 7
  · rw [(G.loc.form h7 hx).1]
  · have h1 := parts_fm (G.loc.oth i x (by omega) hx).2
    have a1 : ((i : Int) == 2) = false := by simp; omega
    have a2 : ((i : Int) == 3) = false := by simp; omega
    have a3 : (x.fm == 2) = false := by simp; omega
    have a4 : (x.fm == 3) = false := by simp; omega
    rw [a1, a2, a3, a4]
theorem layC_min (s : Int → Int) (hs : ∀ a, 0 ≤ s a) (l : List Int) (E : Int) : 0 ≤ E → 0 ≤ layC s E l := fun h => by
  rcases Int.le_total E 32772 with h2 | h2
  · exact (layC_bd hs l E h h2).1
  · cases l with
    | nil => exact h
    | cons a l => rw [layC]; have := atF_le E a; have := hs a; exact (layC_bd hs l _ (by omega) (by omega)).1
theorem int_at {W : World} {lo : Option Addr} {l : List Int} (h : Cls W lo (l.map (Value.int .i64))) {i : Nat} {a : Int} (ha : l[i]? = some a) : ∃ p, lo = some p ∧ W.cell? (p.add i) = some (.int .i64 a) := h i (.int .i64 a) (by rw [List.getElem?_map, ha]; rfl)
set_option maxHeartbeats 16000000 in
theorem laid_at {r : Nat → Nat} {k : Nat} (hZ : ZsOk w0 (some ad) cp T s b g r k) (hP : PkF T) (hs0 : ∀ a, 0 ≤ s a) (hs1 : ∀ a, s a ≤ 32769) (hT : T.length ≤ 256) {M : List Int} {w : World} (H : Zk w0 (some ad) cp T s b g M w) {lo : Option Addr} (lc : Nat) {l : List Int} (hlo : ∀ W, w.grownBy W (some g) → Cls W lo (l.map (Value.int .i64))) (hln : l.length ≤ 1000) (hin : ∀ a ∈ l, 0 ≤ a ∧ a < T.length ∧ r a.toNat < k) (E : Int) (hE0 : 0 ≤ E) (hE1 : E ≤ 32772) :
    Calls Try.prog 53 #[.pointer (some ⟨b, 0, none⟩), .slice lo l.length lc, .int .i64 E] w (LdO w0 (some ad) cp T s b g w l E) := by
  have HZ := hide hZ
  have HZk := hide H
  have HS := hide H
  have HPk := hide hP
  have H0 := hide hs0
  have H1 := hide hs1
  have HIn := hide hin
  have HLo0 := hide hlo
  have HBd := hide (fun i => layC_bd hs0 (l.take i) E hE0 hE1)
  have kl : (l.length : Int) ≤ 1000 := by omega
  have kT : (T.length : Int) ≤ 256 := by omega
  have HC := hide (H.cx (fun _ => False))
  clear hZ H hP hs0 hs1 hin hlo hE0 hE1 hln hT
  go_enter Try.func53, Try.ntmps53
  go_wp2
  replace HC := hide (HC.out.row_nil 3 1)
  go_loopw [2, 8, 9] (fun ev ov iv W => ∃ (i : Nat) (E1 : Int) (oc : Option Addr) (cc : Nat) (M1 : List Int), i ≤ l.length ∧ iv = .int .i64 i ∧ ev = .int .i64 E1 ∧ ov = .slice oc i cc ∧ Hid (E1 = layC s E (l.take i)) ∧ Hid (Zk w0 (some ad) cp T s b g M1 W) ∧ Hid (Cx w (fun _ => False) (some g) [⟨g, stC M1, 3⟩] [⟨.slice oc i cc, 3, 1, i, (atsC s E (l.take i)).map (Value.int .i64)⟩] [] W)) (fun _ _ iv _ => l.length - (intOf iv).toNat)
  case atStart => exact ⟨0, E, none, 0, M, by omega, rfl, rfl, rfl, hide rfl, HS, HC⟩
  case round =>
    clear HC HS
    obtain ⟨i, E1, oc, cc, M1, hi, rfl, rfl, rfl, HE, HS, HC⟩ := hrel
    by_cases hlt : i < l.length
    · have j1 : (i : Int) < l.length := by omega
      obtain ⟨a, ha⟩ : ∃ a, l[i]? = some a := ⟨l[i], List.getElem?_eq_getElem hlt⟩
      obtain ⟨q0, q1, q2⟩ := HIn.out a (List.mem_of_getElem? ha)
      obtain ⟨q, rfl⟩ := Int.eq_ofNat_of_zero_le q0
      rw [Int.toNat_natCast] at q2
      have HJ := hide (show q < T.length by omega)
      have HR := hide q2
      obtain ⟨p, rfl, _⟩ := int_at (HLo0.out w (gr_ref _ _)) ha
      have HLo := hide (fun W (hW : w.grownBy W (some g)) => int_at (HLo0.out W hW) ha)
      obtain ⟨A, hA⟩ : ∃ A, p.add i = A := ⟨_, rfl⟩
      have HLc := hide (show ∀ W, w.grownBy W (some g) → W.cell? A = some (.int .i64 (q : Int)) from fun W hW => by
        obtain ⟨p', e, h⟩ := HLo.out W hW
        cases e
        rw [hA] at h
        exact h)
      obtain ⟨c0, c1⟩ := zk_two HS.out
      have e2 := HLc.out _ HC.out.grown
      have bl1 := block_lt_of_cell e2
      have bl0 := block_lt_of_cell c0
      have kq : (q : Int) < T.length := by omega
      obtain ⟨B, hB⟩ : ∃ B, ad.add (q * 10) = B := ⟨_, rfl⟩
      have f0 := cell_form HS.out.tab HS.out.gr HJ.out hB
      have bl2 := block_lt_of_cell f0
      have hpk := HPk.out q HJ.out
      obtain ⟨f, hf⟩ : ∃ f, fmA T (q : Int) = f := ⟨_, rfl⟩
      rw [hf] at f0 hpk
      have hb := HBd.out i
      rw [← HE.out] at hb
      obtain ⟨b0, b1⟩ := hb
      have v0 := H0.out (q : Int)
      have v1 := H1.out (q : Int)
      obtain ⟨V, hV⟩ : ∃ V, s (q : Int) = V := ⟨_, rfl⟩
      rw [hV] at v0 v1
      have HVs := hide hV
      obtain ⟨V1, hV1⟩ : ∃ v, atF E1 (q : Int) = v := ⟨_, rfl⟩
      have p0 := atF_le E1 (q : Int)
      have p1 := atF_lt E1 (q : Int)
      rw [hV1] at p0 p1
      obtain ⟨V2, hV2⟩ : ∃ v, min (V1 + V) 32772 = v := ⟨_, rfl⟩
      have HNx := hide (show V2 = layC s E (l.take (i + 1)) by rw [layC_take E ha, ← HE.out, hV1, hV, hV2])
      have HRow := hide (show (atsC s E (l.take i)).map (Value.int .i64) ++ [.int .i64 V1] = (atsC s E (l.take (i + 1))).map (Value.int .i64) by rw [atsC_take E ha, ← HE.out, hV1, List.map_append]; rfl)
      clear ha q1 q2
      by_cases f2 : f = 2
      · have hp : packF (q : Int) = true := by rw [hpk, f2]; rfl
        have hv : V1 = E1 := by rw [← hV1]; unfold atF; rw [if_pos hp]
        subst hv
        subst f2
        clear hp hpk hV1 hf hV
        by_cases hm : V1 + V ≤ 32772
        · have hV2' : V2 = V1 + V := by omega
          clear hV2
          subst hV2'
          (go_wp2; go_quiet (fail); replace HC := hide (HC.out.g (drewN_g _ nq)); clear e2 c0 c1 f0; have e2 := HLc.out _ HC.out.grown; go_wp2_with (first | (go_at_call 57; refine (up_at _ _ b0 (by omega)).mono ?_; rw [HU.out]; rintro e w' ⟨rfl, hw⟩; replace hw := hw.symm; subst hw) | (refine at_bs 42 rfl ?_; refine wl_bl rfl 42 _ _ rfl 3 [.int .i64 V1] HC.out (by kernel_rfl) ?_; intro bx w' hn hc; (replace HC := hide hc; clear hc); (try clear e2); have e2 := HLc.out _ HC.out.grown) | (refine wl_ap rfl _ _ rfl Try.underlying42 infoI (by decide) (by decide) rfl rfl HC.out rfl rfl (by omega) ?_; intro d9 cp9 w' hc; (replace HC := hide hc; clear hc); (try clear e2); have e2 := HLc.out _ HC.out.grown) | (go_at_call 51; refine (HZ.out M1 _ q (HZk.out.next (M' := M1) HC.out.grown (HC.out.loc ⟨g, stC M1, 3⟩ (by repeat (first | exact List.Mem.head _ | apply List.Mem.tail))) HS.out.len HS.out.ok) HJ.out HR.out).mono ?_; rw [HVs.out]; rintro e w2 ⟨M', rfl, hg, hs⟩; replace HC := hide (HC.out.callX hg (by repeat (first | exact List.Mem.head _ | apply List.Mem.tail)) hs.blk (by repeat (first | exact Upd.here _ _ _ | apply Upd.there))); have HQ := hide hs; clear hg hs)); rw [HRow.out] at HC; exact ⟨⟨i + 1, _, d9, cp9, M', by omega, by go_num, rfl, rfl, HNx, HQ, HC⟩, by simp [intOf]; omega⟩)
        · have hV2' : V2 = 32772 := by omega
          clear hV2
          subst hV2'
          have hm' : 32772 < V1 + V := by omega
          (go_wp2; go_quiet (fail); replace HC := hide (HC.out.g (drewN_g _ nq)); clear e2 c0 c1 f0; have e2 := HLc.out _ HC.out.grown; go_wp2_with (first | (go_at_call 57; refine (up_at _ _ b0 (by omega)).mono ?_; rw [HU.out]; rintro e w' ⟨rfl, hw⟩; replace hw := hw.symm; subst hw) | (refine at_bs 42 rfl ?_; refine wl_bl rfl 42 _ _ rfl 3 [.int .i64 V1] HC.out (by kernel_rfl) ?_; intro bx w' hn hc; (replace HC := hide hc; clear hc); (try clear e2); have e2 := HLc.out _ HC.out.grown) | (refine wl_ap rfl _ _ rfl Try.underlying42 infoI (by decide) (by decide) rfl rfl HC.out rfl rfl (by omega) ?_; intro d9 cp9 w' hc; (replace HC := hide hc; clear hc); (try clear e2); have e2 := HLc.out _ HC.out.grown) | (go_at_call 51; refine (HZ.out M1 _ q (HZk.out.next (M' := M1) HC.out.grown (HC.out.loc ⟨g, stC M1, 3⟩ (by repeat (first | exact List.Mem.head _ | apply List.Mem.tail))) HS.out.len HS.out.ok) HJ.out HR.out).mono ?_; rw [HVs.out]; rintro e w2 ⟨M', rfl, hg, hs⟩; replace HC := hide (HC.out.callX hg (by repeat (first | exact List.Mem.head _ | apply List.Mem.tail)) hs.blk (by repeat (first | exact Upd.here _ _ _ | apply Upd.there))); have HQ := hide hs; clear hg hs)); rw [HRow.out] at HC; exact ⟨⟨i + 1, _, d9, cp9, M', by omega, by go_num, rfl, rfl, HNx, HQ, HC⟩, by simp [intOf]; omega⟩)
      by_cases f3 : f = 3
      · have hp : packF (q : Int) = true := by rw [hpk, f3]; rfl
        have hv : V1 = E1 := by rw [← hV1]; unfold atF; rw [if_pos hp]
        subst hv
        subst f3
        clear hp hpk hV1 hf hV
        by_cases hm : V1 + V ≤ 32772
        · have hV2' : V2 = V1 + V := by omega
          clear hV2
          subst hV2'
          (go_wp2; go_quiet (fail); replace HC := hide (HC.out.g (drewN_g _ nq)); clear e2 c0 c1 f0; have e2 := HLc.out _ HC.out.grown; go_wp2_with (first | (go_at_call 57; refine (up_at _ _ b0 (by omega)).mono ?_; rw [HU.out]; rintro e w' ⟨rfl, hw⟩; replace hw := hw.symm; subst hw) | (refine at_bs 42 rfl ?_; refine wl_bl rfl 42 _ _ rfl 3 [.int .i64 V1] HC.out (by kernel_rfl) ?_; intro bx w' hn hc; (replace HC := hide hc; clear hc); (try clear e2); have e2 := HLc.out _ HC.out.grown) | (refine wl_ap rfl _ _ rfl Try.underlying42 infoI (by decide) (by decide) rfl rfl HC.out rfl rfl (by omega) ?_; intro d9 cp9 w' hc; (replace HC := hide hc; clear hc); (try clear e2); have e2 := HLc.out _ HC.out.grown) | (go_at_call 51; refine (HZ.out M1 _ q (HZk.out.next (M' := M1) HC.out.grown (HC.out.loc ⟨g, stC M1, 3⟩ (by repeat (first | exact List.Mem.head _ | apply List.Mem.tail))) HS.out.len HS.out.ok) HJ.out HR.out).mono ?_; rw [HVs.out]; rintro e w2 ⟨M', rfl, hg, hs⟩; replace HC := hide (HC.out.callX hg (by repeat (first | exact List.Mem.head _ | apply List.Mem.tail)) hs.blk (by repeat (first | exact Upd.here _ _ _ | apply Upd.there))); have HQ := hide hs; clear hg hs)); rw [HRow.out] at HC; exact ⟨⟨i + 1, _, d9, cp9, M', by omega, by go_num, rfl, rfl, HNx, HQ, HC⟩, by simp [intOf]; omega⟩)
        · have hV2' : V2 = 32772 := by omega
          clear hV2
          subst hV2'
          have hm' : 32772 < V1 + V := by omega
          (go_wp2; go_quiet (fail); replace HC := hide (HC.out.g (drewN_g _ nq)); clear e2 c0 c1 f0; have e2 := HLc.out _ HC.out.grown; go_wp2_with (first | (go_at_call 57; refine (up_at _ _ b0 (by omega)).mono ?_; rw [HU.out]; rintro e w' ⟨rfl, hw⟩; replace hw := hw.symm; subst hw) | (refine at_bs 42 rfl ?_; refine wl_bl rfl 42 _ _ rfl 3 [.int .i64 V1] HC.out (by kernel_rfl) ?_; intro bx w' hn hc; (replace HC := hide hc; clear hc); (try clear e2); have e2 := HLc.out _ HC.out.grown) | (refine wl_ap rfl _ _ rfl Try.underlying42 infoI (by decide) (by decide) rfl rfl HC.out rfl rfl (by omega) ?_; intro d9 cp9 w' hc; (replace HC := hide hc; clear hc); (try clear e2); have e2 := HLc.out _ HC.out.grown) | (go_at_call 51; refine (HZ.out M1 _ q (HZk.out.next (M' := M1) HC.out.grown (HC.out.loc ⟨g, stC M1, 3⟩ (by repeat (first | exact List.Mem.head _ | apply List.Mem.tail))) HS.out.len HS.out.ok) HJ.out HR.out).mono ?_; rw [HVs.out]; rintro e w2 ⟨M', rfl, hg, hs⟩; replace HC := hide (HC.out.callX hg (by repeat (first | exact List.Mem.head _ | apply List.Mem.tail)) hs.blk (by repeat (first | exact Upd.here _ _ _ | apply Upd.there))); have HQ := hide hs; clear hg hs)); rw [HRow.out] at HC; exact ⟨⟨i + 1, _, d9, cp9, M', by omega, by go_num, rfl, rfl, HNx, HQ, HC⟩, by simp [intOf]; omega⟩)
      · have n2 : (f != 2) = true := by simpa using f2
        have n3 : (f != 3) = true := by simpa using f3
        have hp : packF (q : Int) = false := by rw [hpk]; simp [f2, f3]
        have hv : V1 = up4 E1 := by rw [← hV1]; unfold atF; rw [hp]; rfl
        have HU := hide hv.symm
        clear hp hpk hV1 hf hV hv f2 f3
        by_cases hm : V1 + V ≤ 32772
        · have hV2' : V2 = V1 + V := by omega
          clear hV2
          subst hV2'
          (go_wp2; go_quiet (fail); replace HC := hide (HC.out.g (drewN_g _ nq)); clear e2 c0 c1 f0; have e2 := HLc.out _ HC.out.grown; go_wp2_with (first | (go_at_call 57; refine (up_at _ _ b0 (by omega)).mono ?_; rw [HU.out]; rintro e w' ⟨rfl, hw⟩; replace hw := hw.symm; subst hw) | (refine at_bs 42 rfl ?_; refine wl_bl rfl 42 _ _ rfl 3 [.int .i64 V1] HC.out (by kernel_rfl) ?_; intro bx w' hn hc; (replace HC := hide hc; clear hc); (try clear e2); have e2 := HLc.out _ HC.out.grown) | (refine wl_ap rfl _ _ rfl Try.underlying42 infoI (by decide) (by decide) rfl rfl HC.out rfl rfl (by omega) ?_; intro d9 cp9 w' hc; (replace HC := hide hc; clear hc); (try clear e2); have e2 := HLc.out _ HC.out.grown) | (go_at_call 51; refine (HZ.out M1 _ q (HZk.out.next (M' := M1) HC.out.grown (HC.out.loc ⟨g, stC M1, 3⟩ (by repeat (first | exact List.Mem.head _ | apply List.Mem.tail))) HS.out.len HS.out.ok) HJ.out HR.out).mono ?_; rw [HVs.out]; rintro e w2 ⟨M', rfl, hg, hs⟩; replace HC := hide (HC.out.callX hg (by repeat (first | exact List.Mem.head _ | apply List.Mem.tail)) hs.blk (by repeat (first | exact Upd.here _ _ _ | apply Upd.there))); have HQ := hide hs; clear hg hs)); rw [HRow.out] at HC; exact ⟨⟨i + 1, _, d9, cp9, M', by omega, by go_num, rfl, rfl, HNx, HQ, HC⟩, by simp [intOf]; omega⟩)
        · have hV2' : V2 = 32772 := by omega
          clear hV2
          subst hV2'
          have hm' : 32772 < V1 + V := by omega
          (go_wp2; go_quiet (fail); replace HC := hide (HC.out.g (drewN_g _ nq)); clear e2 c0 c1 f0; have e2 := HLc.out _ HC.out.grown; go_wp2_with (first | (go_at_call 57; refine (up_at _ _ b0 (by omega)).mono ?_; rw [HU.out]; rintro e w' ⟨rfl, hw⟩; replace hw := hw.symm; subst hw) | (refine at_bs 42 rfl ?_; refine wl_bl rfl 42 _ _ rfl 3 [.int .i64 V1] HC.out (by kernel_rfl) ?_; intro bx w' hn hc; (replace HC := hide hc; clear hc); (try clear e2); have e2 := HLc.out _ HC.out.grown) | (refine wl_ap rfl _ _ rfl Try.underlying42 infoI (by decide) (by decide) rfl rfl HC.out rfl rfl (by omega) ?_; intro d9 cp9 w' hc; (replace HC := hide hc; clear hc); (try clear e2); have e2 := HLc.out _ HC.out.grown) | (go_at_call 51; refine (HZ.out M1 _ q (HZk.out.next (M' := M1) HC.out.grown (HC.out.loc ⟨g, stC M1, 3⟩ (by repeat (first | exact List.Mem.head _ | apply List.Mem.tail))) HS.out.len HS.out.ok) HJ.out HR.out).mono ?_; rw [HVs.out]; rintro e w2 ⟨M', rfl, hg, hs⟩; replace HC := hide (HC.out.callX hg (by repeat (first | exact List.Mem.head _ | apply List.Mem.tail)) hs.blk (by repeat (first | exact Upd.here _ _ _ | apply Upd.there))); have HQ := hide hs; clear hg hs)); rw [HRow.out] at HC; exact ⟨⟨i + 1, _, d9, cp9, M', by omega, by go_num, rfl, rfl, HNx, HQ, HC⟩, by simp [intOf]; omega⟩)
    · have HIe := hide (show i = l.length by omega)
      have q1 : ¬ (i : Int) < l.length := by omega
      clear hlt
      go_wp2
      refine bodyPost_ret (v := .tuple #[.slice oc i cc, .int .i64 E1]) (by simp [results, Try.results53, go_sem]) rfl ?_
      have hE := HE.out
      have hr := HC.out.row _ (.head _)
      dsimp only at hr
      rw [HIe.out, List.take_of_length_le (Nat.le_refl _)] at hE hr
      obtain ⟨o9, c9, e9, h9⟩ := row_cls hr
      cases e9
      exact ⟨M1, oc, cc, by rw [hE, HIe.out], HC.out.grown, HS.out, h9⟩
end
end Go.Proofs.Ytnolelgmcmgohaa.Ty
namespace Go.Proofs.Ytnolelgmcmgohaa.Ty
open Go.RowKit hiding Hid
open Go.Proofs.Ytnolelgmcmgohaa.Tx Go.Proofs.Ytnolelgmcmgohaa.Lx Go.Proofs.Ytnolelgmcmgohaa.Tr
set_option linter.unusedVariables false
set_option linter.unusedSimpArgs false
set_option maxRecDepth 100000

section
variable {w0 : World} {ad : Addr} {cp : Nat} {T : List Tt} {s : Int → Int} {b g : Nat}
theorem zk_set {M : List Int} {a : Nat} {v : Int} (ha : a < M.length) (ok : ∀ i : Nat, i < T.length → mk M i = 0 ∨ mk M i = s i + 1) (hv : v = s (a : Int)) : ∀ i : Nat, i < T.length → mk (M.set a (v + 1)) i = 0 ∨ mk (M.set a (v + 1)) i = s i + 1 := fun i hi => by
  rw [mk_set ha]
  by_cases e : i = a
  · subst e; rw [if_pos rfl, hv]; exact .inr rfl
  · rw [if_neg e]; exact ok i hi
theorem cap_lay {s : Int → Int} (hs : ∀ a, 0 ≤ s a) (l : List Int) (e : Int) : min (up4 (layC s e l)) 32769 = capS (up4 (layE s e l)) := by
  have := layC_is hs l e
  unfold capS up4
  omega
set_option maxHeartbeats 16000000 in
theorem zsz_plain {M : List Int} {w : World} {a : Nat} (H : Zk w0 (some ad) cp T s b g M w) (ha : a < T.length) (hT : T.length ≤ 256) (h0 : mk M a = 0) {x : Tt} (hx : T[a]? = some x) (V : Int) (hV : V = s (a : Int)) (hf : (x.fm = 1 ∨ x.fm = 4 ∨ x.fm = 10 ∨ x.fm = 11) ∧ V = 4 ∨ (x.fm = 2 ∨ x.fm = 3) ∧ V = 1 ∨ ¬ (x.fm = 1 ∨ x.fm = 4 ∨ x.fm = 10 ∨ x.fm = 11 ∨ x.fm = 2 ∨ x.fm = 3 ∨ x.fm = 7 ∨ x.fm = 9) ∧ V = 0) :
    Calls Try.prog 51 #[.pointer (some ⟨b, 0, none⟩), .int .i64 a] w (ZkO w0 (some ad) cp T s b g w (.int .i64 V)) := by
  obtain ⟨ad', ⟨⟨fm, md, nm, ln, el, ba, fl, pm, rs, ds⟩, fo, fc, po, pc⟩, e1, rfl, hcl, hla⟩ := H.tab.at hx
  cases e1
  obtain ⟨B, hB⟩ : ∃ B, ad.add (a * 10) = B := ⟨_, rfl⟩
  rw [hB] at hcl
  unfold laC at hcl
  dsimp only at hcl hf
  have HEL := hide (fun W (hW : w0.grownBy W none) j u (hu : ([.int .i64 fm, .string (bs md), .string (bs nm), .int .i64 ln, .int .i64 el, .int .i64 ba, .slice fo fl.length fc, .slice po pm.length pc, .int .i64 rs, .int .i64 ds] : List Value)[j]? = some u) => hW.cell (hcl j u hu) (by simp))
  have HV := hide hV
  (have HZk := hide H; have HS := hide H; have HC := hide (H.cx (fun _ => False)); have HLt := hide (show a < M.length by rw [H.len]; exact ha); obtain ⟨c0, c1⟩ := zk_two H; have cK := zk_cell H ha; have bl0 := block_lt_of_cell c0; have blK := block_lt_of_cell cK; have k1 : (a : Int) < T.length := by omega)
  rw [h0] at cK
  clear H hcl hla hx h0 hV ha hT
  rcases hf with ⟨rfl | rfl | rfl | rfl, rfl⟩ | ⟨rfl | rfl, rfl⟩ | ⟨hf, rfl⟩
  · go_enter Try.func51, Try.ntmps51
    go_wp2_with (first | (refine at_load 32 rfl ?_; refine wl_run rfl 32 _ rfl rfl (run_load_s tyT B _ rfl (HEL.out _ (grown_then HZk.out.gr HC.out.grown (fun y e => by cases e; exact .inr HZk.out.ng)))) ?_) | ((refine at_alloc 32 rfl ?_; refine wl_alloc rfl 32 rfl _ zTy HC.out ?_; intro bx w' hn hc; (replace HC := hide hc; clear hc)); ((try clear c0 c1); obtain ⟨c0, c1⟩ := zk_two (HZk.out.next (M' := M) HC.out.grown (HC.out.loc ⟨g, stC M, 3⟩ (by repeat (first | exact List.Mem.head _ | apply List.Mem.tail))) HS.out.len HS.out.ok))) | ((refine at_store 32 rfl ?_; refine wl_store rfl 32 _ _ rfl rfl rfl tyT.sz rfl HC.out (by repeat (first | exact List.Mem.head _ | apply List.Mem.tail)) (by exact PutS.all _ _ rfl) (by repeat (first | exact Upd.here _ _ _ | apply Upd.there)) ?_; intro w' hc; (replace HC := hide hc; clear hc)); ((try clear c0 c1); obtain ⟨c0, c1⟩ := zk_two (HZk.out.next (M' := M) HC.out.grown (HC.out.loc ⟨g, stC M, 3⟩ (by repeat (first | exact List.Mem.head _ | apply List.Mem.tail))) HS.out.len HS.out.ok))) | (refine at_load 3 rfl ?_; refine wl_load_c rfl 3 _ rfl tcI rfl HC.out (by repeat (first | exact List.Mem.head _ | apply List.Mem.tail)) (by repeat (first | exact GetS.cons _ (GetS.nil _) | apply GetS.skip)) ?_) | (refine at_store 3 rfl ?_; refine wl_store (us := [.int .i64 (4 + 1)]) rfl 3 _ _ rfl rfl rfl tcI.sz rfl HC.out (by repeat (first | exact List.Mem.head _ | apply List.Mem.tail)) (st_put HLt.out _) (by repeat (first | exact Upd.here _ _ _ | apply Upd.there)) ?_; intro w' hc; (replace HC := hide hc; clear hc)))
    go_ret
    (exact ⟨(M).set a (4 + 1), rfl, HC.out.grown, HZk.out.next HC.out.grown (HC.out.loc ⟨g, stC ((M).set a (4 + 1)), 3⟩ (by repeat (first | exact List.Mem.head _ | apply List.Mem.tail))) (by rw [List.length_set]; exact HS.out.len) (zk_set HLt.out HS.out.ok HV.out)⟩)
  · go_enter Try.func51, Try.ntmps51
    go_wp2_with (first | (refine at_load 32 rfl ?_; refine wl_run rfl 32 _ rfl rfl (run_load_s tyT B _ rfl (HEL.out _ (grown_then HZk.out.gr HC.out.grown (fun y e => by cases e; exact .inr HZk.out.ng)))) ?_) | ((refine at_alloc 32 rfl ?_; refine wl_alloc rfl 32 rfl _ zTy HC.out ?_; intro bx w' hn hc; (replace HC := hide hc; clear hc)); ((try clear c0 c1); obtain ⟨c0, c1⟩ := zk_two (HZk.out.next (M' := M) HC.out.grown (HC.out.loc ⟨g, stC M, 3⟩ (by repeat (first | exact List.Mem.head _ | apply List.Mem.tail))) HS.out.len HS.out.ok))) | ((refine at_store 32 rfl ?_; refine wl_store rfl 32 _ _ rfl rfl rfl tyT.sz rfl HC.out (by repeat (first | exact List.Mem.head _ | apply List.Mem.tail)) (by exact PutS.all _ _ rfl) (by repeat (first | exact Upd.here _ _ _ | apply Upd.there)) ?_; intro w' hc; (replace HC := hide hc; clear hc)); ((try clear c0 c1); obtain ⟨c0, c1⟩ := zk_two (HZk.out.next (M' := M) HC.out.grown (HC.out.loc ⟨g, stC M, 3⟩ (by repeat (first | exact List.Mem.head _ | apply List.Mem.tail))) HS.out.len HS.out.ok))) | (refine at_load 3 rfl ?_; refine wl_load_c rfl 3 _ rfl tcI rfl HC.out (by repeat (first | exact List.Mem.head _ | apply List.Mem.tail)) (by repeat (first | exact GetS.cons _ (GetS.nil _) | apply GetS.skip)) ?_) | (refine at_store 3 rfl ?_; refine wl_store (us := [.int .i64 (4 + 1)]) rfl 3 _ _ rfl rfl rfl tcI.sz rfl HC.out (by repeat (first | exact List.Mem.head _ | apply List.Mem.tail)) (st_put HLt.out _) (by repeat (first | exact Upd.here _ _ _ | apply Upd.there)) ?_; intro w' hc; (replace HC := hide hc; clear hc)))
    go_ret
    (exact ⟨(M).set a (4 + 1), rfl, HC.out.grown, HZk.out.next HC.out.grown (HC.out.loc ⟨g, stC ((M).set a (4 + 1)), 3⟩ (by repeat (first | exact List.Mem.head _ | apply List.Mem.tail))) (by rw [List.length_set]; exact HS.out.len) (zk_set HLt.out HS.out.ok HV.out)⟩)
  · go_enter Try.func51, Try.ntmps51
    go_wp2_with (first | (refine at_load 32 rfl ?_; refine wl_run rfl 32 _ rfl rfl (run_load_s tyT B _ rfl (HEL.out _ (grown_then HZk.out.gr HC.out.grown (fun y e => by cases e; exact .inr HZk.out.ng)))) ?_) | ((refine at_alloc 32 rfl ?_; refine wl_alloc rfl 32 rfl _ zTy HC.out ?_; intro bx w' hn hc; (replace HC := hide hc; clear hc)); ((try clear c0 c1); obtain ⟨c0, c1⟩ := zk_two (HZk.out.next (M' := M) HC.out.grown (HC.out.loc ⟨g, stC M, 3⟩ (by repeat (first | exact List.Mem.head _ | apply List.Mem.tail))) HS.out.len HS.out.ok))) | ((refine at_store 32 rfl ?_; refine wl_store rfl 32 _ _ rfl rfl rfl tyT.sz rfl HC.out (by repeat (first | exact List.Mem.head _ | apply List.Mem.tail)) (by exact PutS.all _ _ rfl) (by repeat (first | exact Upd.here _ _ _ | apply Upd.there)) ?_; intro w' hc; (replace HC := hide hc; clear hc)); ((try clear c0 c1); obtain ⟨c0, c1⟩ := zk_two (HZk.out.next (M' := M) HC.out.grown (HC.out.loc ⟨g, stC M, 3⟩ (by repeat (first | exact List.Mem.head _ | apply List.Mem.tail))) HS.out.len HS.out.ok))) | (refine at_load 3 rfl ?_; refine wl_load_c rfl 3 _ rfl tcI rfl HC.out (by repeat (first | exact List.Mem.head _ | apply List.Mem.tail)) (by repeat (first | exact GetS.cons _ (GetS.nil _) | apply GetS.skip)) ?_) | (refine at_store 3 rfl ?_; refine wl_store (us := [.int .i64 (4 + 1)]) rfl 3 _ _ rfl rfl rfl tcI.sz rfl HC.out (by repeat (first | exact List.Mem.head _ | apply List.Mem.tail)) (st_put HLt.out _) (by repeat (first | exact Upd.here _ _ _ | apply Upd.there)) ?_; intro w' hc; (replace HC := hide hc; clear hc)))
    go_ret
    (exact ⟨(M).set a (4 + 1), rfl, HC.out.grown, HZk.out.next HC.out.grown (HC.out.loc ⟨g, stC ((M).set a (4 + 1)), 3⟩ (by repeat (first | exact List.Mem.head _ | apply List.Mem.tail))) (by rw [List.length_set]; exact HS.out.len) (zk_set HLt.out HS.out.ok HV.out)⟩)
  · go_enter Try.func51, Try.ntmps51
    go_wp2_with (first | (refine at_load 32 rfl ?_; refine wl_run rfl 32 _ rfl rfl (run_load_s tyT B _ rfl (HEL.out _ (grown_then HZk.out.gr HC.out.grown (fun y e => by cases e; exact .inr HZk.out.ng)))) ?_) | ((refine at_alloc 32 rfl ?_; refine wl_alloc rfl 32 rfl _ zTy HC.out ?_; intro bx w' hn hc; (replace HC := hide hc; clear hc)); ((try clear c0 c1); obtain ⟨c0, c1⟩ := zk_two (HZk.out.next (M' := M) HC.out.grown (HC.out.loc ⟨g, stC M, 3⟩ (by repeat (first | exact List.Mem.head _ | apply List.Mem.tail))) HS.out.len HS.out.ok))) | ((refine at_store 32 rfl ?_; refine wl_store rfl 32 _ _ rfl rfl rfl tyT.sz rfl HC.out (by repeat (first | exact List.Mem.head _ | apply List.Mem.tail)) (by exact PutS.all _ _ rfl) (by repeat (first | exact Upd.here _ _ _ | apply Upd.there)) ?_; intro w' hc; (replace HC := hide hc; clear hc)); ((try clear c0 c1); obtain ⟨c0, c1⟩ := zk_two (HZk.out.next (M' := M) HC.out.grown (HC.out.loc ⟨g, stC M, 3⟩ (by repeat (first | exact List.Mem.head _ | apply List.Mem.tail))) HS.out.len HS.out.ok))) | (refine at_load 3 rfl ?_; refine wl_load_c rfl 3 _ rfl tcI rfl HC.out (by repeat (first | exact List.Mem.head _ | apply List.Mem.tail)) (by repeat (first | exact GetS.cons _ (GetS.nil _) | apply GetS.skip)) ?_) | (refine at_store 3 rfl ?_; refine wl_store (us := [.int .i64 (4 + 1)]) rfl 3 _ _ rfl rfl rfl tcI.sz rfl HC.out (by repeat (first | exact List.Mem.head _ | apply List.Mem.tail)) (st_put HLt.out _) (by repeat (first | exact Upd.here _ _ _ | apply Upd.there)) ?_; intro w' hc; (replace HC := hide hc; clear hc)))
    go_ret
    (exact ⟨(M).set a (4 + 1), rfl, HC.out.grown, HZk.out.next HC.out.grown (HC.out.loc ⟨g, stC ((M).set a (4 + 1)), 3⟩ (by repeat (first | exact List.Mem.head _ | apply List.Mem.tail))) (by rw [List.length_set]; exact HS.out.len) (zk_set HLt.out HS.out.ok HV.out)⟩)
  · go_enter Try.func51, Try.ntmps51
    go_wp2_with (first | (refine at_load 32 rfl ?_; refine wl_run rfl 32 _ rfl rfl (run_load_s tyT B _ rfl (HEL.out _ (grown_then HZk.out.gr HC.out.grown (fun y e => by cases e; exact .inr HZk.out.ng)))) ?_) | ((refine at_alloc 32 rfl ?_; refine wl_alloc rfl 32 rfl _ zTy HC.out ?_; intro bx w' hn hc; (replace HC := hide hc; clear hc)); ((try clear c0 c1); obtain ⟨c0, c1⟩ := zk_two (HZk.out.next (M' := M) HC.out.grown (HC.out.loc ⟨g, stC M, 3⟩ (by repeat (first | exact List.Mem.head _ | apply List.Mem.tail))) HS.out.len HS.out.ok))) | ((refine at_store 32 rfl ?_; refine wl_store rfl 32 _ _ rfl rfl rfl tyT.sz rfl HC.out (by repeat (first | exact List.Mem.head _ | apply List.Mem.tail)) (by exact PutS.all _ _ rfl) (by repeat (first | exact Upd.here _ _ _ | apply Upd.there)) ?_; intro w' hc; (replace HC := hide hc; clear hc)); ((try clear c0 c1); obtain ⟨c0, c1⟩ := zk_two (HZk.out.next (M' := M) HC.out.grown (HC.out.loc ⟨g, stC M, 3⟩ (by repeat (first | exact List.Mem.head _ | apply List.Mem.tail))) HS.out.len HS.out.ok))) | (refine at_load 3 rfl ?_; refine wl_load_c rfl 3 _ rfl tcI rfl HC.out (by repeat (first | exact List.Mem.head _ | apply List.Mem.tail)) (by repeat (first | exact GetS.cons _ (GetS.nil _) | apply GetS.skip)) ?_) | (refine at_store 3 rfl ?_; refine wl_store (us := [.int .i64 (1 + 1)]) rfl 3 _ _ rfl rfl rfl tcI.sz rfl HC.out (by repeat (first | exact List.Mem.head _ | apply List.Mem.tail)) (st_put HLt.out _) (by repeat (first | exact Upd.here _ _ _ | apply Upd.there)) ?_; intro w' hc; (replace HC := hide hc; clear hc)))
    go_ret
    (exact ⟨(M).set a (1 + 1), rfl, HC.out.grown, HZk.out.next HC.out.grown (HC.out.loc ⟨g, stC ((M).set a (1 + 1)), 3⟩ (by repeat (first | exact List.Mem.head _ | apply List.Mem.tail))) (by rw [List.length_set]; exact HS.out.len) (zk_set HLt.out HS.out.ok HV.out)⟩)
  · go_enter Try.func51, Try.ntmps51
    go_wp2_with (first | (refine at_load 32 rfl ?_; refine wl_run rfl 32 _ rfl rfl (run_load_s tyT B _ rfl (HEL.out _ (grown_then HZk.out.gr HC.out.grown (fun y e => by cases e; exact .inr HZk.out.ng)))) ?_) | ((refine at_alloc 32 rfl ?_; refine wl_alloc rfl 32 rfl _ zTy HC.out ?_; intro bx w' hn hc; (replace HC := hide hc; clear hc)); ((try clear c0 c1); obtain ⟨c0, c1⟩ := zk_two (HZk.out.next (M' := M) HC.out.grown (HC.out.loc ⟨g, stC M, 3⟩ (by repeat (first | exact List.Mem.head _ | apply List.Mem.tail))) HS.out.len HS.out.ok))) | ((refine at_store 32 rfl ?_; refine wl_store rfl 32 _ _ rfl rfl rfl tyT.sz rfl HC.out (by repeat (first | exact List.Mem.head _ | apply List.Mem.tail)) (by exact PutS.all _ _ rfl) (by repeat (first | exact Upd.here _ _ _ | apply Upd.there)) ?_; intro w' hc; (replace HC := hide hc; clear hc)); ((try clear c0 c1); obtain ⟨c0, c1⟩ := zk_two (HZk.out.next (M' := M) HC.out.grown (HC.out.loc ⟨g, stC M, 3⟩ (by repeat (first | exact List.Mem.head _ | apply List.Mem.tail))) HS.out.len HS.out.ok))) | (refine at_load 3 rfl ?_; refine wl_load_c rfl 3 _ rfl tcI rfl HC.out (by repeat (first | exact List.Mem.head _ | apply List.Mem.tail)) (by repeat (first | exact GetS.cons _ (GetS.nil _) | apply GetS.skip)) ?_) | (refine at_store 3 rfl ?_; refine wl_store (us := [.int .i64 (1 + 1)]) rfl 3 _ _ rfl rfl rfl tcI.sz rfl HC.out (by repeat (first | exact List.Mem.head _ | apply List.Mem.tail)) (st_put HLt.out _) (by repeat (first | exact Upd.here _ _ _ | apply Upd.there)) ?_; intro w' hc; (replace HC := hide hc; clear hc)))
    go_ret
    (exact ⟨(M).set a (1 + 1), rfl, HC.out.grown, HZk.out.next HC.out.grown (HC.out.loc ⟨g, stC ((M).set a (1 + 1)), 3⟩ (by repeat (first | exact List.Mem.head _ | apply List.Mem.tail))) (by rw [List.length_set]; exact HS.out.len) (zk_set HLt.out HS.out.ok HV.out)⟩)
  · have d1 : (fm == 1) = false := by simp; omega
    have d2 : (fm == 4) = false := by simp; omega
    have d3 : (fm == 10) = false := by simp; omega
    have d4 : (fm == 11) = false := by simp; omega
    have d5 : (fm == 2) = false := by simp; omega
    have d6 : (fm == 3) = false := by simp; omega
    have d7 : (fm == 7) = false := by simp; omega
    have d8 : (fm == 9) = false := by simp; omega
    clear hf
    go_enter Try.func51, Try.ntmps51
    go_wp2_with (first | (refine at_load 32 rfl ?_; refine wl_run rfl 32 _ rfl rfl (run_load_s tyT B _ rfl (HEL.out _ (grown_then HZk.out.gr HC.out.grown (fun y e => by cases e; exact .inr HZk.out.ng)))) ?_) | ((refine at_alloc 32 rfl ?_; refine wl_alloc rfl 32 rfl _ zTy HC.out ?_; intro bx w' hn hc; (replace HC := hide hc; clear hc)); ((try clear c0 c1); obtain ⟨c0, c1⟩ := zk_two (HZk.out.next (M' := M) HC.out.grown (HC.out.loc ⟨g, stC M, 3⟩ (by repeat (first | exact List.Mem.head _ | apply List.Mem.tail))) HS.out.len HS.out.ok))) | ((refine at_store 32 rfl ?_; refine wl_store rfl 32 _ _ rfl rfl rfl tyT.sz rfl HC.out (by repeat (first | exact List.Mem.head _ | apply List.Mem.tail)) (by exact PutS.all _ _ rfl) (by repeat (first | exact Upd.here _ _ _ | apply Upd.there)) ?_; intro w' hc; (replace HC := hide hc; clear hc)); ((try clear c0 c1); obtain ⟨c0, c1⟩ := zk_two (HZk.out.next (M' := M) HC.out.grown (HC.out.loc ⟨g, stC M, 3⟩ (by repeat (first | exact List.Mem.head _ | apply List.Mem.tail))) HS.out.len HS.out.ok))) | (refine at_load 3 rfl ?_; refine wl_load_c rfl 3 _ rfl tcI rfl HC.out (by repeat (first | exact List.Mem.head _ | apply List.Mem.tail)) (by repeat (first | exact GetS.cons _ (GetS.nil _) | apply GetS.skip)) ?_) | (refine at_store 3 rfl ?_; refine wl_store (us := [.int .i64 (0 + 1)]) rfl 3 _ _ rfl rfl rfl tcI.sz rfl HC.out (by repeat (first | exact List.Mem.head _ | apply List.Mem.tail)) (st_put HLt.out _) (by repeat (first | exact Upd.here _ _ _ | apply Upd.there)) ?_; intro w' hc; (replace HC := hide hc; clear hc)))
    go_ret
    (exact ⟨(M).set a (0 + 1), rfl, HC.out.grown, HZk.out.next HC.out.grown (HC.out.loc ⟨g, stC ((M).set a (0 + 1)), 3⟩ (by repeat (first | exact List.Mem.head _ | apply List.Mem.tail))) (by rw [List.length_set]; exact HS.out.len) (zk_set HLt.out HS.out.ok HV.out)⟩)
/- A size that is known. -/
theorem zsz_known {M : List Int} {w : World} {a : Nat} (H : Zk w0 (some ad) cp T s b g M w) (ha : a < T.length) (hT : T.length ≤ 256) (h0 : mk M a = s (a : Int) + 1) (hs0 : 0 ≤ s (a : Int)) (hs1 : s (a : Int) ≤ 32769) : Calls Try.prog 51 #[.pointer (some ⟨b, 0, none⟩), .int .i64 a] w (ZkO w0 (some ad) cp T s b g w (.int .i64 (s (a : Int)))) := by
  (have HZk := hide H; have HS := hide H; have HC := hide (H.cx (fun _ => False)); have HLt := hide (show a < M.length by rw [H.len]; exact ha); obtain ⟨c0, c1⟩ := zk_two H; have cK := zk_cell H ha; have bl0 := block_lt_of_cell c0; have blK := block_lt_of_cell cK; have k1 : (a : Int) < T.length := by omega)
  rw [h0] at cK
  obtain ⟨V, hV⟩ : ∃ V, s (a : Int) = V := ⟨_, rfl⟩
  rw [hV] at cK hs0 hs1 ⊢
  clear H h0 hV ha hT
  go_enter Try.func51, Try.ntmps51
  go_wp2
  go_ret
  exact ⟨M, by simp, grown_refl w _, HZk.out⟩
end
end Go.Proofs.Ytnolelgmcmgohaa.Ty
