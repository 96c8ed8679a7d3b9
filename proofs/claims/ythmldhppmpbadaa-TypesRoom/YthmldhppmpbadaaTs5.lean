/-
  Types: alikeProcs.
-/
import Derived.Test.YthmldhppmpbadaaTs4
import Derived.Test.YthmldhppmpbadaaY14
namespace Go.Proofs.Ythmldhppmpbadaa.Ty
open Go.RowKit hiding Hid
open Go.Maps Go.Proofs.Ythmldhppmpbadaa.Tx Go.Proofs.Ythmldhppmpbadaa.Lx Go.Proofs.Ythmldhppmpbadaa.Tr Go.Proofs.Ythmldhppmpbadaa.Mp
set_option linter.unusedVariables false
set_option linter.unusedSimpArgs false
set_option maxRecDepth 100000

theorem tcB2 : TyC Try.prog 4 := tyC_of Try.underlying4 rfl (by kernel_rfl)
theorem tcPS2 : TyC Try.prog 46 := tyC_of Try.underlying46 rfl (by kernel_rfl)
theorem tyPM2 : TyS Try.prog 55 2 := tyS_of Try.underlying55 rfl (by kernel_rfl)
theorem zPM2 : (Try.prog.info? 55).bind (fun i => i.zero.map (·.cells)) = some ([.bool false, .int .i64 0] : List Value).toArray := by kernel_rfl
theorem cfcell {w0 w : World} {A : Nat → Prop} {X : Option Nat} {L : List Lc} {Rs : List Rw} {Fs : List Fk} (H : Cf w0 A X L Rs Fs w) {b : Nat} {cs : List Value} {t : TypeId} (hm : ⟨b, cs, t⟩ ∈ L) {off : Nat} {u : Value} (hg : GetS off [u] cs) : w.cell? ⟨b, off, none⟩ = some u := by
  have := cells_at H.cx hm hg 0 u rfl
  rw [Addr.add_zero'] at this
  exact this
theorem up3 (a b c p : Lc) (L : List Lc) : (a :: b :: c :: p :: L).Perm (p :: a :: b :: c :: L) := List.perm_middle (l₁ := [a, b, c]) (a := p) (l₂ := L)
theorem up2 (a b p : Lc) (L : List Lc) : (a :: b :: p :: L).Perm (p :: a :: b :: L) := List.perm_middle (l₁ := [a, b]) (a := p) (l₂ := L)
/- Asked one behind the other. -/
theorem askAll_snoc : ∀ (l : List (Int × Int)) (A O : List (Int × Int)) (c : Int × Int), askAll A O (l ++ [c]) = askS (askAll A O l).1 (askAll A O l).2 (mmP c.1 c.2)
  | [], A, O, c => rfl
  | d :: l, A, O, c => by rw [List.cons_append, askAll, askAll_snoc l, askAll]
theorem askS_len (A O : List (Int × Int)) (p : Int × Int) : (askS A O p).1.length ≤ A.length + 1 ∧ (askS A O p).2.length ≤ O.length + 1 := by
  unfold askS
  split
  · exact ⟨by simp, by simp⟩
  · exact ⟨by simp, by simp⟩
theorem askAll_len : ∀ (l : List (Int × Int)) (A O : List (Int × Int)), (askAll A O l).1.length ≤ A.length + l.length ∧ (askAll A O l).2.length ≤ O.length + l.length
  | [], A, O => ⟨Nat.le_refl _, Nat.le_refl _⟩
  | c :: l, A, O => by
    have h1 := askS_len A O (mmP c.1 c.2)
    have h2 := askAll_len l (askS A O (mmP c.1 c.2)).1 (askS A O (mmP c.1 c.2)).2
    rw [askAll, List.length_cons]
    omega
def AskR (As Os : List Pk) (o : Option (List (Int × Int))) (r : Bool) (As' Os' : List Pk) : Prop := (∀ l, o = some l → r = true ∧ As' = (askAll As Os l).1 ∧ Os' = (askAll As Os l).2) ∧ (o = none → r = false)
def zpL (l m : List Pm) : List (Int × Int) := List.zipWith (fun (p q : Pm) => (p.t, q.t)) l m
theorem askL_len : ∀ {l m : List Pm}, l.length ≠ m.length → askL l m = none
  | [], [], h => absurd rfl h
  | [], _ :: _, _ => rfl
  | _ :: _, [], _ => rfl
  | p :: l, q :: m, h => by
    rw [askL, askL_len (l := l) (m := m) (by simpa using h)]
    split <;> rfl
theorem askL_ne : ∀ {l m : List Pm} {i : Nat} {p q : Pm}, l[i]? = some p → m[i]? = some q → p.v ≠ q.v → askL l m = none
  | [], _, _, _, _, h, _, _ => by simp at h
  | _ :: _, [], _, _, _, _, h, _ => by simp at h
  | a :: l, b :: m, 0, p, q, h1, h2, h => by
    simp at h1 h2
    subst h1
    subst h2
    rw [askL, if_neg h]
  | a :: l, b :: m, i + 1, p, q, h1, h2, h => by
    rw [askL, askL_ne (l := l) (m := m) (i := i) (by simpa using h1) (by simpa using h2) h]
    split <;> rfl
theorem askL_zip : ∀ {l m : List Pm}, l.length = m.length → (∀ (i : Nat) (p q : Pm), l[i]? = some p → m[i]? = some q → p.v = q.v) → askL l m = some (zpL l m)
  | [], [], _, _ => rfl
  | [], _ :: _, h, _ => by cases h
  | _ :: _, [], h, _ => by cases h
  | a :: l, b :: m, h, hv => by
    rw [askL, if_pos (hv 0 a b rfl rfl), askL_zip (l := l) (m := m) (by simpa using h) (fun i p q h1 h2 => hv (i + 1) p q (by simpa using h1) (by simpa using h2))]
    rfl
theorem zpL_take {l m : List Pm} {i : Nat} {p q : Pm} (h1 : l[i]? = some p) (h2 : m[i]? = some q) : zpL (l.take (i + 1)) (m.take (i + 1)) = zpL (l.take i) (m.take i) ++ [(p.t, q.t)] := by
  unfold zpL
  rw [← List.take_zipWith, ← List.take_zipWith, List.take_add_one]
  congr 1
  rw [show (List.zipWith (fun (p q : Pm) => (p.t, q.t)) l m)[i]? = some (p.t, q.t) from by simp [List.getElem?_zipWith, h1, h2]]
  rfl
theorem zpL_len (l m : List Pm) : (zpL l m).length ≤ l.length := by
  unfold zpL
  rw [List.length_zipWith]
  omega
set_option maxHeartbeats 16000000 in
theorem alikeP_at {w0 : World} {qb mb : Nat} {L : List Lc} {Fs : List Fk} {As Os : List Pk} {d : Option Addr} {c : Nat} {w : World} (H : Qn w0 qb mb L Fs As Os d c w) (x y : La) (hx : Lp w0 x) (hy : Lp w0 y) (hpx : x.x.pm.length ≤ 1000) (hpy : y.x.pm.length ≤ 1000) (hix : ∀ p ∈ x.x.pm, i64ok p.t) (hiy : ∀ p ∈ y.x.pm, i64ok p.t) (hrx : i64ok x.x.rs) (hry : i64ok y.x.rs) (hA : As.length + 2000 < 900000) (hO : Os.length + 2000 < 900000) : Calls Try.prog 113 #[.pointer (some ⟨qb, 0, none⟩), .agg (laC x).toArray, .agg (laC y).toArray] w (fun e w' => ∃ r As' Os' d' c', e = .returned (.bool r) ∧ Qn w0 qb mb L Fs As' Os' d' c' w' ∧ AskR As Os ((askL x.x.pm y.x.pm).map (· ++ [(x.x.rs, y.x.rs)])) r As' Os') := by
  have HC := hide H
  have HLx := hide hx
  have HLy := hide hy
  have hfx : laC x = [.int .i64 x.x.fm, .string (bs x.x.md), .string (bs x.x.nm), .int .i64 x.x.ln, .int .i64 x.x.el, .int .i64 x.x.ba, .slice x.fo x.x.fl.length x.fc, .slice x.po x.x.pm.length x.pc, .int .i64 x.x.rs, .int .i64 x.x.ds] := rfl
  have hfy : laC y = [.int .i64 y.x.fm, .string (bs y.x.md), .string (bs y.x.nm), .int .i64 y.x.ln, .int .i64 y.x.el, .int .i64 y.x.ba, .slice y.fo y.x.fl.length y.fc, .slice y.po y.x.pm.length y.pc, .int .i64 y.x.rs, .int .i64 y.x.ds] := rfl
  have k1 : (x.x.pm.length : Int) ≤ 1000 := by omega
  have k2 : (y.x.pm.length : Int) ≤ 1000 := by omega
  have HX := hide hix
  have HY := hide hiy
  have HRx := hide hrx
  have HRy := hide hry
  have HAA := hide hA
  have HOO := hide hO
  have HPx := hide hpx
  clear H hx hy hix hiy hrx hry hA hO hpx
  obtain ⟨xo, hxo⟩ : ∃ o, x.po = o := ⟨_, rfl⟩
  obtain ⟨yo, hyo⟩ : ∃ o, y.po = o := ⟨_, rfl⟩
  have HPX := hide (HLx.out.pm)
  have HPY := hide (HLy.out.pm)
  rw [hxo] at hfx HPX
  rw [hyo] at hfy HPY
  rw [hfx, hfy]
  clear hfx hfy hxo hyo
  by_cases hln : x.x.pm.length = y.x.pm.length
  case neg =>
    have e0 : ((x.x.pm.length : Int) != (y.x.pm.length : Int)) = true := by simpa using (fun e : (x.x.pm.length : Int) = y.x.pm.length => hln (by omega))
    have HN := hide (askL_len hln)
    clear hln hpy
    have M1 : Hid True := hide trivial
    go_enter Try.func113, Try.ntmps113
    go_wp2_with (first | (refine at_load 46 rfl ?_; refine wl_load_c rfl 46 _ rfl tcPS2 rfl HC.out.cx (by repeat (first | exact List.Mem.head _ | apply List.Mem.tail)) (by repeat (first | exact GetS.cons _ (GetS.nil _) | apply GetS.skip)) ?_) | (refine at_box 48 rfl ?_; clear M1; refine cf_box rfl 48 _ rfl _ rfl HC.out ?_; intro xb w' hn hc; (replace HC := hide hc; clear hc)) | (refine at_box 48 rfl ?_; refine cf_box rfl 48 _ rfl _ rfl HC.out ?_; intro yb w' hn hc; (replace HC := hide hc; clear hc)))
    go_ret
    refine ⟨false, As, Os, d, c, rfl, HC.out.drop.drop, ?_⟩
    rw [HN.out]
    exact ⟨fun l hl => (by cases hl), fun _ => rfl⟩
  obtain ⟨n, hn⟩ : ∃ n, x.x.pm.length = n := ⟨_, rfl⟩
  rw [← hln] at k2 ⊢
  rw [hn] at k1 k2 ⊢
  have HNx := hide hn
  have HNy := hide (show y.x.pm.length = n by omega)
  have e0 : ((n : Int) != (n : Int)) = false := by simp
  have HPn := hide (show n ≤ 1000 by omega)
  clear hln hpy hn
  have M1 : Hid True := hide trivial
  go_enter Try.func113, Try.ntmps113
  go_wp2_with (first | (refine at_load 46 rfl ?_; refine wl_load_c rfl 46 _ rfl tcPS2 rfl HC.out.cx (by repeat (first | exact List.Mem.head _ | apply List.Mem.tail)) (by repeat (first | exact GetS.cons _ (GetS.nil _) | apply GetS.skip)) ?_) | (refine at_box 48 rfl ?_; clear M1; refine cf_box rfl 48 _ rfl _ rfl HC.out ?_; intro xb w' hn hc; (replace HC := hide hc; clear hc)) | (refine at_box 48 rfl ?_; refine cf_box rfl 48 _ rfl _ rfl HC.out ?_; intro yb w' hn hc; (replace HC := hide hc; clear hc)))
  have HC1 := HC
  clear HC
  go_loopw [19] (fun iv W => ∃ (i : Nat) (As' Os' : List Pk) (d' : Option Addr) (c' : Nat), i ≤ n ∧ iv = .int .i64 i ∧ Hid (∀ j p q, j < i → x.x.pm[j]? = some p → y.x.pm[j]? = some q → p.v = q.v) ∧ Hid (As' = (askAll As Os (zpL (x.x.pm.take i) (y.x.pm.take i))).1) ∧ Hid (Os' = (askAll As Os (zpL (x.x.pm.take i) (y.x.pm.take i))).2) ∧ Hid (Cf w0 (fun _ => False) none (⟨yb, [.int .i64 y.x.fm, .string (bs y.x.md), .string (bs y.x.nm), .int .i64 y.x.ln, .int .i64 y.x.el, .int .i64 y.x.ba, .slice y.fo y.x.fl.length y.fc, .slice yo n y.pc, .int .i64 y.x.rs, .int .i64 y.x.ds], 48⟩ :: ⟨xb, [.int .i64 x.x.fm, .string (bs x.x.md), .string (bs x.x.nm), .int .i64 x.x.ln, .int .i64 x.x.el, .int .i64 x.x.ba, .slice x.fo x.x.fl.length x.fc, .slice xo n x.pc, .int .i64 x.x.rs, .int .i64 x.x.ds], 48⟩ :: ⟨qb, [.map (some mb), .slice d' Os'.length c'], 101⟩ :: L) [⟨.slice d' Os'.length c', 104, 2, Os'.length, Os'.flatMap pairC⟩] (⟨mb, fun W => MapP W mb As'⟩ :: Fs) W)) (fun iv _ => n - (intOf iv).toNat)
  case atStart => exact ⟨0, As, Os, d, c, Nat.zero_le _, rfl, hide (fun j p q hj => by omega), hide rfl, hide rfl, HC1⟩
  case round =>
    clear HC1
    obtain ⟨i, As', Os', d', c', hi, rfl, HV, HAs, HOs, HC⟩ := hrel
    have hl9 := askAll_len (zpL (x.x.pm.take i) (y.x.pm.take i)) As Os
    rw [← HAs.out, ← HOs.out] at hl9
    have hz9 := zpL_len (x.x.pm.take i) (y.x.pm.take i)
    rw [List.length_take] at hz9
    have HAl := hide (show As'.length < 900000 by have := HAA.out; have := HPn.out; omega)
    have HOl := hide (show Os'.length < 900000 by have := HOO.out; have := HPn.out; omega)
    clear hl9 hz9
    by_cases hlt : i < n
    · have q1 : (i : Int) < n := by omega
      obtain ⟨p, hp⟩ : ∃ p, x.x.pm[i]? = some p := ⟨x.x.pm[i]'(by have := HNx.out; omega), List.getElem?_eq_getElem _⟩
      obtain ⟨q, hq⟩ : ∃ q, y.x.pm[i]? = some q := ⟨y.x.pm[i]'(by have := HNy.out; omega), List.getElem?_eq_getElem _⟩
      obtain ⟨ax, rfl, hcx⟩ := HPX.out.el pmC_len (by decide) hp
      obtain ⟨ay, rfl, hcy⟩ := HPY.out.el pmC_len (by decide) hq
      obtain ⟨Bx, hBx⟩ : ∃ B, ax.add (i * 2) = B := ⟨_, rfl⟩
      obtain ⟨By, hBy⟩ : ∃ B, ay.add (i * 2) = B := ⟨_, rfl⟩
      rw [hBx] at hcx
      rw [hBy] at hcy
      have HEX := hide (fun W (hW : w0.grownBy W none) j u (hu : ([.bool p.v, .int .i64 p.t] : List Value)[j]? = some u) => hW.cell (hcx j u hu) (by simp))
      have HEY := hide (fun W (hW : w0.grownBy W none) => And.intro (show W.cell? By = some (.bool q.v) by have h0 := hW.cell (hcy 0 _ rfl) (by simp); rw [Addr.add_zero'] at h0; exact h0) (show W.cell? ⟨By.block, By.off + 1, none⟩ = some (.int .i64 q.t) from hW.cell (hcy 1 _ rfl) (by simp)))
      have HIp := hide (HX.out p (List.mem_of_getElem? hp))
      have HIq := hide (HY.out q (List.mem_of_getElem? hq))
      have HPp := hide hp
      have HQq := hide hq
      clear hp hq hcx hcy
      have go6 : p.v = q.v ∨ p.v ≠ q.v := by by_cases h : p.v = q.v; exact .inl h; exact .inr h
      rcases go6 with hv | hv
      · have e5 : (p.v != q.v) = false := by rw [hv]; cases q.v <;> rfl
        have HAs2 := hide (show (askS As' Os' (mmP p.t q.t)).1 = (askAll As Os (zpL (x.x.pm.take (i + 1)) (y.x.pm.take (i + 1)))).1 by rw [zpL_take HPp.out HQq.out, askAll_snoc, ← HAs.out, ← HOs.out])
        have HOs2 := hide (show (askS As' Os' (mmP p.t q.t)).2 = (askAll As Os (zpL (x.x.pm.take (i + 1)) (y.x.pm.take (i + 1)))).2 by rw [zpL_take HPp.out HQq.out, askAll_snoc, ← HAs.out, ← HOs.out])
        have HV2 := hide (show ∀ j p q, j < i + 1 → x.x.pm[j]? = some p → y.x.pm[j]? = some q → p.v = q.v from fun j p' q' hj h1 h2 => by
          by_cases e1 : j = i
          · subst e1
            have z1 := HPp.out
            have z2 := HQq.out
            rw [h1] at z1
            rw [h2] at z2
            cases z1
            cases z2
            exact hv
          · exact HV.out j p' q' (by omega) h1 h2)
        rw [hv] at e5 HEX
        obtain ⟨pv, hpv⟩ : ∃ v, q.v = v := ⟨_, rfl⟩
        rw [hpv] at e5 HEX HEY
        clear hv hpv
        go_upto_region 6 with (first | (refine at_load 55 rfl ?_; refine wl_run rfl 55 _ rfl rfl (run_load_s tyPM2 _ [.bool pv, .int .i64 p.t] rfl (HEX.out _ HC.out.cx.grown)) ?_) | (refine at_alloc 55 rfl ?_; refine cf_alloc rfl 55 rfl _ zPM2 HC.out ?_; intro pb w' hn hc; (replace HC := hide hc; clear hc)) | (refine at_store 55 rfl ?_; refine cf_store rfl 55 _ _ rfl rfl rfl tyPM2.sz rfl HC.out (by repeat (first | exact List.Mem.head _ | apply List.Mem.tail)) (by exact PutS.all _ _ rfl) (by repeat (first | exact Upd.here _ _ _ | apply Upd.there)) ?_; intro w' hc; (replace HC := hide hc; clear hc)) | (refine at_load 46 rfl ?_; refine wl_load_c rfl 46 _ rfl tcPS2 rfl HC.out.cx (by repeat (first | exact List.Mem.head _ | apply List.Mem.tail)) (by repeat (first | exact GetS.cons _ (GetS.nil _) | apply GetS.skip)) ?_))
        replace HC := hide (HC.out.g (d1_g _)); refine wp_region_inN (fun W => W.cell? ⟨pb, 0, none⟩ = some (.bool pv) ∧ W.cell? ⟨yb, 7, none⟩ = some (.slice (some ay) n y.pc) ∧ W.cell? By = some (.bool pv)) [8] (Pn.of [(1, 0), (1, 1), (1, 2), (1, 3), (1, 4), (1, 5), (1, 6), (1, 7), (0, 8)] .nil) (by kernel_rfl) (by kernel_rfl) (by kernel_rfl) (by kernel_rfl) (fun _ _ d _ _ h => by cases d <;> exact h) ⟨cfcell HC.out (by repeat (first | exact List.Mem.head _ | apply List.Mem.tail)) (by repeat (first | exact GetS.cons _ (GetS.nil _) | apply GetS.skip)), cfcell HC.out (by repeat (first | exact List.Mem.head _ | apply List.Mem.tail)) (by repeat (first | exact GetS.cons _ (GetS.nil _) | apply GetS.skip)), (HEY.out _ HC.out.cx.grown).1⟩ ?_
        (refine inN_read (v := ?_) rfl (Or.inl ⟨by rfl, ?_⟩) ?_; rotate_left 1; (focus (intro W hSW; clear hSW; go_simp; (try (with_reducible rfl)))); (try simp only [Act.put, List.getElem_toArray, List.getElem_cons_zero, List.getElem_cons_succ, List.setIfInBounds_toArray, List.set_cons_zero, List.set_cons_succ]))
        (refine inN_read rfl (yl_cell tcB2 rfl rfl rfl (fun W hS => hS.1)) ?_; (try simp only [Act.put, List.getElem_toArray, List.getElem_cons_zero, List.getElem_cons_succ, List.setIfInBounds_toArray, List.set_cons_zero, List.set_cons_succ]))
        (refine inN_read (v := ?_) rfl (Or.inl ⟨by rfl, ?_⟩) ?_; rotate_left 1; (focus (intro W hSW; clear hSW; go_simp; (try (with_reducible rfl)))); (try simp only [Act.put, List.getElem_toArray, List.getElem_cons_zero, List.getElem_cons_succ, List.setIfInBounds_toArray, List.set_cons_zero, List.set_cons_succ]))
        (refine inN_read rfl (yl_cell tcPS2 rfl rfl rfl (fun W hS => hS.2.1)) ?_; (try simp only [Act.put, List.getElem_toArray, List.getElem_cons_zero, List.getElem_cons_succ, List.setIfInBounds_toArray, List.set_cons_zero, List.set_cons_succ]))
        (refine inN_read (v := ?_) rfl (Or.inl ⟨by rfl, ?_⟩) ?_; rotate_left 1; (focus (intro W hSW; clear hSW; go_simp; (try (with_reducible rfl)))); (try simp only [Act.put, List.getElem_toArray, List.getElem_cons_zero, List.getElem_cons_succ, List.setIfInBounds_toArray, List.set_cons_zero, List.set_cons_succ]))
        (refine inN_read (v := ?_) rfl (Or.inl ⟨by rfl, ?_⟩) ?_; rotate_left 1; (focus (intro W hSW; clear hSW; go_simp; (try (with_reducible rfl)))); (try simp only [Act.put, List.getElem_toArray, List.getElem_cons_zero, List.getElem_cons_succ, List.setIfInBounds_toArray, List.set_cons_zero, List.set_cons_succ]))
        (refine inN_read (v := ?_) rfl (Or.inl ⟨by rfl, ?_⟩) ?_; rotate_left 1; (focus (intro W hSW; clear hSW; go_simp; (try (with_reducible rfl)))); (try simp only [Act.put, List.getElem_toArray, List.getElem_cons_zero, List.getElem_cons_succ, List.setIfInBounds_toArray, List.set_cons_zero, List.set_cons_succ]))
        (refine inN_read rfl (yl_cell tcB2 rfl rfl rfl (fun W hS => hS.2.2)) ?_; (try simp only [Act.put, List.getElem_toArray, List.getElem_cons_zero, List.getElem_cons_succ, List.setIfInBounds_toArray, List.set_cons_zero, List.set_cons_succ]))
        (refine inN_pure (v := ?_) rfl (Or.inl ⟨by rfl, ?_⟩) ?_; rotate_left 1; (focus (intro W hSW; clear hSW; go_simp; (try (with_reducible rfl)))); (try simp only [Act.put, List.getElem_toArray, List.getElem_cons_zero, List.getElem_cons_succ, List.setIfInBounds_toArray, List.set_cons_zero, List.set_cons_succ]))
        refine inN_end ?_
        go_upto_region 8 with (fail)
        replace HC := hide (HC.out.g (d1_g _)); refine wp_region_inN (fun W => W.cell? ⟨pb, 1, none⟩ = some (.int .i64 p.t) ∧ W.cell? ⟨yb, 7, none⟩ = some (.slice (some ay) n y.pc) ∧ W.cell? ⟨By.block, By.off + 1, none⟩ = some (.int .i64 q.t)) [9] (Pn.of [(1, 0), (1, 1), (1, 2), (1, 3), (1, 4), (1, 5), (1, 6), (1, 7), (1, 8), (2, 9)] .nil) (by kernel_rfl) (by kernel_rfl) (by kernel_rfl) (by kernel_rfl) (fun _ _ d _ _ h => by cases d <;> exact h) ⟨cfcell HC.out (by repeat (first | exact List.Mem.head _ | apply List.Mem.tail)) (by repeat (first | exact GetS.cons _ (GetS.nil _) | apply GetS.skip)), cfcell HC.out (by repeat (first | exact List.Mem.head _ | apply List.Mem.tail)) (by repeat (first | exact GetS.cons _ (GetS.nil _) | apply GetS.skip)), (HEY.out _ HC.out.cx.grown).2⟩ ?_
        (refine inN_read (v := ?_) rfl (Or.inl ⟨by rfl, ?_⟩) ?_; rotate_left 1; (focus (intro W hSW; clear hSW; go_simp; (try (with_reducible rfl)))); (try simp only [Act.put, List.getElem_toArray, List.getElem_cons_zero, List.getElem_cons_succ, List.setIfInBounds_toArray, List.set_cons_zero, List.set_cons_succ]))
        (refine inN_read (v := ?_) rfl (Or.inl ⟨by rfl, ?_⟩) ?_; rotate_left 1; (focus (intro W hSW; clear hSW; go_simp; (try (with_reducible rfl)))); (try simp only [Act.put, List.getElem_toArray, List.getElem_cons_zero, List.getElem_cons_succ, List.setIfInBounds_toArray, List.set_cons_zero, List.set_cons_succ]))
        (refine inN_read rfl (yl_cell tcI rfl rfl rfl (fun W hS => hS.1)) ?_; (try simp only [Act.put, List.getElem_toArray, List.getElem_cons_zero, List.getElem_cons_succ, List.setIfInBounds_toArray, List.set_cons_zero, List.set_cons_succ]))
        (refine inN_read (v := ?_) rfl (Or.inl ⟨by rfl, ?_⟩) ?_; rotate_left 1; (focus (intro W hSW; clear hSW; go_simp; (try (with_reducible rfl)))); (try simp only [Act.put, List.getElem_toArray, List.getElem_cons_zero, List.getElem_cons_succ, List.setIfInBounds_toArray, List.set_cons_zero, List.set_cons_succ]))
        (refine inN_read rfl (yl_cell tcPS2 rfl rfl rfl (fun W hS => hS.2.1)) ?_; (try simp only [Act.put, List.getElem_toArray, List.getElem_cons_zero, List.getElem_cons_succ, List.setIfInBounds_toArray, List.set_cons_zero, List.set_cons_succ]))
        (refine inN_read (v := ?_) rfl (Or.inl ⟨by rfl, ?_⟩) ?_; rotate_left 1; (focus (intro W hSW; clear hSW; go_simp; (try (with_reducible rfl)))); (try simp only [Act.put, List.getElem_toArray, List.getElem_cons_zero, List.getElem_cons_succ, List.setIfInBounds_toArray, List.set_cons_zero, List.set_cons_succ]))
        (refine inN_read (v := ?_) rfl (Or.inl ⟨by rfl, ?_⟩) ?_; rotate_left 1; (focus (intro W hSW; clear hSW; go_simp; (try (with_reducible rfl)))); (try simp only [Act.put, List.getElem_toArray, List.getElem_cons_zero, List.getElem_cons_succ, List.setIfInBounds_toArray, List.set_cons_zero, List.set_cons_succ]))
        (refine inN_read (v := ?_) rfl (Or.inl ⟨by rfl, ?_⟩) ?_; rotate_left 1; (focus (intro W hSW; clear hSW; go_simp; (try (with_reducible rfl)))); (try simp only [Act.put, List.getElem_toArray, List.getElem_cons_zero, List.getElem_cons_succ, List.setIfInBounds_toArray, List.set_cons_zero, List.set_cons_succ]))
        (refine inN_read rfl (yl_cell tcI rfl rfl rfl (fun W hS => hS.2.2)) ?_; (try simp only [Act.put, List.getElem_toArray, List.getElem_cons_zero, List.getElem_cons_succ, List.setIfInBounds_toArray, List.set_cons_zero, List.set_cons_succ]))
        refine inN_act rfl rfl (fun K' hK => ?_); go_simp; refine (ask_at (HC.out.permL (up3 _ _ _ _ _)) p.t q.t HIp.out HIq.out HAl.out HOl.out).mono ?_; rintro e w2 ⟨rfl, d2, c2, hq⟩; replace HC := hide (hq.permL (up3 _ _ _ _ _).symm); clear hq; go_simp; refine hK _ _ (.inl rfl) ?_; clear hK K'; (try simp only [Act.put, List.getElem_toArray, List.getElem_cons_zero, List.getElem_cons_succ, List.setIfInBounds_toArray, List.set_cons_zero, List.set_cons_succ])
        refine inN_end ?_
        go_wp2
        refine ⟨⟨i + 1, _, _, d2, c2, by omega, by go_num, HV2, HAs2, HOs2, hide ?_⟩, by simp [intOf]; omega⟩
        exact HC.out.drop
      · have HN := hide (askL_ne HPp.out HQq.out hv)
        rcases (show (p.v = true ∧ q.v = false) ∨ (p.v = false ∧ q.v = true) from by cases h1 : p.v <;> cases h2 : q.v <;> simp_all) with ⟨hpv, hqv⟩ | ⟨hpv, hqv⟩
        · rw [hpv] at HEX
          rw [hqv] at HEY
          clear hv hpv hqv
          go_upto_region 6 with (first | (refine at_load 55 rfl ?_; refine wl_run rfl 55 _ rfl rfl (run_load_s tyPM2 _ [.bool true, .int .i64 p.t] rfl (HEX.out _ HC.out.cx.grown)) ?_) | (refine at_alloc 55 rfl ?_; refine cf_alloc rfl 55 rfl _ zPM2 HC.out ?_; intro pb w' hn hc; (replace HC := hide hc; clear hc)) | (refine at_store 55 rfl ?_; refine cf_store rfl 55 _ _ rfl rfl rfl tyPM2.sz rfl HC.out (by repeat (first | exact List.Mem.head _ | apply List.Mem.tail)) (by exact PutS.all _ _ rfl) (by repeat (first | exact Upd.here _ _ _ | apply Upd.there)) ?_; intro w' hc; (replace HC := hide hc; clear hc)) | (refine at_load 46 rfl ?_; refine wl_load_c rfl 46 _ rfl tcPS2 rfl HC.out.cx (by repeat (first | exact List.Mem.head _ | apply List.Mem.tail)) (by repeat (first | exact GetS.cons _ (GetS.nil _) | apply GetS.skip)) ?_))
          replace HC := hide (HC.out.g (d1_g _)); refine wp_region_inN (fun W => W.cell? ⟨pb, 0, none⟩ = some (.bool true) ∧ W.cell? ⟨yb, 7, none⟩ = some (.slice (some ay) n y.pc) ∧ W.cell? By = some (.bool false)) [8] (Pn.of [(1, 0), (1, 1), (1, 2), (1, 3), (1, 4), (1, 5), (1, 6), (1, 7), (0, 8)] .nil) (by kernel_rfl) (by kernel_rfl) (by kernel_rfl) (by kernel_rfl) (fun _ _ d _ _ h => by cases d <;> exact h) ⟨cfcell HC.out (by repeat (first | exact List.Mem.head _ | apply List.Mem.tail)) (by repeat (first | exact GetS.cons _ (GetS.nil _) | apply GetS.skip)), cfcell HC.out (by repeat (first | exact List.Mem.head _ | apply List.Mem.tail)) (by repeat (first | exact GetS.cons _ (GetS.nil _) | apply GetS.skip)), (HEY.out _ HC.out.cx.grown).1⟩ ?_
          (refine inN_read (v := ?_) rfl (Or.inl ⟨by rfl, ?_⟩) ?_; rotate_left 1; (focus (intro W hSW; clear hSW; go_simp; (try (with_reducible rfl)))); (try simp only [Act.put, List.getElem_toArray, List.getElem_cons_zero, List.getElem_cons_succ, List.setIfInBounds_toArray, List.set_cons_zero, List.set_cons_succ]))
          (refine inN_read rfl (yl_cell tcB2 rfl rfl rfl (fun W hS => hS.1)) ?_; (try simp only [Act.put, List.getElem_toArray, List.getElem_cons_zero, List.getElem_cons_succ, List.setIfInBounds_toArray, List.set_cons_zero, List.set_cons_succ]))
          (refine inN_read (v := ?_) rfl (Or.inl ⟨by rfl, ?_⟩) ?_; rotate_left 1; (focus (intro W hSW; clear hSW; go_simp; (try (with_reducible rfl)))); (try simp only [Act.put, List.getElem_toArray, List.getElem_cons_zero, List.getElem_cons_succ, List.setIfInBounds_toArray, List.set_cons_zero, List.set_cons_succ]))
          (refine inN_read rfl (yl_cell tcPS2 rfl rfl rfl (fun W hS => hS.2.1)) ?_; (try simp only [Act.put, List.getElem_toArray, List.getElem_cons_zero, List.getElem_cons_succ, List.setIfInBounds_toArray, List.set_cons_zero, List.set_cons_succ]))
          (refine inN_read (v := ?_) rfl (Or.inl ⟨by rfl, ?_⟩) ?_; rotate_left 1; (focus (intro W hSW; clear hSW; go_simp; (try (with_reducible rfl)))); (try simp only [Act.put, List.getElem_toArray, List.getElem_cons_zero, List.getElem_cons_succ, List.setIfInBounds_toArray, List.set_cons_zero, List.set_cons_succ]))
          (refine inN_read (v := ?_) rfl (Or.inl ⟨by rfl, ?_⟩) ?_; rotate_left 1; (focus (intro W hSW; clear hSW; go_simp; (try (with_reducible rfl)))); (try simp only [Act.put, List.getElem_toArray, List.getElem_cons_zero, List.getElem_cons_succ, List.setIfInBounds_toArray, List.set_cons_zero, List.set_cons_succ]))
          (refine inN_read (v := ?_) rfl (Or.inl ⟨by rfl, ?_⟩) ?_; rotate_left 1; (focus (intro W hSW; clear hSW; go_simp; (try (with_reducible rfl)))); (try simp only [Act.put, List.getElem_toArray, List.getElem_cons_zero, List.getElem_cons_succ, List.setIfInBounds_toArray, List.set_cons_zero, List.set_cons_succ]))
          (refine inN_read rfl (yl_cell tcB2 rfl rfl rfl (fun W hS => hS.2.2)) ?_; (try simp only [Act.put, List.getElem_toArray, List.getElem_cons_zero, List.getElem_cons_succ, List.setIfInBounds_toArray, List.set_cons_zero, List.set_cons_succ]))
          (refine inN_pure (v := ?_) rfl (Or.inl ⟨by rfl, ?_⟩) ?_; rotate_left 1; (focus (intro W hSW; clear hSW; go_simp; (try (with_reducible rfl)))); (try simp only [Act.put, List.getElem_toArray, List.getElem_cons_zero, List.getElem_cons_succ, List.setIfInBounds_toArray, List.set_cons_zero, List.set_cons_succ]))
          refine inN_end ?_
          go_wp2
          go_ret
          refine ⟨false, As', Os', d', c', rfl, HC.out.drop.drop.drop, ?_⟩
          rw [HN.out]
          exact ⟨fun l hl => (by cases hl), fun _ => rfl⟩
        · rw [hpv] at HEX
          rw [hqv] at HEY
          clear hv hpv hqv
          go_upto_region 6 with (first | (refine at_load 55 rfl ?_; refine wl_run rfl 55 _ rfl rfl (run_load_s tyPM2 _ [.bool false, .int .i64 p.t] rfl (HEX.out _ HC.out.cx.grown)) ?_) | (refine at_alloc 55 rfl ?_; refine cf_alloc rfl 55 rfl _ zPM2 HC.out ?_; intro pb w' hn hc; (replace HC := hide hc; clear hc)) | (refine at_store 55 rfl ?_; refine cf_store rfl 55 _ _ rfl rfl rfl tyPM2.sz rfl HC.out (by repeat (first | exact List.Mem.head _ | apply List.Mem.tail)) (by exact PutS.all _ _ rfl) (by repeat (first | exact Upd.here _ _ _ | apply Upd.there)) ?_; intro w' hc; (replace HC := hide hc; clear hc)) | (refine at_load 46 rfl ?_; refine wl_load_c rfl 46 _ rfl tcPS2 rfl HC.out.cx (by repeat (first | exact List.Mem.head _ | apply List.Mem.tail)) (by repeat (first | exact GetS.cons _ (GetS.nil _) | apply GetS.skip)) ?_))
          replace HC := hide (HC.out.g (d1_g _)); refine wp_region_inN (fun W => W.cell? ⟨pb, 0, none⟩ = some (.bool false) ∧ W.cell? ⟨yb, 7, none⟩ = some (.slice (some ay) n y.pc) ∧ W.cell? By = some (.bool true)) [8] (Pn.of [(1, 0), (1, 1), (1, 2), (1, 3), (1, 4), (1, 5), (1, 6), (1, 7), (0, 8)] .nil) (by kernel_rfl) (by kernel_rfl) (by kernel_rfl) (by kernel_rfl) (fun _ _ d _ _ h => by cases d <;> exact h) ⟨cfcell HC.out (by repeat (first | exact List.Mem.head _ | apply List.Mem.tail)) (by repeat (first | exact GetS.cons _ (GetS.nil _) | apply GetS.skip)), cfcell HC.out (by repeat (first | exact List.Mem.head _ | apply List.Mem.tail)) (by repeat (first | exact GetS.cons _ (GetS.nil _) | apply GetS.skip)), (HEY.out _ HC.out.cx.grown).1⟩ ?_
          (refine inN_read (v := ?_) rfl (Or.inl ⟨by rfl, ?_⟩) ?_; rotate_left 1; (focus (intro W hSW; clear hSW; go_simp; (try (with_reducible rfl)))); (try simp only [Act.put, List.getElem_toArray, List.getElem_cons_zero, List.getElem_cons_succ, List.setIfInBounds_toArray, List.set_cons_zero, List.set_cons_succ]))
          (refine inN_read rfl (yl_cell tcB2 rfl rfl rfl (fun W hS => hS.1)) ?_; (try simp only [Act.put, List.getElem_toArray, List.getElem_cons_zero, List.getElem_cons_succ, List.setIfInBounds_toArray, List.set_cons_zero, List.set_cons_succ]))
          (refine inN_read (v := ?_) rfl (Or.inl ⟨by rfl, ?_⟩) ?_; rotate_left 1; (focus (intro W hSW; clear hSW; go_simp; (try (with_reducible rfl)))); (try simp only [Act.put, List.getElem_toArray, List.getElem_cons_zero, List.getElem_cons_succ, List.setIfInBounds_toArray, List.set_cons_zero, List.set_cons_succ]))
          (refine inN_read rfl (yl_cell tcPS2 rfl rfl rfl (fun W hS => hS.2.1)) ?_; (try simp only [Act.put, List.getElem_toArray, List.getElem_cons_zero, List.getElem_cons_succ, List.setIfInBounds_toArray, List.set_cons_zero, List.set_cons_succ]))
          (refine inN_read (v := ?_) rfl (Or.inl ⟨by rfl, ?_⟩) ?_; rotate_left 1; (focus (intro W hSW; clear hSW; go_simp; (try (with_reducible rfl)))); (try simp only [Act.put, List.getElem_toArray, List.getElem_cons_zero, List.getElem_cons_succ, List.setIfInBounds_toArray, List.set_cons_zero, List.set_cons_succ]))
          (refine inN_read (v := ?_) rfl (Or.inl ⟨by rfl, ?_⟩) ?_; rotate_left 1; (focus (intro W hSW; clear hSW; go_simp; (try (with_reducible rfl)))); (try simp only [Act.put, List.getElem_toArray, List.getElem_cons_zero, List.getElem_cons_succ, List.setIfInBounds_toArray, List.set_cons_zero, List.set_cons_succ]))
          (refine inN_read (v := ?_) rfl (Or.inl ⟨by rfl, ?_⟩) ?_; rotate_left 1; (focus (intro W hSW; clear hSW; go_simp; (try (with_reducible rfl)))); (try simp only [Act.put, List.getElem_toArray, List.getElem_cons_zero, List.getElem_cons_succ, List.setIfInBounds_toArray, List.set_cons_zero, List.set_cons_succ]))
          (refine inN_read rfl (yl_cell tcB2 rfl rfl rfl (fun W hS => hS.2.2)) ?_; (try simp only [Act.put, List.getElem_toArray, List.getElem_cons_zero, List.getElem_cons_succ, List.setIfInBounds_toArray, List.set_cons_zero, List.set_cons_succ]))
          (refine inN_pure (v := ?_) rfl (Or.inl ⟨by rfl, ?_⟩) ?_; rotate_left 1; (focus (intro W hSW; clear hSW; go_simp; (try (with_reducible rfl)))); (try simp only [Act.put, List.getElem_toArray, List.getElem_cons_zero, List.getElem_cons_succ, List.setIfInBounds_toArray, List.set_cons_zero, List.set_cons_succ]))
          refine inN_end ?_
          go_wp2
          go_ret
          refine ⟨false, As', Os', d', c', rfl, HC.out.drop.drop.drop, ?_⟩
          rw [HN.out]
          exact ⟨fun l hl => (by cases hl), fun _ => rfl⟩
    · obtain rfl : i = n := by omega
      have HL9 := hide (show askL x.x.pm y.x.pm = some (zpL x.x.pm y.x.pm) from askL_zip (HNx.out.trans HNy.out.symm) (fun j p q h1 h2 => HV.out j p q (by have := (List.getElem?_eq_some_iff.1 h1).1; have := HNx.out; omega) h1 h2))
      have hxt : x.x.pm.take i = x.x.pm := List.take_of_length_le (by have := HNx.out; omega)
      have hyt : y.x.pm.take i = y.x.pm := List.take_of_length_le (by have := HNy.out; omega)
      rw [hxt, hyt] at HAs HOs
      clear hlt hi hxt hyt
      go_wp2_with (first | (refine at_load 3 rfl ?_; refine wl_load_c rfl 3 _ rfl tcI rfl HC.out.cx (by repeat (first | exact List.Mem.head _ | apply List.Mem.tail)) (by repeat (first | exact GetS.cons _ (GetS.nil _) | apply GetS.skip)) ?_) | (go_at_call 85; refine (ask_at (HC.out.permL (up2 _ _ _ _)) x.x.rs y.x.rs HRx.out HRy.out HAl.out HOl.out).mono ?_; rintro e w2 ⟨rfl, d2, c2, hq⟩; replace HC := hide (hq.permL (up2 _ _ _ _).symm); clear hq))
      go_ret
      refine ⟨true, _, _, d2, c2, rfl, HC.out.drop.drop, ?_⟩
      rw [HL9.out]
      refine ⟨fun l hl => ?_, fun h => by cases h⟩
      simp only [Option.map_some, Option.some.injEq] at hl
      subst hl
      rw [askAll_snoc, ← HAs.out, ← HOs.out]
      exact ⟨rfl, rfl, rfl⟩
end Go.Proofs.Ythmldhppmpbadaa.Ty
