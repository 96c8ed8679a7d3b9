/-
  Package types: names that stand once among a record's fields and its bases'.
-/
import Derived.Test.YtmoekalagollhaaTy11
import Derived.Test.YtmoekalagollhaaCf1
namespace Go.Proofs.Ytmoekalagollhaa.Ty
open Go.RowKit hiding Hid
open Go.Maps Go.Proofs.Ytmoekalagollhaa.Tx Go.Proofs.Ytmoekalagollhaa.Lx Go.Proofs.Ytmoekalagollhaa.Tr Go.Proofs.Ytmoekalagollhaa.Mp
set_option linter.unusedVariables false
set_option linter.unusedSimpArgs false
set_option maxRecDepth 100000

def nmA (T : List Tt) (i : Nat) : List Txt := match T[i]? with
  | some x => x.fl.map (·.n)
  | none => []
def baA (T : List Tt) (i : Nat) : Nat := match T[i]? with
  | some x => x.ba.toNat
  | none => 0
def nmsL (T : List Tt) : Nat → Nat → List Txt
  | 0, i => nmA T i
  | n + 1, i => nmA T i ++ nmsL T n (baA T i)
def lvF (T : List Tt) : Nat → Nat → Nat
  | 0, _ => 0
  | k + 1, i => match T[i]? with
    | some x => if x.ba = 0 then 0 else lvF T k x.ba.toNat + 1
    | none => 0
theorem lvF_is {T : List Tt} : ∀ {k m i : Nat}, Lv T m i → m ≤ k → lvF T k i = m
  | 0, 0, i, _, _ => rfl
  | 0, m + 1, i, _, h => by omega
  | k + 1, 0, i, ⟨x, h, e⟩, _ => by rw [lvF, h]; simp [e]
  | k + 1, m + 1, i, ⟨x, h, e, _, hl⟩, hk => by rw [lvF, h]; simp only [e, if_false]; rw [lvF_is hl (by omega)]
theorem nmA_at {T : List Tt} {i : Nat} {x : Tt} (h : T[i]? = some x) : nmA T i = x.fl.map (·.n) := by rw [nmA, h]
theorem baA_at {T : List Tt} {i : Nat} {x : Tt} (h : T[i]? = some x) : baA T i = x.ba.toNat := by rw [baA, h]
/- What the map holds behind the names P of record r. -/
def pm (f : Txt → Int) (r : Int) (P : List Txt) : Txt → Int := fun s => if s ∈ P then r else f s
theorem pm_nil (f : Txt → Int) (r : Int) : pm f r [] = f := by funext s; simp [pm]
theorem pm_put (f : Txt → Int) (r : Int) (P : List Txt) (s : Txt) : upd (pm f r P) s r = pm f r (P ++ [s]) := by
  funext t
  unfold upd pm
  by_cases e : t = s
  · simp [e]
  · simp [e]
theorem pm_hit {f : Txt → Int} {r : Int} {P : List Txt} {s : Txt} (hf : f s ≠ r) : pm f r P s = r ↔ s ∈ P := by
  unfold pm
  by_cases e : s ∈ P <;> simp [e, hf]
theorem stabI (b : Nat) (f : Txt → Int) (c : Nat) : Stab b (fun W => MapI W b f c) := fun w w' row hg hne h => h.kept hg hne
theorem nodup_not {P R : List Txt} {s : Txt} (h : s ∈ P) : ¬ (P ++ s :: R).Nodup := fun hn => by
  have := (List.nodup_append.1 hn).2.2 s h s (.head _)
  exact this rfl
theorem nodup_snoc {P : List Txt} {s : Txt} (h : P.Nodup) (hs : s ∉ P) : (P ++ [s]).Nodup := List.nodup_append.2 ⟨h, by simp, fun a ha b hb e => by simp at hb; subst hb; subst e; exact hs ha⟩
theorem take_one {α β : Type} {f : α → β} {l : List α} {k : Nat} {x : α} (h : l[k]? = some x) : (l.take (k + 1)).map f = (l.take k).map f ++ [f x] := by
  rw [List.take_add_one, h, List.map_append]
  rfl
theorem rest_one {α β : Type} {f : α → β} {l : List α} {k : Nat} {x : α} (h : l[k]? = some x) : l.map f = (l.take k).map f ++ f x :: (l.drop (k + 1)).map f := by
  obtain ⟨hk, rfl⟩ := List.getElem?_eq_some_iff.1 h
  conv => lhs; rw [← List.take_append_drop k l, List.map_append, List.drop_eq_getElem_cons hk, List.map_cons]
def nmsR (T : List Tt) : Nat → Nat → List Txt
  | 0, _ => []
  | n + 1, i => nmsL T n (baA T i)
theorem nms_split {T : List Tt} {m i : Nat} {x : Tt} (_ : Lv T m i) (h : T[i]? = some x) : nmsL T m i = x.fl.map (·.n) ++ nmsR T m i := by
  cases m with
  | zero => rw [nmsL, nmA_at h, nmsR, List.append_nil]
  | succ m => rw [nmsL, nmA_at h, nmsR]
def NmO (w : World) (mb : Nat) (f : Txt → Int) (rec : Int) (N : List Txt) (c : Nat) (e : Ending) (w' : World) : Prop := ∃ d, e = .returned (.bool d) ∧ w.grownBy w' (some mb) ∧ (d = true → N.Nodup ∧ MapI w' mb (pm f rec N) (c + N.length)) ∧ (d = false → ¬ N.Nodup)
set_option maxHeartbeats 8000000 in
theorem named_at {w0 w : World} {o : Option Addr} {T : List Tt} {n rec mb c : Nat} {f : Txt → Int} (cp : Nat) (H : Tab w0 o T) (h0 : w0.grownBy w none) (hmb : w0.heap.size ≤ mb) (hl : Lv T n rec) (hr : rec ≠ 0) (hM : MapI w mb f c) (hf : ∀ s, f s ≠ rec) (hc : c + (nmsL T n rec).length < 1000000) :
    Calls Try.prog 72 #[.slice o T.length cp, .int .i64 rec, .map (some mb)] w (NmO w mb f rec (nmsL T n rec) c) := by
  obtain ⟨N, hN⟩ : ∃ N, nmsL T n rec = N := ⟨_, rfl⟩
  rw [hN] at hc ⊢
  have HT := hide H
  have HF := hide hf
  have HNn := hide hc
  have HC := hide ((Cf.of (cx_x w (fun _ => False) hM.lt)).take (p := fun W => MapI W mb f c) hM (stabI _ _ _) hM.lt)
  have HG0 := hide (fun W (hW : w.grownBy W (some mb)) => grown_then h0 hW (fun y e => by cases e; exact .inr hmb))
  have HL := hide (And.intro hl hN)
  have HR := hide hr
  clear H hf hc hM h0 hmb hl hN hr
  go_enter Try.func72, Try.ntmps72
  go_wp2
  go_loopw [7] (fun av W => ∃ (j : Nat) (P : List Txt), av = .int .i64 j ∧ Hid ((j = 0 ∧ N = P) ∨ (j ≠ 0 ∧ ∃ m, m ≤ n ∧ Lv T m j ∧ N = P ++ nmsL T m j)) ∧ Hid P.Nodup ∧ Hid (Cf w (fun _ => False) (some mb) [] [] [⟨mb, fun W => MapI W mb (pm f rec P) (c + P.length)⟩] W)) (fun av _ => if (intOf av).toNat = 0 then 0 else lvF T n (intOf av).toNat + 1)
  case atStart => exact ⟨rec, [], rfl, hide (.inr ⟨HR.out, n, Nat.le_refl _, HL.out.1, HL.out.2.symm⟩), hide List.nodup_nil, hide (by rw [pm_nil]; exact HC.out)⟩
  case round =>
    clear HC
    obtain ⟨j, P, rfl, HJ, HP, HC⟩ := hrel
    by_cases hj : j = 0
    · subst hj
      have hN : N = P := by
        rcases HJ.out with ⟨_, h⟩ | ⟨h, _⟩
        · exact h
        · exact absurd rfl h
      have HNP := hide hN
      clear hN
      go_wp2
      go_ret
      refine ⟨true, rfl, HC.out.cx.grown, fun _ => ?_, (fun e => by cases e)⟩
      rw [HNP.out]
      exact ⟨HP.out, HC.out.fs _ (.head _)⟩
    · obtain ⟨m, hm, hlv, hNe⟩ : ∃ m, m ≤ n ∧ Lv T m j ∧ N = P ++ nmsL T m j := by
        rcases HJ.out with ⟨h, _⟩ | ⟨_, h⟩
        · exact absurd h hj
        · exact h
      have hjl := hlv.lt
      have j1 : (j : Int) < T.length := by omega
      obtain ⟨x, hx⟩ : ∃ x, T[j]? = some x := ⟨T[j], List.getElem?_eq_getElem hjl⟩
      obtain ⟨ad, la, rfl, rfl, hcl, hp⟩ := HT.out.at hx
      obtain ⟨B, hB⟩ : ∃ B, ad.add (j * 10) = B := ⟨_, rfl⟩
      rw [hB] at hcl
      obtain ⟨b0, _, _, _, _, b5, b6, _⟩ := ten_of hcl
      have hg0 := HG0.out _ HC.out.cx.grown
      have c0 := hg0.cell b0 (by simp)
      have c6 := hg0.cell b6 (by simp)
      have bl := block_lt_of_cell c0
      have HB5 := hide b5
      have HX := hide hx
      have HLp := hide hp
      have HLv := hide (And.intro hm (And.intro hlv hNe))
      have k0 : (la.x.fl.length : Int) ≤ 1000000 := by have := hp.sm.fl; omega
      have hb : ((j : Int) != 0) = true := by simp; omega
      clear hcl hx hp hlv hNe b0 b5 b6 hg0 c0 hm HJ
      go_wp2
      go_loopw [24] (fun kv W => ∃ (k : Nat), k ≤ la.x.fl.length ∧ kv = .int .i64 k ∧ Hid (P ++ (la.x.fl.take k).map (·.n)).Nodup ∧ Hid (Cf w (fun _ => False) (some mb) [] [] [⟨mb, fun W => MapI W mb (pm f rec (P ++ (la.x.fl.take k).map (·.n))) (c + (P ++ (la.x.fl.take k).map (·.n)).length)⟩] W)) (fun kv _ => la.x.fl.length - (intOf kv).toNat)
      case atStart => exact ⟨0, by omega, rfl, hide (by simpa using HP.out), hide (by simpa using HC.out)⟩
      case round =>
        clear HC c6 bl
        obtain ⟨k, hk, rfl, HND, HC⟩ := hrel
        by_cases hlt : k < la.x.fl.length
        · have q1 : (k : Int) < la.x.fl.length := by omega
          obtain ⟨⟨nm, x, t⟩, hxk⟩ : ∃ p, la.x.fl[k]? = some p := ⟨la.x.fl[k], List.getElem?_eq_getElem hlt⟩
          obtain ⟨fd, hfo, hel⟩ := HLp.out.fl.el flC_len (by decide) hxk
          have HEL := hide (fun W (hW : w0.grownBy W none) j u (hu : (flC ⟨nm, x, t⟩)[j]? = some u) => hW.cell (hel j u hu) (by simp))
          unfold flC at HEL
          dsimp only at HEL
          obtain ⟨B2, hB2⟩ : ∃ B, fd.add (k * 3) = B := ⟨_, rfl⟩
          rw [hB2] at HEL
          have HNl := hide (show nm.length ≤ maxLen from HLp.out.sm.fn _ (List.mem_of_getElem? hxk))
          have hst := take_one (f := Fl.n) hxk
          have hrs := rest_one (f := Fl.n) hxk
          obtain ⟨P', hP'⟩ : ∃ P', P ++ (la.x.fl.take k).map Fl.n = P' := ⟨_, rfl⟩
          rw [hP'] at HND HC
          have HN2 := hide (show ∃ R, N = P' ++ nm :: R by
            obtain ⟨_, hlv, hNe⟩ := HLv.out
            refine ⟨(la.x.fl.drop (k + 1)).map Fl.n ++ nmsR T m j, ?_⟩
            rw [hNe, ← hP', nms_split hlv HX.out, hrs]
            simp only [List.append_assoc, List.cons_append])
          have HCn := hide (show c + P'.length < 1000000 by
            obtain ⟨R, hR⟩ := HN2.out
            have := HNn.out
            rw [hR, List.length_append] at this
            omega)
          have HP' := hide hP'
          have HST := hide hst
          rw [hfo]
          clear hel hxk hst hrs hP' hfo
          by_cases hin : nm ∈ P'
          · have HV := hide (show pm f rec P' nm = rec by unfold pm; rw [if_pos hin])
            have HIn := hide hin
            clear hin
            go_wp2_with (first | (refine at_load 100 rfl ?_; refine wl_run rfl 100 _ rfl rfl (run_load_s tyF _ [.string (bs nm), .bool x, .int .i64 t] rfl (HEL.out _ (HG0.out _ HC.out.cx.grown))) ?_) | (refine at_alloc 100 rfl ?_; refine cf_alloc rfl 100 rfl _ zF HC.out ?_; intro bf w' hn hc; (replace HC := hide hc; clear hc)) | (refine at_store 100 rfl ?_; refine cf_store rfl 100 _ _ rfl rfl rfl tyF.sz rfl HC.out (by repeat (first | exact List.Mem.head _ | apply List.Mem.tail)) (by exact PutS.all _ _ rfl) (by repeat (first | exact Upd.here _ _ _ | apply Upd.there)) ?_; intro w' hc; (replace HC := hide hc; clear hc)) | (refine at_load 9 rfl ?_; refine wl_load_c rfl 9 _ rfl tcS rfl HC.out.cx (by repeat (first | exact List.Mem.head _ | apply List.Mem.tail)) (by repeat (first | exact GetS.cons _ (GetS.nil _) | apply GetS.skip)) ?_) | (refine at_lookup 93 rfl ?_; refine wl_look rfl rfl rfl rfl ((HC.out.fs _ (.head _)).look HNl.out) ?_; rw [HV.out]))
            go_ret
            refine ⟨false, rfl, HC.out.cx.grown, (fun e => by cases e), fun _ => ?_⟩
            obtain ⟨R, hR⟩ := HN2.out
            rw [hR]
            exact nodup_not HIn.out
          · obtain ⟨v, hv⟩ : ∃ v, pm f rec P' nm = v := ⟨_, rfl⟩
            have HV := hide hv
            have hne : v ≠ rec := by rw [← hv]; unfold pm; rw [if_neg hin]; exact HF.out nm
            have hve : (v == (rec : Int)) = false := by simpa using hne
            have HIn := hide hin
            clear hin hv hne
            go_wp2_with (first | (refine at_load 100 rfl ?_; refine wl_run rfl 100 _ rfl rfl (run_load_s tyF _ [.string (bs nm), .bool x, .int .i64 t] rfl (HEL.out _ (HG0.out _ HC.out.cx.grown))) ?_) | (refine at_alloc 100 rfl ?_; refine cf_alloc rfl 100 rfl _ zF HC.out ?_; intro bf w' hn hc; (replace HC := hide hc; clear hc)) | (refine at_store 100 rfl ?_; refine cf_store rfl 100 _ _ rfl rfl rfl tyF.sz rfl HC.out (by repeat (first | exact List.Mem.head _ | apply List.Mem.tail)) (by exact PutS.all _ _ rfl) (by repeat (first | exact Upd.here _ _ _ | apply Upd.there)) ?_; intro w' hc; (replace HC := hide hc; clear hc)) | (refine at_load 9 rfl ?_; refine wl_load_c rfl 9 _ rfl tcS rfl HC.out.cx (by repeat (first | exact List.Mem.head _ | apply List.Mem.tail)) (by repeat (first | exact GetS.cons _ (GetS.nil _) | apply GetS.skip)) ?_) | (refine at_lookup 93 rfl ?_; refine wl_look rfl rfl rfl rfl ((HC.out.fs _ (.head _)).look HNl.out) ?_; rw [HV.out]) | (refine at_put 93 rfl ?_; obtain ⟨w9, hr9, hm9, hg9⟩ := (HC.out.fs _ (.head _)).put HCn.out HNl.out (rec : Int); refine wl_put rfl rfl rfl rfl rfl hr9 ?_; replace HC := hide (HC.out.turn (Fs' := []) hg9 hm9 (stabI _ _ _)); clear hr9 hm9 hg9))
            refine ⟨⟨k + 1, by omega, by go_num, hide ?_, hide ?_⟩, by simp [intOf]; omega⟩
            · rw [HST.out, ← List.append_assoc, HP'.out]
              exact nodup_snoc HND.out HIn.out
            · have h := HC.out.drop
              rw [pm_put] at h
              rw [HST.out, ← List.append_assoc, HP'.out, List.length_append, ← Nat.add_assoc]
              exact h
        · obtain rfl : k = la.x.fl.length := by omega
          rw [List.take_of_length_le (Nat.le_refl _)] at HND HC
          have hg0 := HG0.out _ HC.out.cx.grown
          have c5 := hg0.cell HB5.out (by simp)
          have bl := block_lt_of_cell c5
          clear hg0
          obtain ⟨q, hq, HQ⟩ : ∃ q : Nat, la.x.ba = (q : Int) ∧ Hid ((q = 0 ∧ N = P ++ la.x.fl.map Fl.n) ∨ (q ≠ 0 ∧ lvF T n j = lvF T n q + 1 ∧ ∃ m, m ≤ n ∧ Lv T m q ∧ N = (P ++ la.x.fl.map Fl.n) ++ nmsL T m q)) := by
            obtain ⟨hm, hlv, hNe⟩ := HLv.out
            cases m with
            | zero =>
              obtain ⟨x, hx, e⟩ := hlv
              rw [HX.out] at hx
              cases hx
              exact ⟨0, e, hide (.inl ⟨rfl, by rw [hNe, nmsL, nmA_at HX.out]⟩)⟩
            | succ m =>
              have hlv' := hlv
              obtain ⟨x, hx, e, e2, hl2⟩ := hlv
              rw [HX.out] at hx
              cases hx
              obtain ⟨q, hq⟩ := Int.eq_ofNat_of_zero_le e2
              refine ⟨q, hq, hide (.inr ⟨fun e3 => e (by rw [hq, e3]; rfl), ?_, m, by omega, ?_, ?_⟩)⟩
              · rw [hq, Int.toNat_natCast] at hl2
                rw [lvF_is hlv' hm, lvF_is hl2 (by omega)]
              · rw [hq, Int.toNat_natCast] at hl2
                exact hl2
              · rw [hNe, nmsL, nmA_at HX.out, baA_at HX.out, hq, Int.toNat_natCast, List.append_assoc]
          rw [hq] at c5
          clear hq
          go_wp2
          refine ⟨⟨q, P ++ la.x.fl.map Fl.n, rfl, hide ?_, HND, HC⟩, ?_⟩
          · rcases HQ.out with ⟨h1, h2⟩ | ⟨h1, _, h2⟩
            · exact .inl ⟨h1, h2⟩
            · exact .inr ⟨h1, h2⟩
          · show (if q = 0 then 0 else lvF T n q + 1) < (if j = 0 then 0 else lvF T n j + 1)
            rw [if_neg hj]
            rcases HQ.out with ⟨h1, _⟩ | ⟨h1, h2, _⟩
            · rw [if_pos h1]; omega
            · rw [if_neg h1, h2]; omega
end Go.Proofs.Ytmoekalagollhaa.Ty
