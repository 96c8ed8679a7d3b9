/-
  A store and the document's own side by side.
-/
import Derived.Test.YtaekljpijnkjoaaDoorRf8
import Derived.Test.YtaekljpijnkjoaaDoorSn4
namespace Go.Proofs.YtaekljpijnkjoaaDoor.St
open Go.RowKit Go.Maps Go.Proofs.YtaekljpijnkjoaaDoor.Tx
set_option linter.unusedVariables false
set_option linter.unusedSimpArgs false
set_option maxRecDepth 100000

/- The files behind a Put. -/
def nx (n t : List UInt8) (l A C : List Pr) : List Pr := if errP n t l = 0 then A ++ (n, t) :: C else l
/- What the document's Put writes of what was there: its head, or its row of texts. -/
def Ch (W W' : World) (q : Nat) (vT : Value) : Prop := W.grownBy W' (some q) ∨ W.grownBy W' vT.ownBlock
theorem Ch.still {W W' : World} {q : Nat} {vT : Value} (h : W.grownBy W' none) : Ch W W' q vT := .inl (but_g h _)
theorem Ch.held {W W' : World} {B q : Nat} {vN vT : Value} {l : List Pr} (c : Ch W W' q vT) (r : Rs W B q vN vT l) {k : Nat} {x : Array Value} {t : TypeId} (h : W.heap[k]? = some (.cells x t (0, 0))) (h1 : t ≠ 28) (h2 : t ≠ 9) : W'.heap[k]? = some (.cells x t (0, 0)) := by
  have hlt := (Array.getElem?_eq_some_iff.1 h).1
  rcases c with hg | hg
  · refine (hg.block k hlt (fun e => ?_)).trans h
    rw [Option.some.inj e, r.head] at h
    cases h
    exact h1 rfl
  · refine (hg.block k hlt (fun e => ?_)).trans h
    obtain ⟨c, hc⟩ := row_type r.tx e.symm
    rw [hc] at h
    cases h
    exact h2 rfl
theorem Ch.sto {W W' : World} {B q h b : Nat} {vN vT : Value} {l l' : List Pr} (c : Ch W W' q vT) (r : Rs W B q vN vT l) (s : Sto W h b l') : Sto W' h b l' := by
  refine ⟨c.held r s.head (by decide) (by decide), ?_⟩
  rcases c with hg | hg
  · exact s.files.kept hg (fun e => s.files.ne r.head (Option.some.inj e).symm)
  · exact s.files.kept hg (s.files.off r.tx)
theorem Ch.own {w W W' : World} {q : Nat} {vN vT : Value} {l : List Pr} (c : Ch W W' q vT) (r : Rs W w.heap.size q vN vT l) (hq : w.heap.size ≤ q) (hg : w.grownBy W none) : w.grownBy W' none := by
  rcases c with h | h
  · exact grown_own hg hq h
  · exact hg.andThen h (fun j hj => .inl (r.tx.lt j hj).1)
theorem Ch.row {W W' : World} {B M q n : Nat} {vN vT v : Value} {l : List Pr} {xs : List Value} (c : Ch W W' q vT) (r : Rs W B q vN vT l) (h : W.ownsRow M 9 1 v n xs) (hne : v.ownBlock = none ∨ v.ownBlock ≠ vT.ownBlock) : W'.ownsRow M 9 1 v n xs := by
  rcases c with hg | hg
  · refine h.kept hg (.inr (fun e => ?_))
    obtain ⟨c, hc⟩ := row_type h e
    rw [r.head] at hc
    cases hc
  · exact h.kept hg hne
theorem grown_refl (w : World) : w.grownBy w none := ⟨rfl, rfl, rfl, Nat.le_refl _, fun _ _ _ => rfl⟩
theorem rput_any {w : World} {B q : Nat} {vN vT : Value} {l A C : List Pr} {n : List UInt8} {m : Option (List UInt8)} (r : Rs w B q vN vT l) (c : Cut n l A C m) (hl : l.length ≤ 64) (hm : n.length ≤ maxLen) (t : List UInt8) (ht : t.length ≤ maxLen) (hB : B ≤ w.heap.size) :
    Calls Tryd.prog 9 #[.pointer (some ⟨q, 0, none⟩), .string (bs n), .string (bs t)] w fun e w' => e = .returned (.int .i64 (errP n t l)) ∧ ∃ vN' vT', Rs w' B q vN' vT' (nx n t l A C) ∧ Ch w w' q vT := by
  have hh : hasL n l = m.isSome := by unfold hasL; rw [c.has]
  unfold nx errP
  rw [hh]
  cases hn : nmB n
  · refine (rput_bad w q n t hm hn).mono fun e w' ⟨he, hw⟩ => ?_
    subst hw
    exact ⟨by rw [he]; rfl, vN, vT, by simpa using r, Ch.still (grown_refl _)⟩
  · by_cases hlt : 131072 < t.length
    · refine (rput_long w q n t hm ht hn hlt).mono fun e w' ⟨he, hw⟩ => ?_
      subst hw
      exact ⟨by simp [he, hlt], vN, vT, by simpa [hlt] using r, Ch.still (grown_refl _)⟩
    · cases m with
      | some u =>
        refine (rput_found r c hl hm hn t (by omega)).mono fun e w' ⟨he, hr, hg⟩ => ?_
        exact ⟨by simp [he, hlt], vN, vT, by simpa [hlt] using hr, .inr hg⟩
      | none =>
        by_cases h64 : l.length = 64
        · refine (rput_full r c h64 hm hn t (by omega)).mono fun e w' ⟨he, hw⟩ => ?_
          subst hw
          exact ⟨by simp [he, hlt, h64], vN, vT, by simpa [hlt, h64] using r, Ch.still (grown_refl _)⟩
        · have h64' : ¬ 64 ≤ l.length := by omega
          refine (rput_new r c (by omega) hm hn t (by omega) hB).mono fun e w' ⟨he, vN', vT', hr, hg⟩ => ?_
          exact ⟨by simp [he, hlt, h64'], vN', vT', by simpa [hlt, h64'] using hr, .inl hg⟩
theorem rdel_any {w : World} {B q : Nat} {vN vT : Value} {l A C : List Pr} {n : List UInt8} {m : Option (List UInt8)} (r : Rs w B q vN vT l) (c : Cut n l A C m) (hl : l.length ≤ 64) (hB : B ≤ w.heap.size) :
    Calls Tryd.prog 13 #[.pointer (some ⟨q, 0, none⟩), .string (bs n)] w fun e w' => e = .returned (.bool (hasL n l)) ∧ ∃ vN' vT', Rs w' B q vN' vT' (A ++ C) ∧ Ch w w' q vT := by
  have hh : hasL n l = m.isSome := by unfold hasL; rw [c.has]
  rw [hh]
  cases m with
  | none =>
    refine (rdel_no r c hl).mono fun e w' ⟨he, hw⟩ => ?_
    subst hw
    have e0 : l = A ++ C := by rw [c.is]; simp
    exact ⟨he, vN, vT, by rw [← e0]; exact r, Ch.still (grown_refl _)⟩
  | some u => exact (rdel_yes r c hl hB).mono fun e w' ⟨he, vN', vT', hr, hg⟩ => ⟨he, vN', vT', hr, .inl hg⟩
/- Both, side by side: what is there since w began. -/
structure Tw (w W : World) (h b q : Nat) (vN vT : Value) (l l' : List Pr) : Prop where
  st : Sto W h b l
  rs : Rs W w.heap.size q vN vT l'
  gr : w.grownBy W none
  lb : w.heap.size ≤ b
  lq : w.heap.size ≤ q
theorem Tw.kept {w W W' : World} {h b q : Nat} {vN vT : Value} {l l' : List Pr} (t : Tw w W h b q vN vT l l') (hg : W.grownBy W' none) : Tw w W' h b q vN vT l l' :=
  ⟨t.st.kept hg (by simp) (by simp), t.rs.grown hg, grown_trans t.gr hg, t.lb, t.lq⟩
theorem Tw.one {w W W' : World} {h b q : Nat} {vN vT : Value} {l l' l2 : List Pr} (t : Tw w W h b q vN vT l l') (hg : W.grownBy W' (some b)) (s : Sto W' h b l2) : Tw w W' h b q vN vT l2 l' :=
  ⟨s, t.rs.kept hg (fun e => t.st.files.ne t.rs.head (Option.some.inj e)) (.inr (t.st.files.off t.rs.nm).symm) (.inr (t.st.files.off t.rs.tx).symm), grown_own t.gr t.lb hg, t.lb, t.lq⟩
theorem Tw.two {w W W' : World} {h b q : Nat} {vN vT vN' vT' : Value} {l l' l2 : List Pr} (t : Tw w W h b q vN vT l l') (c : Ch W W' q vT) (r : Rs W' w.heap.size q vN' vT' l2) : Tw w W' h b q vN' vT' l l2 :=
  ⟨c.sto t.rs t.st, r, c.own t.rs t.lq t.gr, t.lb, t.lq⟩
theorem cut_put {n t : List UInt8} {l A C : List Pr} {m : Option (List UInt8)} (c : Cut n l A C m) : (putS n t l).Perm (nx n t l A C) := by
  unfold putS nx
  split
  · exact c.perm t
  · exact .refl _
theorem nx_srt {n t : List UInt8} {l A C : List Pr} {m : Option (List UInt8)} (c : Cut n l A C m) (h : Srt l) : Srt (nx n t l A C) := by
  unfold nx
  split
  · exact c.put h t
  · exact h
theorem nx_len {n t : List UInt8} {l A C : List Pr} {m : Option (List UInt8)} (c : Cut n l A C m) (h : l.length ≤ 64) : (nx n t l A C).length ≤ 64 := by
  unfold nx
  split
  · rename_i he
    have hh : hasL n l = m.isSome := by unfold hasL; rw [c.has]
    have hlen := congrArg List.length c.is
    cases m with
    | some u => simp at hlen ⊢; omega
    | none =>
      have : ¬ 64 ≤ l.length := fun h64 => by
        unfold errP at he
        rw [hh] at he
        cases hn : nmB n
        · simp [hn] at he
        · by_cases hlt : 131072 < t.length
          · simp [hn, hlt] at he
          · simp [hn, hlt, h64] at he
      simp at hlen ⊢
      omega
  · exact h
theorem cut_len {n : List UInt8} {l A C : List Pr} {m : Option (List UInt8)} (c : Cut n l A C m) (h : l.length ≤ 64) : (A ++ C).length ≤ 64 := by
  have hlen := congrArg List.length c.is
  cases m <;> simp at hlen ⊢ <;> omega
theorem few64 {l : List Pr} (h : l.length ≤ 64) : l.length < maxLen := by unfold maxLen; omega
section
variable {w W : World} {h b q : Nat} {vN vT : Value} {l l' A C : List Pr} {n : List UInt8} {m : Option (List UInt8)}
theorem tw_put1 (t : Tw w W h b q vN vT l l') (c : Cut n l A C m) (hl : l.length ≤ 64) (hm : n.length ≤ maxLen) (x : List UInt8) (hx : x.length ≤ maxLen) :
    Calls Tryd.prog 8 #[.pointer (some ⟨h, 0, none⟩), .string (bs n), .string (bs x)] W fun e W' => e = .returned (.int .i64 (errP n x l)) ∧ W.grownBy W' (some b) ∧ Tw w W' h b q vN vT (nx n x l A C) l' :=
  (put_at t.st n x hm hx (few64 hl)).mono fun e W' ⟨he, hg, hs⟩ => ⟨he, hg, t.one hg (hs.perm (cut_put c))⟩
theorem tw_put2 (t : Tw w W h b q vN vT l' l) (c : Cut n l A C m) (hl : l.length ≤ 64) (hm : n.length ≤ maxLen) (x : List UInt8) (hx : x.length ≤ maxLen) :
    Calls Tryd.prog 9 #[.pointer (some ⟨q, 0, none⟩), .string (bs n), .string (bs x)] W fun e W' => e = .returned (.int .i64 (errP n x l)) ∧ Ch W W' q vT ∧ ∃ vN' vT', Tw w W' h b q vN' vT' l' (nx n x l A C) :=
  (rput_any t.rs c hl hm x hx t.gr.size).mono fun e W' ⟨he, vN', vT', hr, hc⟩ => ⟨he, hc, vN', vT', t.two hc hr⟩
theorem tw_del1 (t : Tw w W h b q vN vT l l') (c : Cut n l A C m) (hm : n.length ≤ maxLen) :
    Calls Tryd.prog 12 #[.pointer (some ⟨h, 0, none⟩), .string (bs n)] W fun e W' => e = .returned (.bool (hasL n l)) ∧ W.grownBy W' (some b) ∧ Tw w W' h b q vN vT (A ++ C) l' :=
  (del_at t.st n hm).mono fun e W' ⟨he, hg, hs⟩ => ⟨he, hg, t.one hg (c.out ▸ hs)⟩
theorem tw_del2 (t : Tw w W h b q vN vT l' l) (c : Cut n l A C m) (hl : l.length ≤ 64) :
    Calls Tryd.prog 13 #[.pointer (some ⟨q, 0, none⟩), .string (bs n)] W fun e W' => e = .returned (.bool (hasL n l)) ∧ Ch W W' q vT ∧ ∃ vN' vT', Tw w W' h b q vN' vT' l' (A ++ C) :=
  (rdel_any t.rs c hl t.gr.size).mono fun e W' ⟨he, vN', vT', hr, hc⟩ => ⟨he, hc, vN', vT', t.two hc hr⟩
theorem tw_get1 (t : Tw w W h b q vN vT l l') (c : Cut n l A C m) (hm : n.length ≤ maxLen) :
    Calls Tryd.prog 10 #[.pointer (some ⟨h, 0, none⟩), .string (bs n)] W fun e W' => e = .returned (.tuple #[.string (bs (m.getD [])), .bool m.isSome]) ∧ W.grownBy W' none := by
  have := St.get_at t.st n hm
  unfold hasL at this
  rw [c.has] at this
  exact this
theorem sto_names (s : Sto W h b l) (hs : Srt l) (hl : l.length ≤ 64) :
    Calls Tryd.prog 18 #[.pointer (some ⟨h, 0, none⟩)] W fun e W' => ∃ v, e = .returned v ∧ W.grownBy W' none ∧ W'.ownsRow W.heap.size 9 1 v l.length (l.map nmV) :=
  (names_at s hl).mono fun e W' ⟨v, ns, he, hg, hp, ho⟩ => ⟨v, he, hg, by
    rw [srt_names hs hp, List.map_map] at ho
    exact ho⟩
end
theorem both_same {w : World} {B B' k k' : Nat} {u v : Value} {l : List Pr} (hu : w.ownsRow B 9 1 u k (l.map nmV)) (hv : w.ownsRow B' 9 1 v k' (l.map nmV)) (hl : l.length ≤ 64) :
    Calls Tryd.prog 17 #[u, v] w fun e w' => e = .returned (.bool true) ∧ w.grownBy w' none := by
  have e : l.map nmV = (l.map Prod.fst).map (fun s => Value.string (bs s)) := by rw [List.map_map]; rfl
  rw [e] at hu hv
  exact texts_same (own_src hu) (own_src hv) (by simp; omega)
/- The forks, beside what they came of and the names told of it. -/
structure Fk (w W : World) (h b : Nat) (v : Value) (l : List Pr) (h2 b2 q2 : Nat) (vN2 vT2 : Value) (l1 l2 : List Pr) : Prop where
  tw : Tw w W h2 b2 q2 vN2 vT2 l1 l2
  st : Sto W h b l
  ow : W.ownsRow w.heap.size 9 1 v l.length (l.map nmV)
  nb : b ≠ b2
  ne : v.ownBlock = none ∨ v.ownBlock ≠ vT2.ownBlock
theorem Fk.kept {w W W' : World} {h b h2 b2 q2 : Nat} {v vN2 vT2 : Value} {l l1 l2 : List Pr} (f : Fk w W h b v l h2 b2 q2 vN2 vT2 l1 l2) (hg : W.grownBy W' none) : Fk w W' h b v l h2 b2 q2 vN2 vT2 l1 l2 :=
  ⟨f.tw.kept hg, f.st.kept hg (by simp) (by simp), f.ow.kept hg (none_or _), f.nb, f.ne⟩
theorem Fk.one {w W W' : World} {h b h2 b2 q2 : Nat} {v vN2 vT2 : Value} {l l1 l2 l3 : List Pr} (f : Fk w W h b v l h2 b2 q2 vN2 vT2 l1 l2) (hg : W.grownBy W' (some b2)) (t : Tw w W' h2 b2 q2 vN2 vT2 l3 l2) : Fk w W' h b v l h2 b2 q2 vN2 vT2 l3 l2 :=
  ⟨t, f.st.kept hg (fun e => f.tw.st.files.ne f.st.head (Option.some.inj e)) (fun e => f.nb (Option.some.inj e)), f.ow.kept hg (.inr (f.tw.st.files.off f.ow).symm), f.nb, f.ne⟩
/- Behind the second Put: what they came of, and the names. -/
theorem Fk.two {w W W' : World} {h b h2 b2 q2 : Nat} {v vN2 vT2 : Value} {l l1 l2 : List Pr} (f : Fk w W h b v l h2 b2 q2 vN2 vT2 l1 l2) (c : Ch W W' q2 vT2) : Sto W' h b l ∧ W'.ownsRow w.heap.size 9 1 v l.length (l.map nmV) :=
  ⟨c.sto f.tw.rs f.st, c.row f.tw.rs f.ow f.ne⟩
theorem rs_down {W : World} {M B q : Nat} {vN vT : Value} {l : List Pr} (r : Rs W M q vN vT l) (h : B ≤ M) : Rs W B q vN vT l := ⟨r.head, row_down r.nm h, row_down r.tx h, r.ne⟩
theorem fk_mk {w W W1 W2 : World} {h b h2 b2 q q2 : Nat} {v vN vT vN2 vT2 : Value} {l : List Pr} {k : Nat} (t : Tw w W h b q vN vT l l) (ho : W.ownsRow w.heap.size 9 1 v l.length (l.map nmV))
    (g1 : W.grownBy W1 none) (hb2 : W.heap.size ≤ b2) (s2 : Sto W1 h2 b2 l) (g2 : W1.grownBy W2 none) (hq2 : W1.heap.size ≤ q2) (r2 : Rs W2 W1.heap.size q2 vN2 vT2 l) : Fk w W2 h b v l h2 b2 q2 vN2 vT2 l l := by
  have hs0 := t.gr.size
  have hs1 := g1.size
  refine ⟨⟨s2.kept g2 (by simp) (by simp), rs_down r2 (by omega), grown_trans t.gr (grown_trans g1 g2), by omega, by omega⟩, (t.st.kept g1 (by simp) (by simp)).kept g2 (by simp) (by simp), (ho.kept g1 (none_or _)).kept g2 (none_or _), ?_, ?_⟩
  · have := t.st.files.lt
    omega
  · cases hv : v.ownBlock with
    | none => exact .inl rfl
    | some k =>
      refine .inr (fun e => ?_)
      have h1 := (ho.lt k hv).2
      have h2 := (r2.tx.lt k e.symm).1
      omega
end Go.Proofs.YtaekljpijnkjoaaDoor.St
