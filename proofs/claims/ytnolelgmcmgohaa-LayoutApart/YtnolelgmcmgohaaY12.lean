/-
  Types: a good table with types more behind it, purely.
  Layout's laws: LayoutArrays, walked.
  Layout's laws: LayoutArrays, walked whole.
  Layout's laws: LayoutArrays, for every input.
-/
import Derived.Test.YtnolelgmcmgohaaTp3
import Derived.Test.YtnolelgmcmgohaaLy6
import Derived.Test.YtnolelgmcmgohaaY11
namespace Go.Proofs.Ytnolelgmcmgohaa.Ty
open Go.RowKit hiding Hid
open Go.Proofs.Ytnolelgmcmgohaa.Tx Go.Proofs.Ytnolelgmcmgohaa.Lx Go.Proofs.Ytnolelgmcmgohaa.Tr
set_option linter.unusedVariables false
set_option linter.unusedSimpArgs false

theorem at_app {T U : List Tt} {i : Nat} (h : i < T.length) : (T ++ U)[i]? = T[i]? := List.getElem?_append_left h
theorem at_app_of {T U : List Tt} {i : Nat} {x : Tt} (h : T[i]? = some x) : (T ++ U)[i]? = some x := by rw [at_app (List.getElem?_eq_some_iff.1 h).1, h]
theorem fm_app {T : List Tt} (U : List Tt) {a : Int} (h : fmA T a ≠ -1) : fmA (T ++ U) a = fmA T a := by
  obtain ⟨h0, h1, x, hx, e⟩ := fmA_in h
  obtain ⟨q, rfl⟩ := Int.eq_ofNat_of_zero_le h0
  rw [Int.toNat_natCast] at hx
  rw [fmA_at (at_app_of (U := U) hx), ← e]
theorem elem_app {T : List Tt} (U : List Tt) {a : Int} (h : elemF (fmA T a) = true) : elemF (fmA (T ++ U) a) = true := by
  rw [fm_app U (fun e => by rw [e] at h; revert h; decide)]; exact h
theorem open_app {T : List Tt} (U : List Tt) {a : Int} (h : openF (fmA T a) = true) : openF (fmA (T ++ U) a) = true := by
  rw [fm_app U (fun e => by rw [e] at h; revert h; decide)]; exact h
theorem parts_app {T : List Tt} (U : List Tt) {x : Tt} (h : partsB T x = true) : partsB (T ++ U) x = true := by
  unfold partsB
  rcases parts_fm h with f | f | f | f | f
  · obtain ⟨a, b, c, d⟩ := parts_7 h f
    rw [if_pos f]
    simp only [Bool.and_eq_true, decide_eq_true_eq]
    exact ⟨⟨a, b, elem_app U c⟩, d⟩
  · obtain ⟨c, d⟩ := parts_8 h f
    rw [if_neg (by omega), if_pos f]
    simp only [Bool.and_eq_true]
    exact ⟨open_app U c, d⟩
  · obtain ⟨a, b, c, d, e⟩ := parts_9 h f
    rw [if_neg (by omega), if_neg (by omega), if_pos f]
    simp only [Bool.and_eq_true, decide_eq_true_eq]
    refine ⟨⟨?_, ?_, c, d⟩, e⟩
    · unfold baseA at a ⊢
      simp only [Bool.or_eq_true, beq_iff_eq] at a ⊢
      rcases a with a | a
      · exact .inl a
      · exact .inr (by rw [fm_app U (by rw [a]; decide)]; exact a)
    · unfold flsB at b ⊢
      simp only [Bool.and_eq_true, decide_eq_true_eq] at b ⊢
      refine ⟨b.1, List.all_eq_true.2 (fun g hg => ?_)⟩
      have := List.all_eq_true.1 b.2 g hg
      unfold flB at this ⊢
      simp only [Bool.and_eq_true] at this ⊢
      exact ⟨this.1, elem_app U this.2⟩
  · obtain ⟨c, d⟩ := parts_10 h f
    rw [if_neg (by omega), if_neg (by omega), if_neg (by omega), if_pos f]
    simp only [Bool.and_eq_true, beq_iff_eq]
    exact ⟨by rw [fm_app U (by rw [c]; decide)]; exact c, d⟩
  · obtain ⟨c, c2, d⟩ := parts_11 h f
    rw [if_neg (by omega), if_neg (by omega), if_neg (by omega), if_neg (by omega), if_pos f]
    simp only [Bool.and_eq_true]
    refine ⟨⟨?_, ?_⟩, d⟩
    · unfold pmsB at c ⊢
      simp only [Bool.and_eq_true, decide_eq_true_eq] at c ⊢
      exact ⟨c.1, List.all_eq_true.2 (fun g hg => open_app U (List.all_eq_true.1 c.2 g hg))⟩
    · unfold resA at c2 ⊢
      simp only [Bool.or_eq_true] at c2 ⊢
      rcases c2 with h | h
      · exact .inl h
      · exact .inr (by rw [fm_app U (fun e => by rw [e] at h; revert h; decide)]; exact h)
theorem lv_app {T : List Tt} (U : List Tt) : ∀ {n i : Nat}, Lv T n i → Lv (T ++ U) n i
  | 0, i, ⟨x, hx, h⟩ => ⟨x, at_app_of hx, h⟩
  | n + 1, i, ⟨x, hx, h, h0, hl⟩ => ⟨x, at_app_of hx, h, h0, lv_app U hl⟩
theorem nms_app {T : List Tt} (U : List Tt) : ∀ {n i : Nat}, Lv T n i → nmsL (T ++ U) n i = nmsL T n i
  | 0, i, ⟨x, hx, h⟩ => by rw [nmsL, nmsL, nmA_at hx, nmA_at (at_app_of hx)]
  | n + 1, i, ⟨x, hx, h, h0, hl⟩ => by rw [nmsL, nmsL, nmA_at hx, nmA_at (at_app_of hx), baA_at hx, baA_at (at_app_of hx), nms_app U hl]
/- An array of a type of the table, and a record of it. -/
def arrX (L e : Int) : Tt := ⟨7, [], [], L, e, 0, [], [], 0, 0⟩
def recX (k : Int) : Tt := ⟨9, [90, 122], [], 0, 0, 0, [⟨[97], false, k⟩], [], 0, -1⟩
def extX (T : List Tt) (L e : Int) : List Tt := T ++ [arrX L e, recX T.length]
theorem ext_len (T : List Tt) (L e : Int) : (extX T L e).length = T.length + 2 := by simp [extX]
theorem ext_k (T : List Tt) (L e : Int) : (extX T L e)[T.length]? = some (arrX L e) := by simp [extX]
theorem ext_k1 (T : List Tt) (L e : Int) : (extX T L e)[T.length + 1]? = some (recX T.length) := by simp [extX]
theorem ext_at {T : List Tt} {L e : Int} {i : Nat} {x : Tt} (h : (extX T L e)[i]? = some x) : (i < T.length ∧ T[i]? = some x) ∨ (i = T.length ∧ x = arrX L e) ∨ (i = T.length + 1 ∧ x = recX T.length) := by
  have hi := (List.getElem?_eq_some_iff.1 h).1
  rw [ext_len] at hi
  by_cases h1 : i < T.length
  · left
    unfold extX at h
    rw [at_app h1] at h
    exact ⟨h1, h⟩
  · by_cases h2 : i = T.length
    · subst h2
      rw [ext_k] at h
      cases h
      exact .inr (.inl ⟨rfl, rfl⟩)
    · have h3 : i = T.length + 1 := by omega
      subst h3
      rw [ext_k1] at h
      cases h
      exact .inr (.inr ⟨rfl, rfl⟩)
theorem ext_fm (T : List Tt) (L e : Int) : fmA (extX T L e) (T.length : Int) = 7 := fmA_at (ext_k T L e)
theorem good_ext {T : List Tt} (g : GoodP T) (hT : T.length ≤ 250) {L e : Int} (hL0 : 1 ≤ L) (hL1 : L ≤ 4096) (he : elemF (fmA T e) = true) : GoodP (extX T L e) := by
  have h7 := g.loc.lo
  obtain ⟨r, hr⟩ := g.rank
  have hin := g.loc.inP
  have hei := elemF_in he
  refine ⟨⟨by rw [ext_len]; omega, by rw [ext_len]; omega, fun i x hi hx => ?_, fun i x hi hx => ?_⟩, ⟨fun i => if i < T.length then r i else if i = T.length then r e.toNat + 1 else r e.toNat + r 0 + 2, fun i x hx j hj => ?_⟩, fun i x hx hf => ?_⟩
  · rcases ext_at hx with ⟨_, h⟩ | ⟨h, _⟩ | ⟨h, _⟩
    · exact g.loc.bas i x hi h
    · omega
    · omega
  · rcases ext_at hx with ⟨_, h⟩ | ⟨h, rfl⟩ | ⟨h, rfl⟩
    · exact ⟨(g.loc.oth i x hi h).1, parts_app _ (g.loc.oth i x hi h).2⟩
    · refine ⟨rfl, ?_⟩
      have h1 := elem_app [arrX L e, recX T.length] he
      show partsB (T ++ _) _ = true
      have f7 : (arrX L e).fm = 7 := rfl
      unfold partsB
      rw [if_pos f7]
      simp only [Bool.and_eq_true, decide_eq_true_eq]
      exact ⟨⟨hL0, hL1, h1⟩, rfl⟩
    · refine ⟨rfl, ?_⟩
      have f9 : (recX T.length).fm = 9 := rfl
      unfold partsB
      rw [if_neg (by omega), if_neg (by omega), if_pos f9]
      simp only [Bool.and_eq_true, decide_eq_true_eq]
      refine ⟨⟨by unfold baseA; rfl, ?_, show (-1 : Int) ≤ -1 by decide, show (-1 : Int) < 64 by decide⟩, rfl⟩
      unfold flsB flB recX
      simp only [List.all_cons, List.all_nil, Bool.and_true, Bool.and_eq_true, decide_eq_true_eq]
      exact ⟨by simp, by decide, by rw [ext_fm]; rfl⟩
  · rcases ext_at hx with ⟨hi, h⟩ | ⟨h, rfl⟩ | ⟨h, rfl⟩
    · have h1 := hin i x h j hj
      have h2 : j.toNat < T.length := by omega
      simp only [hi, h2, if_true]
      exact hr i x h j hj
    · have hp : partsI (arrX L e) = [e] := rfl
      rw [hp, List.mem_singleton] at hj
      subst hj h
      have h2 : j.toNat < T.length := by omega
      simp only [h2, if_true, Nat.lt_irrefl, if_false]
      omega
    · have hp : partsI (recX T.length) = [(T.length : Int), 0] := rfl
      rw [hp] at hj
      simp only [List.mem_cons, List.not_mem_nil, or_false] at hj
      subst h
      have n1 : ¬ T.length + 1 < T.length := by omega
      have n2 : ¬ T.length + 1 = T.length := by omega
      have n3 : (0 : Nat) < T.length := by omega
      rcases hj with rfl | rfl
      · simp only [Int.toNat_natCast, Nat.lt_irrefl, n1, n2, if_true, if_false]; omega
      · simp only [Int.toNat_zero, n1, n2, n3, if_true, if_false]; omega
  · rcases ext_at hx with ⟨hi, h⟩ | ⟨h, rfl⟩ | ⟨h, rfl⟩
    · obtain ⟨h1, n, hn, hl, hd⟩ := g.rcd i x h hf
      refine ⟨fun k y hk hy hy9 hm hds => ?_, n, hn, lv_app _ hl, by rw [show nmsL (extX T L e) n i = nmsL T n i from nms_app _ hl]; exact hd⟩
      rcases ext_at hy with ⟨_, h'⟩ | ⟨h', _⟩ | ⟨h', _⟩
      · exact h1 k y hk h' hy9 hm hds
      · omega
      · omega
    · exact absurd hf (show ¬ (7 : Int) = 9 by decide)
    · subst h
      exact ⟨fun _ _ _ _ _ _ _ => rfl, 0, by decide, ⟨_, ext_k1 T L e, rfl⟩, by rw [nmsL, nmA_at (ext_k1 T L e)]; simp [recX]⟩
/- Their sizes. -/
theorem ext_szs {T : List Tt} (g : GoodP T) {L e : Int} {s : Int → Int} (G : GoodP (extX T L e)) (hs : Szs (extX T L e) s) : s (T.length : Int) = capS (up4 (L * s e)) ∧ s ((T.length + 1 : Nat) : Int) = capS (up4 (s (T.length : Int))) := by
  have h7 := g.loc.lo
  have z0 := G.loc.z0 hs
  refine ⟨hs.eq _ _ (ext_k T L e), ?_⟩
  rw [hs.eq _ _ (ext_k1 T L e)]
  have h1 : szX s (recX T.length) = up4 (layE s (s 0) [(T.length : Int)]) := rfl
  have hp : packF (T.length : Int) = false := by
    unfold packF
    rw [show ((T.length : Int) == 2) = false by simp; omega, show ((T.length : Int) == 3) = false by simp; omega]
    rfl
  rw [h1, z0, layE, layE]
  unfold atF
  rw [hp]
  simp only [Bool.false_eq_true, if_false]
  rw [show up4 0 = 0 from rfl, Int.zero_add]
theorem ext_fd {T : List Tt} {L e : Int} {s : Int → Int} (g : GoodP T) (G : GoodP (extX T L e)) (hs : Szs (extX T L e) s) : FdI (extX T L e) s [97] (some (0, (T.length : Int))) (T.length + 1) := fun x hx => by
  have h7 := g.loc.lo
  rw [ext_k1] at hx
  cases hx
  have z0 := G.loc.z0 hs
  refine ⟨fun _ => ⟨0, ⟨_, ext_k1 T L e, rfl⟩, fndB_hit (ext_k1 T L e) ?_⟩, fun h => absurd rfl h⟩
  show fndL s [97] (s 0) [⟨[97], false, (T.length : Int)⟩] = _
  have hp : packF (T.length : Int) = false := by
    unfold packF
    rw [show ((T.length : Int) == 2) = false by simp; omega, show ((T.length : Int) == 3) = false by simp; omega]
    rfl
  rw [fndL, if_pos rfl, z0]
  unfold atF
  rw [hp]
  rfl
end Go.Proofs.Ytnolelgmcmgohaa.Ty
namespace Go.Proofs.Ytnolelgmcmgohaa.Ty
open Go.RowKit hiding Hid
open Go.Proofs.Ytnolelgmcmgohaa.Tx Go.Proofs.Ytnolelgmcmgohaa.Lx Go.Proofs.Ytnolelgmcmgohaa.Tr
set_option linter.unusedVariables false
set_option linter.unusedSimpArgs false
set_option maxRecDepth 100000

theorem copy_W {w : World} {o : Option Addr} {l : List La} {T : List Tt} (cp : Nat) (hT : l.map La.x = T) (H : TabR w o l) (hf : Few l) : Calls Try.prog 14 #[.slice o T.length cp] w (CoO w T) := by
  subst hT
  obtain ⟨h1, h2, h3⟩ := hf.small H
  have hle := hf.le
  rw [show ((l.map La.x).length) = l.length by rw [List.length_map]]
  exact copy_go cp h1 h2 h3 (by omega)
/- A row from a call, with what it is made of. -/
theorem Cx.row_t {w0 w w' : World} {G : Prop} {e : TypeId} {k n : Nat} {v : Value} {xs : List Value} {ds : List Dt} (H : Cx w0 (fun _ => False) none [] [] [] w) (hg : w.grownBy w' none) (hr : w'.ownsRow w.heap.size e k v n xs) (hv : isV w' (fun b => w.heap.size ≤ b ∧ v.ownBlock ≠ some b) ds xs) (h : Cx w0 (fun _ => False) none [] [⟨v, e, k, n, xs⟩] [(ds, xs)] w' → G) : G := by
  refine H.row0 hg hr (fun hc => h (hc.add (isV.kept (Fr.here (fun b hb _ => ⟨.inr (Nat.le_trans H.grown.size hb.1), by simp, fun r hr => ?_⟩)) _ _ hv)))
  rw [List.mem_singleton] at hr
  subst hr
  exact hb.2
def aC (L e : Int) : List Value := [.int .i64 7, .string (bs []), .string (bs []), .int .i64 L, .int .i64 e, .int .i64 0, .slice none 0 0, .slice none 0 0, .int .i64 0, .int .i64 0]
def rC2 (bf : Nat) : List Value := [.int .i64 9, .string (bs [90, 122]), .string (bs []), .int .i64 0, .int .i64 0, .int .i64 0, .slice (some ⟨bf, 0, none⟩) 1 1, .slice none 0 0, .int .i64 0, .int .i64 (-1)]
theorem tab_ext {w W : World} {T : List Tt} {L e : Int} {d : Option Addr} {cp bf : Nat} {Ls : List Lc} {xs : List Value} (hT : T.length ≤ 250) (hs : ∀ x ∈ T, Sm x) (H : Cx w (fun _ => False) none Ls [⟨.slice d (T.length + 2) cp, 32, 10, T.length + 2, xs ++ (aC L e ++ rC2 bf)⟩] [(T.flatMap tyD, xs)] W) (hm : ⟨bf, [.string (bs [97]), .bool false, .int .i64 (T.length : Int)], 48⟩ ∈ Ls) : Tab W d (extX T L e) ∧ (extX T L e).length ≤ cp := by
  obtain ⟨l, e1, e2, e3⟩ := tree_tab T xs (H.tr _ (.head _)) hs
  obtain ⟨o9, c9, e9, h9, hc9⟩ := row_clsK (H.row _ (.head _))
  cases e9
  refine ⟨⟨by rw [ext_len]; omega, l ++ [⟨arrX L e, none, 0, none, 0⟩, ⟨recX T.length, some ⟨bf, 0, none⟩, 1, none, 0⟩], by rw [List.map_append, e1]; rfl, ?_, fun a ha => ?_⟩, by rw [ext_len]; exact h9⟩
  · rw [List.flatMap_append, ← e2]
    exact hc9
  · rcases List.mem_append.1 ha with ha | ha
    · exact (e3 a ha).1
    · simp only [List.mem_cons, List.not_mem_nil, or_false] at ha
      rcases ha with rfl | rfl
      · exact ⟨fun j u hu => by simp [arrX] at hu, fun j u hu => by simp [arrX] at hu, ⟨Nat.zero_le _, Nat.zero_le _, Nat.zero_le _, Nat.zero_le _, fun f hf => by simp [arrX] at hf⟩⟩
      · refine ⟨loc_cls H hm, fun j u hu => by simp [recX] at hu, ⟨?_, Nat.zero_le _, ?_, Nat.zero_le _, fun f hf => ?_⟩⟩
        · show ([90, 122] : List UInt8).length ≤ lim; decide
        · show 1 ≤ 1000000; decide
        · simp only [recX, List.mem_cons, List.not_mem_nil, or_false] at hf
          subst hf
          show ([97] : List UInt8).length ≤ lim; decide
set_option maxHeartbeats 8000000 in
/- Where nothing is asked. -/
theorem larr_none {w : World} {o : Option Addr} {cp : Nat} {l : List La} (H : TabR w o l) (hl : l.length ≤ rch) (e n : Int) (h : ¬ (GoodP (l.map La.x) ∧ l.length ≤ 250 ∧ inT l.length e = true)) : Calls Try.prog 11 #[.slice o l.length cp, .int .i64 e, .int .i64 n] w (SzO w (.bool true)) := by
  have hlen : l.length = (l.map La.x).length := (List.length_map _).symm
  rw [hlen] at h
  (obtain ⟨T, hT⟩ : ∃ T, l.map La.x = T := ⟨_, rfl⟩; rw [show l.length = T.length by rw [← hT, List.length_map]]; have HT := hide H; have HTe := hide hT; have HLl := hide hl; have HC := hide (Cx.start w (fun _ => False)); have kT : (T.length : Int) ≤ 140737488351232 := by (have : T.length = l.length := by rw [← hT, List.length_map]); unfold rch at hl; omega)
  rw [hT] at h
  clear hlen
  by_cases G : GoodP T
  case neg =>
    have HNg := hide G
    clear H hl hT h G
    go_enter Try.func11, Try.ntmps11
    go_wp2_with (first | (go_at_call 12; refine (large_T cp HTe.out (HT.out.kept HC.out.grown) HLl.out).mono ?_; rintro e w1 ⟨d, rfl, hg, hd⟩; replace HC := hide (HC.out.g hg); clear hg; cases d <;> (first | (have HFw := hide (hd rfl); clear hd) | clear hd)) | (go_at_call 25; refine (wakes14 _).mono ?_; rintro e w1 ⟨rfl, hg⟩; replace HC := hide (HC.out.g hg); clear hg) | (go_at_call 16; refine (rgood_at cp (by have h := HFw.out.tab HT.out; rw [HTe.out] at h; exact h.kept HC.out.grown)).mono ?_; rintro e w2 ⟨d, rfl, hg, hd⟩; replace HC := hide (HC.out.g hg); obtain rfl : d = false := (by cases d; rfl; exact absurd (hd.1 rfl) HNg.out); clear hg hd))
    all_goals go_ret
    all_goals (exact ⟨rfl, HC.out.grown⟩)
  have HG := hide G
  by_cases h250 : 250 < T.length
  · have j0 : (250 : Int) < T.length := by omega
    clear H hl hT h G h250
    go_enter Try.func11, Try.ntmps11
    go_wp2_with (first | (go_at_call 12; refine (large_T cp HTe.out (HT.out.kept HC.out.grown) HLl.out).mono ?_; rintro e w1 ⟨d, rfl, hg, hd⟩; replace HC := hide (HC.out.g hg); clear hg; cases d <;> (first | (have HFw := hide (hd rfl); clear hd) | clear hd)) | (go_at_call 25; refine (wakes14 _).mono ?_; rintro e w1 ⟨rfl, hg⟩; replace HC := hide (HC.out.g hg); clear hg) | (go_at_call 16; refine (rgood_at cp (by have h := HFw.out.tab HT.out; rw [HTe.out] at h; exact h.kept HC.out.grown)).mono ?_; rintro e w2 ⟨d, rfl, hg, hd⟩; replace HC := hide (HC.out.g hg); obtain rfl : d = true := hd.2 HG.out; clear hg hd))
    all_goals go_ret
    all_goals (exact ⟨rfl, HC.out.grown⟩)
  have j0 : ¬ (250 : Int) < T.length := by omega
  by_cases e0 : e < 0
  · clear H hl hT h G h250
    go_enter Try.func11, Try.ntmps11
    go_wp2_with (first | (go_at_call 12; refine (large_T cp HTe.out (HT.out.kept HC.out.grown) HLl.out).mono ?_; rintro e w1 ⟨d, rfl, hg, hd⟩; replace HC := hide (HC.out.g hg); clear hg; cases d <;> (first | (have HFw := hide (hd rfl); clear hd) | clear hd)) | (go_at_call 25; refine (wakes14 _).mono ?_; rintro e w1 ⟨rfl, hg⟩; replace HC := hide (HC.out.g hg); clear hg) | (go_at_call 16; refine (rgood_at cp (by have h := HFw.out.tab HT.out; rw [HTe.out] at h; exact h.kept HC.out.grown)).mono ?_; rintro e w2 ⟨d, rfl, hg, hd⟩; replace HC := hide (HC.out.g hg); obtain rfl : d = true := hd.2 HG.out; clear hg hd))
    all_goals go_ret
    all_goals (exact ⟨rfl, HC.out.grown⟩)
  have e1 : ¬ e < T.length := fun h1 => h ⟨G, by omega, by unfold inT; simp; omega⟩
  clear H hl hT h G h250
  go_enter Try.func11, Try.ntmps11
  go_wp2_with (first | (go_at_call 12; refine (large_T cp HTe.out (HT.out.kept HC.out.grown) HLl.out).mono ?_; rintro e w1 ⟨d, rfl, hg, hd⟩; replace HC := hide (HC.out.g hg); clear hg; cases d <;> (first | (have HFw := hide (hd rfl); clear hd) | clear hd)) | (go_at_call 25; refine (wakes14 _).mono ?_; rintro e w1 ⟨rfl, hg⟩; replace HC := hide (HC.out.g hg); clear hg) | (go_at_call 16; refine (rgood_at cp (by have h := HFw.out.tab HT.out; rw [HTe.out] at h; exact h.kept HC.out.grown)).mono ?_; rintro e w2 ⟨d, rfl, hg, hd⟩; replace HC := hide (HC.out.g hg); obtain rfl : d = true := hd.2 HG.out; clear hg hd))
  all_goals go_ret
  all_goals (exact ⟨rfl, HC.out.grown⟩)
end Go.Proofs.Ytnolelgmcmgohaa.Ty
namespace Go.Proofs.Ytnolelgmcmgohaa.Ty
open Go.RowKit hiding Hid
open Go.Proofs.Ytnolelgmcmgohaa.Tx Go.Proofs.Ytnolelgmcmgohaa.Lx Go.Proofs.Ytnolelgmcmgohaa.Tr
set_option linter.unusedVariables false
set_option linter.unusedSimpArgs false
set_option maxRecDepth 100000

theorem form_R {w : World} {o : Option Addr} {l : List La} {T : List Tt} (hT : l.map La.x = T) (H : TabR w o l) {q : Nat} (hq : q < T.length) : ∃ ad, o = some ad ∧ ∀ W, w.grownBy W none → W.cell? (ad.add (q * 10)) = some (.int .i64 (fmA T (q : Int))) := by
  subst hT
  rw [List.length_map] at hq
  obtain ⟨la, hx⟩ : ∃ x, l[q]? = some x := ⟨l[q], List.getElem?_eq_getElem hq⟩
  obtain ⟨ad, e, hel⟩ := H.row.el laC_len (by decide) hx
  refine ⟨ad, e, fun W hW => ?_⟩
  have h0 := hW.cell (hel 0 _ rfl) (by simp)
  rw [Addr.add_zero'] at h0
  rw [fmA_at (show (l.map La.x)[q]? = some la.x by rw [List.getElem?_map, hx]; rfl)]
  exact h0
set_option maxHeartbeats 8000000 in
/- An element that none may be. -/
theorem larr_form {w : World} {o : Option Addr} {cp : Nat} {l : List La} (H : TabR w o l) (hl : l.length ≤ rch) (q : Nat) (n : Int) (G0 : GoodP (l.map La.x)) (h250 : l.length ≤ 250) (hq : q < l.length) (hf : fmA (l.map La.x) (q : Int) = 0 ∨ fmA (l.map La.x) (q : Int) = 5 ∨ fmA (l.map La.x) (q : Int) = 6 ∨ fmA (l.map La.x) (q : Int) = 8) : Calls Try.prog 11 #[.slice o l.length cp, .int .i64 q, .int .i64 n] w (SzO w (.bool true)) := by
  have hlen : l.length = (l.map La.x).length := (List.length_map _).symm
  rw [hlen] at h250 hq
  (obtain ⟨T, hT⟩ : ∃ T, l.map La.x = T := ⟨_, rfl⟩; rw [show l.length = T.length by rw [← hT, List.length_map]]; have HT := hide H; have HTe := hide hT; have HLl := hide hl; have HC := hide (Cx.start w (fun _ => False)); have kT : (T.length : Int) ≤ 140737488351232 := by (have : T.length = l.length := by rw [← hT, List.length_map]); unfold rch at hl; omega)
  rw [hT] at G0 h250 hq hf
  have HG := hide G0
  obtain ⟨ad, rfl, hfc⟩ := form_R hT H hq
  obtain ⟨B, hB⟩ : ∃ B, ad.add (q * 10) = B := ⟨_, rfl⟩
  rw [hB] at hfc
  have HFc := hide hfc
  have j0 : ¬ (250 : Int) < T.length := by omega
  have j1 : (q : Int) < T.length := by omega
  clear H hl hT G0 h250 hq hlen hfc
  rcases hf with hf | hf | hf | hf
  all_goals (rw [hf] at HFc; clear hf)
  all_goals (go_enter Try.func11, Try.ntmps11)
  all_goals (go_wp2_with (first | (go_at_call 12; refine (large_T cp HTe.out (HT.out.kept HC.out.grown) HLl.out).mono ?_; rintro e w1 ⟨d, rfl, hg, hd⟩; replace HC := hide (HC.out.g hg); clear hg; cases d <;> (first | (have HFw := hide (hd rfl); clear hd) | clear hd)) | (go_at_call 25; refine (wakes14 _).mono ?_; rintro e w1 ⟨rfl, hg⟩; replace HC := hide (HC.out.g hg); clear hg) | ((go_at_call 16; refine (rgood_at cp (by have h := HFw.out.tab HT.out; rw [HTe.out] at h; exact h.kept HC.out.grown)).mono ?_; rintro e w2 ⟨d, rfl, hg, hd⟩; replace HC := hide (HC.out.g hg); obtain rfl : d = true := hd.2 HG.out; clear hg hd); have f0 := HFc.out _ HC.out.grown; have bl := block_lt_of_cell f0)))
  all_goals go_ret
  all_goals (exact ⟨rfl, HC.out.grown⟩)
theorem ext_off {T : List Tt} {L e : Int} {s : Int → Int} (g : GoodP T) (G : GoodP (extX T L e)) (hs : Szs (extX T L e) s) (hb : s ((T.length + 1 : Nat) : Int) ≤ 32768) (W : World) (o : Option Addr) (cp : Nat) (h : Tab W o (extX T L e)) (hc : (extX T L e).length ≤ cp) : Calls Try.prog 28 #[.slice o (extX T L e).length cp, .int .i64 ((T.length + 1 : Nat) : Int), .string ⟨#[97]⟩] W (SzO W (.tuple #[.int .i64 0, .int .i64 (T.length : Int), .bool true])) := by
  obtain ⟨ad, rfl⟩ := h.some (by rw [ext_len]; omega)
  exact poff_good cp h hc G hs (a := T.length + 1) (by rw [ext_len]; omega) [97] (by decide) hb (ext_fd g G hs)
set_option maxHeartbeats 16000000 in
theorem larr_go {w : World} {o : Option Addr} {cp : Nat} {l : List La} (H : TabR w o l) (hl : l.length ≤ rch) (q : Nat) (n : Int) (G0 : GoodP (l.map La.x)) (h250 : l.length ≤ 250) (hq : q < l.length) (he : elemF (fmA (l.map La.x) (q : Int)) = true) : Calls Try.prog 11 #[.slice o l.length cp, .int .i64 q, .int .i64 n] w (SzO w (.bool true)) := by
  have hlen : l.length = (l.map La.x).length := (List.length_map _).symm
  rw [hlen] at h250 hq
  have hsm : Few l → ∀ x ∈ l.map La.x, Sm x := fun hf x hx => by
    obtain ⟨a, ha, rfl⟩ := List.mem_map.1 hx
    exact ((hf.small H).1.parts a ha).sm
  (obtain ⟨T, hT⟩ : ∃ T, l.map La.x = T := ⟨_, rfl⟩; rw [show l.length = T.length by rw [← hT, List.length_map]]; have HT := hide H; have HTe := hide hT; have HLl := hide hl; have HC := hide (Cx.start w (fun _ => False)); have kT : (T.length : Int) ≤ 140737488351232 := by (have : T.length = l.length := by rw [← hT, List.length_map]); unfold rch at hl; omega)
  rw [hT] at G0 h250 hq he hsm
  have HG := hide G0
  obtain ⟨ad, rfl, hfc⟩ := form_R hT H hq
  obtain ⟨B, hB⟩ : ∃ B, ad.add (q * 10) = B := ⟨_, rfl⟩
  rw [hB] at hfc
  obtain ⟨f, hf⟩ : ∃ f, fmA T (q : Int) = f := ⟨_, rfl⟩
  rw [hf] at hfc
  have HFc := hide hfc
  have fe : elemF f = true := by rw [← hf]; exact he
  have n0 : (f == 0) = false := by cases h : (f == 0); rfl; rw [beq_iff_eq] at h; subst h; revert fe; decide
  have n5 : (f == 5) = false := by cases h : (f == 5); rfl; rw [beq_iff_eq] at h; subst h; revert fe; decide
  have n6 : (f == 6) = false := by cases h : (f == 6); rfl; rw [beq_iff_eq] at h; subst h; revert fe; decide
  have n8 : (f == 8) = false := by cases h : (f == 8); rfl; rw [beq_iff_eq] at h; subst h; revert fe; decide
  have j0 : ¬ (250 : Int) < T.length := by omega
  have j1 : (q : Int) < T.length := by omega
  obtain ⟨u, hu⟩ : ∃ u, IntKind.u64.wrap n = u := ⟨_, rfl⟩
  have u0 : 0 ≤ u := by rw [← hu, IntKind.wrap_u64]; omega
  have u1 : u < 18446744073709551616 := by rw [← hu, IntKind.wrap_u64]; omega
  obtain ⟨m, hm⟩ : ∃ m, u % 4096 = m := ⟨_, rfl⟩
  have tm : u.tmod 4096 = m := by rw [Int.tmod_eq_emod_of_nonneg u0]; exact hm
  have m0 : 0 ≤ m := by omega
  have m1 : m < 4096 := by omega
  obtain ⟨Lx, hLx⟩ : ∃ x, 1 + m = x := ⟨_, rfl⟩
  have L0 : 1 ≤ Lx := by omega
  have L1 : Lx ≤ 4096 := by omega
  have G2 := good_ext G0 h250 (L := Lx) (e := (q : Int)) L0 L1 he
  obtain ⟨s, hs⟩ := szs_of G2
  obtain ⟨z1, z2⟩ := ext_szs G0 G2 hs
  have HZ0 := hide (fun (W : World) (o : Option Addr) (cp : Nat) (h : Tab W o (extX T Lx q)) (hc : (extX T Lx q).length ≤ cp) => psize_good cp h hc G2 hs (a := q) (by rw [ext_len]; omega))
  have HZ1 := hide (fun (W : World) (o : Option Addr) (cp : Nat) (h : Tab W o (extX T Lx q)) (hc : (extX T Lx q).length ≤ cp) => psize_good cp h hc G2 hs (a := T.length) (by rw [ext_len]; omega))
  have HZ2 := hide (fun (W : World) (o : Option Addr) (cp : Nat) (h : Tab W o (extX T Lx q)) (hc : (extX T Lx q).length ≤ cp) => psize_good cp h hc G2 hs (a := T.length + 1) (by rw [ext_len]; omega))
  have HZ3 := hide (ext_off G0 G2 hs)
  have o0 := hs.lo (q : Int)
  have o1 := hs.hi (q : Int)
  obtain ⟨O1, hO1⟩ : ∃ x, s (q : Int) = x := ⟨_, rfl⟩
  obtain ⟨A1, hA1⟩ : ∃ x, s (T.length : Int) = x := ⟨_, rfl⟩
  obtain ⟨A2, hA2⟩ : ∃ x, s ((T.length + 1 : Nat) : Int) = x := ⟨_, rfl⟩
  rw [hO1] at HZ0 z1 o0 o1
  rw [hA1] at HZ1 z1 z2
  rw [hA2] at HZ2 HZ3 z2
  rw [ext_len] at HZ0 HZ1 HZ2 HZ3
  rw [show ((T.length + 1 : Nat) : Int) = (T.length : Int) + 1 by omega] at HZ2 HZ3
  obtain ⟨P, hP⟩ : ∃ x, O1 * Lx = x := ⟨_, rfl⟩
  rw [Int.mul_comm, hP] at z1
  have p0 : 0 ≤ P := by rw [← hP]; exact Int.mul_nonneg o0 (by omega)
  have p1 : P ≤ 134221824 := by
    rw [← hP]
    have := Int.mul_le_mul o1 L1 (by omega) (by decide : (0 : Int) ≤ 32769)
    omega
  have p2 : O1 ≤ P := by
    rw [← hP]
    have := Int.mul_le_mul (Int.le_refl O1) L0 (by decide) o0
    omega
  obtain ⟨Q, hQ⟩ : ∃ x, (P + 3) / 4 = x := ⟨_, rfl⟩
  have tq : (P + 3).tdiv 4 = Q := by rw [Int.tdiv_eq_ediv_of_nonneg (by omega)]; exact hQ
  have q0 : 0 ≤ Q := by omega
  have q1 : Q ≤ 134221824 := by omega
  have hup : up4 P = Q * 4 := by unfold up4; rw [hQ]
  rw [hup] at z1
  have q2 : P ≤ Q * 4 := by omega
  have H25 := hide h250
  have HSm0 := hide hsm
  clear H hl hT G0 h250 hq hlen hfc he hsm hf fe hm hQ hO1 hA1 hA2 hs G2 hup
  have M1 := True.intro
  have M2 := True.intro
  by_cases hbig : 32768 < Q * 4
  · have a1 : A1 = 32769 := by unfold capS at z1; omega
    have a2 : A2 = 32769 := by rw [a1] at z2; rw [z2]; decide
    clear z1 z2
    subst a1 a2
    go_enter Try.func11, Try.ntmps11
    go_wp2_with (first | ((go_at_call 12; refine (large_T cp HTe.out (HT.out.kept HC.out.grown) HLl.out).mono ?_; rintro e w1 ⟨d, rfl, hg, hd⟩; replace HC := hide (HC.out.g hg); clear hg; cases d <;> (first | (have HFw := hide (hd rfl); clear hd) | clear hd)); (try (have HSm := hide (HSm0.out HFw.out)))) | (go_at_call 25; refine (wakes14 _).mono ?_; rintro e w1 ⟨rfl, hg⟩; replace HC := hide (HC.out.g hg); clear hg) | ((go_at_call 16; refine (rgood_at cp (by have h := HFw.out.tab HT.out; rw [HTe.out] at h; exact h.kept HC.out.grown)).mono ?_; rintro e w2 ⟨d, rfl, hg, hd⟩; replace HC := hide (HC.out.g hg); obtain rfl : d = true := hd.2 HG.out; clear hg hd); have f0 := HFc.out _ HC.out.grown; have bl := block_lt_of_cell f0) | (go_at_call 14; refine (copy_W cp HTe.out (HT.out.kept HC.out.grown) HFw.out).mono ?_; rintro e w1 ⟨oi, ci, xs, rfl, hg, hr, hv⟩; refine Cx.row_t HC.out hg hr hv ?_; intro hc; (replace HC := hide hc; clear hc); clear hg hr hv) | (refine at_bs 29 rfl ?_; refine wl_bl rfl 29 _ _ rfl 48 [.string (bs [97]), .bool false, .int .i64 (T.length : Int)] HC.out (by kernel_rfl) ?_; intro bf w' hn hc; (replace HC := hide hc; clear hc)) | (refine at_bs 22 rfl ?_; refine wl_bl rfl 22 _ _ rfl 32 (aC Lx (q : Int) ++ rC2 bf) HC.out (by kernel_rfl) ?_; intro bY w' hn hc; (replace HC := hide hc; clear hc)) | (refine wl_apc rfl _ _ rfl Try.underlying22 infoT (by decide) (by decide) rfl rfl HC.out (loc_cls HC.out (.head _)) rfl (fun e => by cases e) rfl (by omega) ?_; intro d9 cp9 w' hc; (replace HC := hide hc; clear hc); obtain ⟨ht, hcp⟩ := tab_ext H25.out HSm.out HC.out (by repeat (first | exact List.Mem.head _ | apply List.Mem.tail)); rw [ext_len] at hcp; have HT2 := hide ht; have HCp := hide hcp; have HG0 := hide HC.out.grown; replace HC := hide (Cx.start w' (fun _ => False)); clear ht hcp) | (clear M1; go_at_call 26; refine (HZ0.out _ _ _ (HT2.out.kept HC.out.grown) HCp.out).mono ?_; rintro e w1 ⟨rfl, hg⟩; replace HC := hide (HC.out.g hg); clear hg) | (clear M2; go_at_call 26; refine (HZ1.out _ _ _ (HT2.out.kept HC.out.grown) HCp.out).mono ?_; rintro e w1 ⟨rfl, hg⟩; replace HC := hide (HC.out.g hg); clear hg) | (go_at_call 26; refine (HZ2.out _ _ _ (HT2.out.kept HC.out.grown) HCp.out).mono ?_; rintro e w1 ⟨rfl, hg⟩; replace HC := hide (HC.out.g hg); clear hg) | (go_at_call 28; refine (HZ3.out _ _ _ (HT2.out.kept HC.out.grown) HCp.out).mono ?_; rintro e w1 ⟨rfl, hg⟩; replace HC := hide (HC.out.g hg); clear hg))
    (all_goals go_ret; all_goals (first | (exact ⟨rfl, gr_then HG0.out HC.out.grown⟩) | (exact ⟨rfl, HC.out.grown⟩)))
  · have a1 : A1 = Q * 4 := by unfold capS at z1; omega
    have a2 : A2 = Q * 4 := by rw [a1] at z2; unfold capS up4 at z2; omega
    clear z1 z2
    subst a1 a2
    have b3 : ¬ 32768 < O1 := by omega
    replace HZ3 := hide (HZ3.out (by omega))
    go_enter Try.func11, Try.ntmps11
    go_wp2_with (first | ((go_at_call 12; refine (large_T cp HTe.out (HT.out.kept HC.out.grown) HLl.out).mono ?_; rintro e w1 ⟨d, rfl, hg, hd⟩; replace HC := hide (HC.out.g hg); clear hg; cases d <;> (first | (have HFw := hide (hd rfl); clear hd) | clear hd)); (try (have HSm := hide (HSm0.out HFw.out)))) | (go_at_call 25; refine (wakes14 _).mono ?_; rintro e w1 ⟨rfl, hg⟩; replace HC := hide (HC.out.g hg); clear hg) | ((go_at_call 16; refine (rgood_at cp (by have h := HFw.out.tab HT.out; rw [HTe.out] at h; exact h.kept HC.out.grown)).mono ?_; rintro e w2 ⟨d, rfl, hg, hd⟩; replace HC := hide (HC.out.g hg); obtain rfl : d = true := hd.2 HG.out; clear hg hd); have f0 := HFc.out _ HC.out.grown; have bl := block_lt_of_cell f0) | (go_at_call 14; refine (copy_W cp HTe.out (HT.out.kept HC.out.grown) HFw.out).mono ?_; rintro e w1 ⟨oi, ci, xs, rfl, hg, hr, hv⟩; refine Cx.row_t HC.out hg hr hv ?_; intro hc; (replace HC := hide hc; clear hc); clear hg hr hv) | (refine at_bs 29 rfl ?_; refine wl_bl rfl 29 _ _ rfl 48 [.string (bs [97]), .bool false, .int .i64 (T.length : Int)] HC.out (by kernel_rfl) ?_; intro bf w' hn hc; (replace HC := hide hc; clear hc)) | (refine at_bs 22 rfl ?_; refine wl_bl rfl 22 _ _ rfl 32 (aC Lx (q : Int) ++ rC2 bf) HC.out (by kernel_rfl) ?_; intro bY w' hn hc; (replace HC := hide hc; clear hc)) | (refine wl_apc rfl _ _ rfl Try.underlying22 infoT (by decide) (by decide) rfl rfl HC.out (loc_cls HC.out (.head _)) rfl (fun e => by cases e) rfl (by omega) ?_; intro d9 cp9 w' hc; (replace HC := hide hc; clear hc); obtain ⟨ht, hcp⟩ := tab_ext H25.out HSm.out HC.out (by repeat (first | exact List.Mem.head _ | apply List.Mem.tail)); rw [ext_len] at hcp; have HT2 := hide ht; have HCp := hide hcp; have HG0 := hide HC.out.grown; replace HC := hide (Cx.start w' (fun _ => False)); clear ht hcp) | (clear M1; go_at_call 26; refine (HZ0.out _ _ _ (HT2.out.kept HC.out.grown) HCp.out).mono ?_; rintro e w1 ⟨rfl, hg⟩; replace HC := hide (HC.out.g hg); clear hg) | (clear M2; go_at_call 26; refine (HZ1.out _ _ _ (HT2.out.kept HC.out.grown) HCp.out).mono ?_; rintro e w1 ⟨rfl, hg⟩; replace HC := hide (HC.out.g hg); clear hg) | (go_at_call 26; refine (HZ2.out _ _ _ (HT2.out.kept HC.out.grown) HCp.out).mono ?_; rintro e w1 ⟨rfl, hg⟩; replace HC := hide (HC.out.g hg); clear hg) | (go_at_call 28; refine (HZ3.out _ _ _ (HT2.out.kept HC.out.grown) HCp.out).mono ?_; rintro e w1 ⟨rfl, hg⟩; replace HC := hide (HC.out.g hg); clear hg))
    (all_goals go_ret; all_goals (first | (exact ⟨rfl, gr_then HG0.out HC.out.grown⟩) | (exact ⟨rfl, HC.out.grown⟩)))
end Go.Proofs.Ytnolelgmcmgohaa.Ty
namespace Go.Proofs.Ytnolelgmcmgohaa.Ty
open Go.RowKit hiding Hid
open Go.Proofs.Ytnolelgmcmgohaa.Tx Go.Proofs.Ytnolelgmcmgohaa.Lx Go.Proofs.Ytnolelgmcmgohaa.Tr
set_option linter.unusedVariables false
set_option linter.unusedSimpArgs false

theorem larr_walk {w : World} {o : Option Addr} {cp : Nat} {l : List La} (H : TabR w o l) (hl : l.length ≤ rch) (e n : Int) : Calls Try.prog 11 #[.slice o l.length cp, .int .i64 e, .int .i64 n] w (SzO w (.bool true)) := by
  by_cases h : GoodP (l.map La.x) ∧ l.length ≤ 250 ∧ inT l.length e = true
  case neg => exact larr_none H hl e n h
  obtain ⟨G, h250, hi⟩ := h
  obtain ⟨q, rfl, hq⟩ := in_nat hi
  by_cases he : elemF (fmA (l.map La.x) (q : Int)) = true
  · exact larr_go H hl q n G h250 hq he
  · refine larr_form H hl q n G h250 hq ?_
    obtain ⟨x, hx⟩ : ∃ x, (l.map La.x)[q]? = some x := ⟨_, List.getElem?_eq_getElem (by rw [List.length_map]; exact hq)⟩
    rw [fmA_at hx] at he ⊢
    obtain ⟨h1, h2⟩ := G.fmOk q x hx
    generalize x.fm = f at he h1 h2 ⊢
    have : f = 0 ∨ f = 1 ∨ f = 2 ∨ f = 3 ∨ f = 4 ∨ f = 5 ∨ f = 6 ∨ f = 7 ∨ f = 8 ∨ f = 9 ∨ f = 10 ∨ f = 11 := by omega
    rcases this with rfl | rfl | rfl | rfl | rfl | rfl | rfl | rfl | rfl | rfl | rfl | rfl <;> first | (exact absurd rfl he) | decide
end Go.Proofs.Ytnolelgmcmgohaa.Ty
