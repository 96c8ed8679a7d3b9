/-
  Layout, purely: sizes of types, places of fields and variables.
  Layout: the small functions, the project's and the document's.
  Layout: package layout's reckoning in memory; where a record's own fields begin; where the next thing lies.
  Layout: package layout's sizes, whole.
  Layout: package layout's size of a type, whole; a reckoning that begins.
-/
import Derived.Test.YtnolelgmcmgohaaTp2
import Derived.Test.YtnolelgmcmgohaaTg29
import Derived.Test.YtnolelgmcmgohaaY3
namespace Go.Proofs.Ytnolelgmcmgohaa.Ty
open Go.RowKit hiding Hid
open Go.Proofs.Ytnolelgmcmgohaa.Tx Go.Proofs.Ytnolelgmcmgohaa.Lx Go.Proofs.Ytnolelgmcmgohaa.Tr
set_option linter.unusedVariables false
set_option linter.unusedSimpArgs false

/- A multiple of four from n on. -/
def up4 (n : Int) : Int := (n + 3) / 4 * 4
theorem up4_le (n : Int) : n ≤ up4 n := by unfold up4; omega
theorem up4_lt (n : Int) : up4 n ≤ n + 3 := by unfold up4; omega
theorem up4_mono {a b : Int} (h : a ≤ b) : up4 a ≤ up4 b := by unfold up4; omega
theorem up4_up4 (n : Int) : up4 (up4 n) = up4 n := by unfold up4; omega
theorem up4_min (n : Int) : up4 (min n 32772) = min (up4 n) 32772 := by unfold up4; omega
def packF (a : Int) : Bool := a == 2 || a == 3
def atF (e a : Int) : Int := if packF a = true then e else up4 e
theorem atF_le (e a : Int) : e ≤ atF e a := by unfold atF; have := up4_le e; split <;> omega
theorem atF_lt (e a : Int) : atF e a ≤ e + 3 := by unfold atF; have := up4_lt e; split <;> omega
theorem atF_mono {e e' : Int} (a : Int) (h : e ≤ e') : atF e a ≤ atF e' a := by unfold atF; have := up4_mono h; split <;> omega
theorem atF_min (e a : Int) : atF (min e 32772) a = min (atF e a) 32772 := by unfold atF; rw [up4_min]; split <;> rfl
/- Where things end, laid one behind the other. -/
def layE (s : Int → Int) : Int → List Int → Int
  | e, [] => e
  | e, a :: l => layE s (atF e a + s a) l
theorem layE_le {s : Int → Int} (h : ∀ a, 0 ≤ s a) : ∀ (l : List Int) (e : Int), e ≤ layE s e l
  | [], e => Int.le_refl _
  | a :: l, e => by
    have := layE_le h l (atF e a + s a)
    have := atF_le e a
    have := h a
    rw [layE]; omega
theorem layE_append (s : Int → Int) : ∀ (l m : List Int) (e : Int), layE s e (l ++ m) = layE s (layE s e l) m
  | [], m, e => rfl
  | a :: l, m, e => by rw [List.cons_append, layE, layE, layE_append s l m]
theorem layE_mono {s : Int → Int} : ∀ (l : List Int) {e e' : Int}, e ≤ e' → layE s e l ≤ layE s e' l
  | [], e, e', h => h
  | a :: l, e, e', h => by
    rw [layE, layE]
    exact layE_mono l (by have := atF_mono a h; omega)
theorem layE_max {s : Int → Int} (h : ∀ a, s a ≤ 32769) : ∀ (l : List Int) (e : Int), layE s e l ≤ e + 32772 * l.length
  | [], e => by simp [layE]
  | a :: l, e => by
    have := layE_max h l (atF e a + s a)
    have := atF_lt e a
    have := h a
    rw [layE, List.length_cons]; push_cast; omega
theorem layE_congr {s s' : Int → Int} : ∀ (l : List Int) (e : Int), (∀ a ∈ l, s a = s' a) → layE s e l = layE s' e l
  | [], e, h => rfl
  | a :: l, e, h => by
    rw [layE, layE, h a (.head _)]
    exact layE_congr l _ (fun b hb => h b (.tail _ hb))
theorem layE_take {s : Int → Int} {l : List Int} {k : Nat} {a : Int} (e : Int) (h : l[k]? = some a) : layE s e (l.take (k + 1)) = atF (layE s e (l.take k)) a + s a := by
  rw [List.take_add_one, h, Option.toList_some, layE_append]
  rfl
theorem layE_take_le {s : Int → Int} (h : ∀ a, 0 ≤ s a) (l : List Int) (k : Nat) (e : Int) : layE s e (l.take k) ≤ layE s e l := by
  have := layE_append s (l.take k) (l.drop k) e
  rw [List.take_append_drop] at this
  rw [this]
  exact layE_le h _ _
/- The document's own laying stops growing above what is too much. -/
def layC (s : Int → Int) : Int → List Int → Int
  | e, [] => e
  | e, a :: l => layC s (min (atF e a + s a) 32772) l
theorem layC_is {s : Int → Int} (h : ∀ a, 0 ≤ s a) : ∀ (l : List Int) (e : Int), min (layC s e l) 32772 = min (layE s e l) 32772
  | [], e => rfl
  | a :: l, e => by
    rw [layC, layE, layC_is h l]
    have : ∀ (l : List Int) (e : Int), min (layE s (min e 32772) l) 32772 = min (layE s e l) 32772 := by
      intro l
      induction l with
      | nil => intro e; rw [layE, layE]; omega
      | cons b l ih =>
        intro e
        rw [layE, layE, atF_min, ← ih, ← ih (atF e b + s b)]
        have := h b
        rw [show min (min (atF e b) 32772 + s b) 32772 = min (atF e b + s b) 32772 by omega]
    exact this l _
theorem layC_append (s : Int → Int) : ∀ (l m : List Int) (e : Int), layC s e (l ++ m) = layC s (layC s e l) m
  | [], m, e => rfl
  | a :: l, m, e => by rw [List.cons_append, layC, layC, layC_append s l m]
theorem layC_take {s : Int → Int} {l : List Int} {k : Nat} {a : Int} (e : Int) (h : l[k]? = some a) : layC s e (l.take (k + 1)) = min (atF (layC s e (l.take k)) a + s a) 32772 := by
  rw [List.take_add_one, h, Option.toList_some, layC_append]
  rfl
theorem layC_eq {s : Int → Int} (h : ∀ a, 0 ≤ s a) {l : List Int} {e : Int} (hl : layE s e l ≤ 32771) : layC s e l = layE s e l := by
  have := layC_is h l e
  omega
theorem layC_bd {s : Int → Int} (h : ∀ a, 0 ≤ s a) : ∀ (l : List Int) (e : Int), 0 ≤ e → e ≤ 32772 → 0 ≤ layC s e l ∧ layC s e l ≤ 32772
  | [], e, h1, h2 => ⟨h1, h2⟩
  | a :: l, e, h1, h2 => by
    have := atF_le e a
    have := h a
    exact layC_bd h l _ (by omega) (by omega)
/- Places, one behind the other. -/
def atsL (s : Int → Int) : Int → List Int → List Int
  | _, [] => []
  | e, a :: l => atF e a :: atsL s (atF e a + s a) l
def atsC (s : Int → Int) : Int → List Int → List Int
  | _, [] => []
  | e, a :: l => atF e a :: atsC s (min (atF e a + s a) 32772) l
theorem atsL_len (s : Int → Int) : ∀ (l : List Int) (e : Int), (atsL s e l).length = l.length
  | [], e => rfl
  | a :: l, e => by simp [atsL, atsL_len s l]
theorem atsC_len (s : Int → Int) : ∀ (l : List Int) (e : Int), (atsC s e l).length = l.length
  | [], e => rfl
  | a :: l, e => by simp [atsC, atsC_len s l]
theorem atsC_append (s : Int → Int) : ∀ (l m : List Int) (e : Int), atsC s e (l ++ m) = atsC s e l ++ atsC s (layC s e l) m
  | [], m, e => rfl
  | a :: l, m, e => by rw [List.cons_append, atsC, atsC, layC, atsC_append s l m]; rfl
theorem atsL_append (s : Int → Int) : ∀ (l m : List Int) (e : Int), atsL s e (l ++ m) = atsL s e l ++ atsL s (layE s e l) m
  | [], m, e => rfl
  | a :: l, m, e => by rw [List.cons_append, atsL, atsL, layE, atsL_append s l m]; rfl
theorem atsC_take {s : Int → Int} {l : List Int} {k : Nat} {a : Int} (e : Int) (h : l[k]? = some a) : atsC s e (l.take (k + 1)) = atsC s e (l.take k) ++ [atF (layC s e (l.take k)) a] := by
  rw [List.take_add_one, h, Option.toList_some, atsC_append]
  rfl
theorem atsL_take {s : Int → Int} {l : List Int} {k : Nat} {a : Int} (e : Int) (h : l[k]? = some a) : atsL s e (l.take (k + 1)) = atsL s e (l.take k) ++ [atF (layE s e (l.take k)) a] := by
  rw [List.take_add_one, h, Option.toList_some, atsL_append]
  rfl
theorem atsL_at {s : Int → Int} {l : List Int} {k : Nat} {a : Int} (e : Int) (h : l[k]? = some a) : (atsL s e l)[k]? = some (atF (layE s e (l.take k)) a) := by
  have h1 : k < l.length := (List.getElem?_eq_some_iff.1 h).1
  have h2 : l = l.take (k + 1) ++ l.drop (k + 1) := (List.take_append_drop _ _).symm
  rw [h2, atsL_append, List.getElem?_append_left (by rw [atsL_len]; simp; omega), atsL_take e h, List.getElem?_append_right (by rw [atsL_len]; simp; omega), atsL_len]
  rw [← h2]
  simp
  rw [show k - min k l.length = 0 by omega]
  rfl
theorem atsC_eq {s : Int → Int} (h : ∀ a, 0 ≤ s a) : ∀ {l : List Int} {e : Int}, layE s e l ≤ 32771 → atsC s e l = atsL s e l
  | [], e, hl => rfl
  | a :: l, e, hl => by
    rw [layE] at hl
    have := layE_le h l (atF e a + s a)
    rw [atsC, atsL, show min (atF e a + s a) 32772 = atF e a + s a by omega, atsC_eq h hl]
/- A type's size, out of the others' sizes. -/
def flT (x : Tt) : List Int := x.fl.map (·.t)
def szX (s : Int → Int) (x : Tt) : Int :=
  if x.fm = 1 ∨ x.fm = 4 ∨ x.fm = 10 ∨ x.fm = 11 then 4
  else if x.fm = 2 ∨ x.fm = 3 then 1
  else if x.fm = 7 then up4 (x.ln * s x.el)
  else if x.fm = 9 then up4 (layE s (s x.ba) (flT x))
  else 0
def capS (n : Int) : Int := min n 32769
structure Szs (T : List Tt) (s : Int → Int) : Prop where
  eq : ∀ (i : Nat) x, T[i]? = some x → s (i : Int) = capS (szX s x)
  lo : ∀ a, 0 ≤ s a
  hi : ∀ a, s a ≤ 32769
theorem szX_congr {s s' : Int → Int} {x : Tt} (h : ∀ j ∈ partsI x, s j = s' j) : szX s x = szX s' x := by
  unfold szX
  by_cases h1 : x.fm = 1 ∨ x.fm = 4 ∨ x.fm = 10 ∨ x.fm = 11
  · rw [if_pos h1, if_pos h1]
  rw [if_neg h1, if_neg h1]
  by_cases h2 : x.fm = 2 ∨ x.fm = 3
  · rw [if_pos h2, if_pos h2]
  rw [if_neg h2, if_neg h2]
  by_cases h7 : x.fm = 7
  · rw [if_pos h7, if_pos h7, h x.el (by unfold partsI; rw [if_pos (.inl h7)]; exact .head _)]
  rw [if_neg h7, if_neg h7]
  by_cases h9 : x.fm = 9
  · have hp : partsI x = x.fl.map (·.t) ++ [x.ba] := by unfold partsI; rw [if_neg (by omega), if_pos h9]
    rw [if_pos h9, if_pos h9, h x.ba (by rw [hp]; simp), layE_congr (flT x) _ (fun a ha => h a (by rw [hp]; exact List.mem_append.2 (.inl ha)))]
  · rw [if_neg h9, if_neg h9]
theorem szX_nn {s : Int → Int} (h : ∀ a, 0 ≤ s a) (x : Tt) (hl : x.fm = 7 → 0 ≤ x.ln) : 0 ≤ szX s x := by
  unfold szX
  repeat' split
  all_goals try omega
  · rename_i h7
    have := Int.mul_nonneg (hl h7) (h x.el)
    have := up4_le (x.ln * s x.el)
    omega
  · have := layE_le h (flT x) (s x.ba)
    have := up4_le (layE s (s x.ba) (flT x))
    have := h x.ba
    omega
def szF (T : List Tt) : Nat → Int → Int
  | 0, _ => 0
  | k + 1, a => if 0 ≤ a then (match T[a.toNat]? with
    | some x => capS (szX (szF T k) x)
    | none => 0) else 0
theorem szF_nn {T : List Tt} (hl : ∀ (i : Nat) x, T[i]? = some x → x.fm = 7 → 0 ≤ x.ln) : ∀ (k : Nat) (a : Int), 0 ≤ szF T k a ∧ szF T k a ≤ 32769
  | 0, a => by simp [szF]
  | k + 1, a => by
    rw [szF]
    split
    · cases hx : T[a.toNat]? with
      | none => simp
      | some x =>
        have := szX_nn (fun b => (szF_nn hl k b).1) x (hl _ x hx)
        simp only [capS]
        omega
    · omega
theorem szF_more {T : List Tt} {r : Nat → Nat} (hr : RankOf T r) (hin : InP T) : ∀ (k : Nat) (i : Nat) (j : Nat), r i < k → k ≤ j → szF T k (i : Int) = szF T j (i : Int)
  | 0, i, j, h, _ => by omega
  | k + 1, i, 0, h, hj => by omega
  | k + 1, i, j + 1, h, hj => by
    rw [szF, szF, Int.toNat_natCast]
    simp only [Int.natCast_nonneg, if_true]
    cases hx : T[i]? with
    | none => rfl
    | some x =>
      simp only
      rw [szX_congr (fun a ha => ?_)]
      obtain ⟨q, rfl⟩ := Int.eq_ofNat_of_zero_le (hin i x hx a ha).1
      have := hr i x hx (q : Int) ha
      rw [Int.toNat_natCast] at this
      exact szF_more hr hin k q j (by omega) (by omega)
theorem GoodP.ln {T : List Tt} (g : GoodP T) : ∀ (i : Nat) x, T[i]? = some x → x.fm = 7 → 1 ≤ x.ln ∧ x.ln ≤ 4096 := fun i x hx hf => by
  have hi := g.loc.far hx (by omega)
  have := parts_7 (g.loc.oth i x hi hx).2 hf
  exact ⟨this.1, this.2.1⟩
theorem szs_of {T : List Tt} (g : GoodP T) : ∃ s, Szs T s := by
  obtain ⟨r, hr⟩ := g.rank
  have hin := g.loc.inP
  have hl : ∀ (i : Nat) x, T[i]? = some x → x.fm = 7 → 0 ≤ x.ln := fun i x hx hf => by have := g.ln i x hx hf; omega
  refine ⟨fun a => szF T (r a.toNat + 1) a, fun i x hx => ?_, fun a => (szF_nn hl _ a).1, fun a => (szF_nn hl _ a).2⟩
  simp only [Int.toNat_natCast]
  rw [szF, Int.toNat_natCast, hx]
  simp only [Int.natCast_nonneg, if_true]
  rw [szX_congr (fun a ha => ?_)]
  obtain ⟨q, rfl⟩ := Int.eq_ofNat_of_zero_le (hin i x hx a ha).1
  have := hr i x hx (q : Int) ha
  rw [Int.toNat_natCast] at this ⊢
  exact (szF_more hr hin (r q + 1) q (r i) (by omega) (by omega)).symm
/- Two ways of telling sizes tell the same. -/
theorem szs_one {T : List Tt} {r : Nat → Nat} (hr : RankOf T r) (hin : InP T) {s s' : Int → Int} (h : Szs T s) (h' : Szs T s') : ∀ (k i : Nat), r i < k → i < T.length → s (i : Int) = s' (i : Int)
  | 0, i, hk, hi => by omega
  | k + 1, i, hk, hi => by
    obtain ⟨x, hx⟩ : ∃ x, T[i]? = some x := ⟨T[i], List.getElem?_eq_getElem hi⟩
    rw [h.eq i x hx, h'.eq i x hx, szX_congr (fun a ha => ?_)]
    obtain ⟨h0, h1⟩ := hin i x hx a ha
    obtain ⟨q, rfl⟩ := Int.eq_ofNat_of_zero_le h0
    have := hr i x hx (q : Int) ha
    rw [Int.toNat_natCast] at this
    exact szs_one hr hin h h' k q (by omega) (by omega)
/- Fields. -/
def fndL (s : Int → Int) (nm : Txt) : Int → List Fl → Option (Int × Int)
  | _, [] => none
  | e, f :: l => if f.n = nm then some (atF e f.t, f.t) else fndL s nm (atF e f.t + s f.t) l
def fndB (T : List Tt) (s : Int → Int) (nm : Txt) : Nat → Nat → Option (Int × Int)
  | n, i => match T[i]? with
    | none => none
    | some x => match fndL s nm (s x.ba) x.fl with
      | some p => some p
      | none => match n with
        | 0 => none
        | n + 1 => fndB T s nm n x.ba.toNat
theorem fndL_none {s : Int → Int} {nm : Txt} : ∀ {l : List Fl} {e : Int}, (∀ f ∈ l, f.n ≠ nm) → fndL s nm e l = none
  | [], e, h => rfl
  | f :: l, e, h => by
    rw [fndL, if_neg (h f (.head _))]
    exact fndL_none (fun g hg => h g (.tail _ hg))
theorem fndL_hit {s : Int → Int} {nm : Txt} : ∀ {l : List Fl} {e : Int} {k : Nat} {f : Fl}, l[k]? = some f → f.n = nm → (∀ g ∈ l.take k, g.n ≠ nm) → fndL s nm e l = some (atF (layE s e ((l.take k).map (·.t))) f.t, f.t)
  | [], e, k, f, h, _, _ => by simp at h
  | g :: l, e, 0, f, h, hn, _ => by
    simp at h
    subst h
    rw [fndL, if_pos hn]
    rfl
  | g :: l, e, k + 1, f, h, hn, ha => by
    rw [fndL, if_neg (ha g (by simp)), fndL_hit (k := k) (by simpa using h) hn (fun g' hg' => ha g' (by simp [hg']))]
    rfl
theorem Loc.z0 {T : List Tt} (h : Loc T) {s : Int → Int} (hs : Szs T s) : s 0 = 0 := by
  have h0 := h.lo
  obtain ⟨x, hx⟩ : ∃ x, T[0]? = some x := ⟨T[0], List.getElem?_eq_getElem (by omega)⟩
  have := (h.form (by decide) hx).1
  have e := hs.eq 0 x hx
  rw [show ((0 : Nat) : Int) = 0 from rfl] at e
  rw [e]
  unfold szX
  rw [if_neg (by omega), if_neg (by omega), if_neg (by omega), if_neg (by omega)]
  rfl
end Go.Proofs.Ytnolelgmcmgohaa.Ty
namespace Go.Proofs.Ytnolelgmcmgohaa.Ty
open Go.RowKit hiding Hid
open Go.Proofs.Ytnolelgmcmgohaa.Tx Go.Proofs.Ytnolelgmcmgohaa.Lx Go.Proofs.Ytnolelgmcmgohaa.Tr
set_option linter.unusedVariables false
set_option linter.unusedSimpArgs false
set_option maxRecDepth 100000

theorem roundUp_at (n : Int) (w : World) (h0 : 0 ≤ n) (h1 : n ≤ 1000000000) : Calls Try.prog 56 #[.int .i64 n] w fun e w' => e = .returned (.int .i64 (up4 n)) ∧ w' = w := by
  obtain ⟨q, hq⟩ : ∃ q, (n + 3) / 4 = q := ⟨_, rfl⟩
  have e1 : (n + 3).tdiv 4 = q := by rw [Int.tdiv_eq_ediv_of_nonneg (by omega)]; exact hq
  have e2 : (n + 4 - 1).tdiv 4 = q := by rw [show n + 4 - 1 = n + 3 by omega]; exact e1
  have hu : up4 n = q * 4 := by unfold up4; rw [hq]
  have b0 : 0 ≤ q := by omega
  have b1 : q ≤ 1000000000 := by omega
  rw [hu]
  clear hu hq
  go_enter Try.func56, Try.ntmps56
  go_wp2
  go_ret
  simp
theorem up_at (n : Int) (w : World) (h0 : 0 ≤ n) (h1 : n ≤ 1000000000) : Calls Try.prog 57 #[.int .i64 n] w fun e w' => e = .returned (.int .i64 (up4 n)) ∧ w' = w := by
  obtain ⟨q, hq⟩ : ∃ q, (n + 3) / 4 = q := ⟨_, rfl⟩
  have e1 : (n + 3).tdiv 4 = q := by rw [Int.tdiv_eq_ediv_of_nonneg (by omega)]; exact hq
  have hu : up4 n = q * 4 := by unfold up4; rw [hq]
  have b0 : 0 ≤ q := by omega
  have b1 : q ≤ 1000000000 := by omega
  rw [hu]
  clear hu hq
  go_enter Try.func57, Try.ntmps57
  go_wp2
  go_ret
  simp
theorem bounded_at (n : Int) (w : World) : Calls Try.prog 81 #[.int .i64 n] w fun e w' => e = .returned (.int .i64 (capS n)) ∧ w' = w := by
  by_cases h : n ≤ 32769
  · have hc : capS n = n := by unfold capS; omega
    rw [hc]
    clear hc
    go_enter Try.func81, Try.ntmps81
    go_wp2
    go_ret
    simp
  · have hc : capS n = 32769 := by unfold capS; omega
    have h' : 32769 < n := by omega
    rw [hc]
    clear hc
    go_enter Try.func81, Try.ntmps81
    go_wp2
    go_ret
    simp
theorem packed_at (a : Int) (w : World) : Calls Try.prog 84 #[.int .i64 a] w fun e w' => e = .returned (.bool (packF a)) ∧ w' = w := by
  unfold packF
  by_cases h2 : a = 2
  · subst h2
    go_enter Try.func84, Try.ntmps84
    go_wp2
    go_ret
    simp
  · have b2 : (a == 2) = false := by simpa using h2
    rw [b2]
    clear h2
    go_enter Try.func84, Try.ntmps84
    go_wp2
    go_ret
    simp
theorem lwithin_at (w : World) (o : Option Addr) (n cp : Nat) (a : Int) (hn : n ≤ 1000000) : Calls Try.prog 48 #[.slice o n cp, .int .i64 a] w fun e w' => e = .returned (.bool (inT n a)) ∧ w' = w := by
  have hn' : (n : Int) ≤ 1000000 := by omega
  unfold inT
  by_cases h0 : 0 ≤ a
  · have e1 : decide (0 ≤ a) = true := by simpa using h0
    by_cases h1 : a < n
    · have e2 : decide (a < (n : Int)) = true := by simpa using h1
      rw [e1, e2]
      go_enter Try.func48, Try.ntmps48
      go_wp2
      go_ret
      simp
    · have e2 : decide (a < (n : Int)) = false := by simpa using h1
      rw [e1, e2]
      go_enter Try.func48, Try.ntmps48
      go_wp2
      go_ret
      simp
  · have e1 : decide (0 ≤ a) = false := by simpa using h0
    rw [e1]
    go_enter Try.func48, Try.ntmps48
    go_wp2
    go_ret
    simp
end Go.Proofs.Ytnolelgmcmgohaa.Ty
namespace Go.Proofs.Ytnolelgmcmgohaa.Ty
open Go.RowKit hiding Hid
open Go.Proofs.Ytnolelgmcmgohaa.Tx Go.Proofs.Ytnolelgmcmgohaa.Lx Go.Proofs.Ytnolelgmcmgohaa.Tr
set_option linter.unusedVariables false
set_option linter.unusedSimpArgs false
set_option maxRecDepth 100000

def rkC (o : Option Addr) (n cp : Nat) (ks : List Bool) (zs : List Int) : List Value := .slice o n cp :: (ks.map Value.bool ++ zs.map (Value.int .i64))
structure Rk (w0 : World) (o : Option Addr) (cp : Nat) (T : List Tt) (s : Int → Int) (b : Nat) (ks : List Bool) (zs : List Int) (w : World) : Prop where
  tab : Tab w0 o T
  gr : w0.grownBy w none
  new : w0.heap.size ≤ b
  blk : w.heap[b]? = some (.cells (rkC o T.length cp ks zs).toArray 60 (0, 0))
  kl : ks.length = 256
  zl : zs.length = 256
  ok : ∀ i : Nat, i < T.length → ks[i]? = some true → zs[i]? = some (s i)
section
variable {w0 : World} {o : Option Addr} {cp : Nat} {T : List Tt} {s : Int → Int} {b : Nat}
theorem Rk.cx {ks : List Bool} {zs : List Int} {w : World} (H : Rk w0 o cp T s b ks zs w) (A : Nat → Prop) : Cx w A (some b) [⟨b, rkC o T.length cp ks zs, 60⟩] [] [] w :=
  ⟨grown_refl w _, fun p hp => by rw [List.mem_singleton] at hp; subst hp; exact H.blk, fun p hp => by rw [List.mem_singleton] at hp; subst hp; exact .inr rfl, List.pairwise_singleton _ _, by simp, by simp, List.Pairwise.nil, by simp, fun x e => by cases e; exact (Array.getElem?_eq_some_iff.1 H.blk).1⟩
theorem Rk.next {ks ks' : List Bool} {zs zs' : List Int} {w w' : World} (H : Rk w0 o cp T s b ks zs w) (hg : w.grownBy w' (some b)) (hb : w'.heap[b]? = some (.cells (rkC o T.length cp ks' zs').toArray 60 (0, 0))) (h1 : ks'.length = 256) (h2 : zs'.length = 256) (h3 : ∀ i : Nat, i < T.length → ks'[i]? = some true → zs'[i]? = some (s i)) : Rk w0 o cp T s b ks' zs' w' :=
  ⟨H.tab, grown_then H.gr hg (fun y e => by cases e; exact .inr H.new), H.new, hb, h1, h2, h3⟩
theorem Rk.stay {ks : List Bool} {zs : List Int} {w w' : World} (H : Rk w0 o cp T s b ks zs w) (hg : w.grownBy w' (some b)) (hb : w'.heap[b]? = some (.cells (rkC o T.length cp ks zs).toArray 60 (0, 0))) : Rk w0 o cp T s b ks zs w' := H.next hg hb H.kl H.zl H.ok
/- What a call tells, and that the sizes that are known stay right. -/
def RkO (w0 : World) (o : Option Addr) (cp : Nat) (T : List Tt) (s : Int → Int) (b : Nat) (w : World) (v : Value) (e : Ending) (w' : World) : Prop :=
  ∃ ks zs, e = .returned v ∧ w.grownBy w' (some b) ∧ Rk w0 o cp T s b ks zs w'
def SzOk (w0 : World) (o : Option Addr) (cp : Nat) (T : List Tt) (s : Int → Int) (b : Nat) (r : Nat → Nat) (k : Nat) : Prop := ∀ (ks : List Bool) (zs : List Int) (w : World) (a : Nat), Rk w0 o cp T s b ks zs w → a < T.length → r a < k →
  Calls Try.prog 49 #[.pointer (some ⟨b, 0, none⟩), .int .i64 a] w (RkO w0 o cp T s b w (.int .i64 (s a)))
theorem rk_len (n : Nat) (ks : List Bool) (zs : List Int) : (rkC o n cp ks zs).length = 1 + ks.length + zs.length := by simp [rkC]; omega
theorem rk_known {n : Nat} {ks : List Bool} {zs : List Int} {a : Nat} {k : Bool} (h : ks[a]? = some k) : (rkC o n cp ks zs)[1 + a]? = some (.bool k) := by
  have := (List.getElem?_eq_some_iff.1 h).1
  unfold rkC
  rw [Nat.add_comm 1 a, List.getElem?_cons_succ, List.getElem?_append_left (by simpa using this), List.getElem?_map, h]
  rfl
theorem rk_size {n : Nat} {ks : List Bool} {zs : List Int} {a : Nat} {z : Int} (hk : ks.length = 256) (h : zs[a]? = some z) : (rkC o n cp ks zs)[257 + a]? = some (.int .i64 z) := by
  unfold rkC
  rw [show 257 + a = (256 + a) + 1 by omega, List.getElem?_cons_succ, List.getElem?_append_right (by simp [hk]), List.length_map, hk, show 256 + a - 256 = a by omega, List.getElem?_map, h]
  rfl
theorem rk_putK {n : Nat} {ks : List Bool} {zs : List Int} {a : Nat} (h : a < ks.length) (v : Bool) : PutS (1 + a) [.bool v] (rkC o n cp ks zs) (rkC o n cp (ks.set a v) zs) := by
  have := putS_at (rkC o n cp ks zs) (1 + a) (.bool v) (by rw [rk_len]; omega)
  have e : (rkC o n cp ks zs).set (1 + a) (.bool v) = rkC o n cp (ks.set a v) zs := by
    unfold rkC
    rw [Nat.add_comm 1 a, List.set_cons_succ, List.set_append, if_pos (by simpa using h), ← List.map_set]
  rwa [e] at this
theorem rk_putZ {n : Nat} {ks : List Bool} {zs : List Int} {a : Nat} (hk : ks.length = 256) (h : a < zs.length) (v : Int) : PutS (257 + a) [.int .i64 v] (rkC o n cp ks zs) (rkC o n cp ks (zs.set a v)) := by
  have := putS_at (rkC o n cp ks zs) (257 + a) (.int .i64 v) (by rw [rk_len]; omega)
  have e : (rkC o n cp ks zs).set (257 + a) (.int .i64 v) = rkC o n cp ks (zs.set a v) := by
    unfold rkC
    rw [show 257 + a = (256 + a) + 1 by omega, List.set_cons_succ, List.set_append, if_neg (by simp [hk]), List.length_map, hk, show 256 + a - 256 = a by omega, ← List.map_set]
  rwa [e] at this
theorem rk_cellK {ks : List Bool} {zs : List Int} {w : World} (H : Rk w0 o cp T s b ks zs w) {a : Nat} {k : Bool} (h : ks[a]? = some k) : w.cell? ⟨b, 1 + a, none⟩ = some (.bool k) := by
  rw [cell_of_row _ _ _ _ _ _ H.blk]
  simpa using rk_known h
theorem rk_cellZ {ks : List Bool} {zs : List Int} {w : World} (H : Rk w0 o cp T s b ks zs w) {a : Nat} {z : Int} (h : zs[a]? = some z) : w.cell? ⟨b, 257 + a, none⟩ = some (.int .i64 z) := by
  rw [cell_of_row _ _ _ _ _ _ H.blk]
  simpa using rk_size H.kl h
theorem rk_head {ks : List Bool} {zs : List Int} {w : World} (H : Rk w0 o cp T s b ks zs w) : w.cell? ⟨b, 0, none⟩ = some (.slice o T.length cp) := by
  rw [cell_of_row _ _ _ _ _ _ H.blk]
  rfl
set_option maxHeartbeats 4000000 in
theorem first_at {r : Nat → Nat} {k : Nat} (hZ : SzOk w0 o cp T s b r k) {ks : List Bool} {zs : List Int} {w : World} {la : La} (H : Rk w0 o cp T s b ks zs w) {j : Nat} (hj : la.x.ba = (j : Int)) (hj1 : j < T.length) (hj2 : r j < k) :
    Calls Try.prog 83 #[.pointer (some ⟨b, 0, none⟩), .agg (laC la).toArray] w (RkO w0 o cp T s b w (.int .i64 (s la.x.ba))) := by
  obtain ⟨⟨fm, md, nm, ln, el, ba, fl, pm, rs, ds⟩, fo, fc, po, pc⟩ := la
  dsimp only at hj ⊢
  subst hj
  have HZ := hide hZ
  have HRk := hide H
  have HC := hide (H.cx (fun _ => False))
  have HJ := hide hj1
  have HR := hide hj2
  unfold laC
  dsimp only
  clear hZ H hj1 hj2
  go_enter Try.func83, Try.ntmps83
  go_wp2_with (first | (refine at_box 32 rfl ?_; refine wl_box rfl 32 _ rfl _ rfl HC.out ?_; intro bb w' hn hc; (replace HC := hide hc; clear hc)) | (refine at_load 3 rfl ?_; refine wl_load_c rfl 3 _ rfl tcI rfl HC.out (by repeat (first | exact List.Mem.head _ | apply List.Mem.tail)) (by repeat (first | exact GetS.cons _ (GetS.nil _) | apply GetS.skip)) ?_) | (go_at_call 49; refine (HZ.out _ _ _ j (HRk.out.stay HC.out.grown (HC.out.loc ⟨b, rkC o T.length cp ks zs, 60⟩ (by repeat (first | exact List.Mem.head _ | apply List.Mem.tail)))) HJ.out HR.out).mono ?_; rintro e w2 ⟨ks', zs', rfl, hg, hs⟩; have HG := hide hg; have HS := hide hs; clear hg hs))
  go_ret
  exact ⟨ks', zs', rfl, grown_then HC.out.grown HG.out (fun y e => .inl e), HS.out⟩
set_option maxHeartbeats 4000000 in
theorem lay_at {r : Nat → Nat} {k : Nat} (hZ : SzOk w0 o cp T s b r k) {ks : List Bool} {zs : List Int} {w : World} (H : Rk w0 o cp T s b ks zs w) (hs0 : ∀ a, 0 ≤ s a) (hs1 : ∀ a, s a ≤ 32769) {j : Nat} (hj1 : j < T.length) (hj2 : r j < k) (E : Int) (hE0 : 0 ≤ E) (hE1 : E ≤ 100000000) :
    Calls Try.prog 55 #[.pointer (some ⟨b, 0, none⟩), .int .i64 E, .int .i64 j] w (RkO w0 o cp T s b w (.tuple #[.int .i64 (atF E j), .int .i64 (atF E j + s j)])) := by
  have v0 := hs0 j
  have v1 := hs1 j
  have p0 := atF_le E j
  have p1 := atF_lt E j
  have HZ := hide hZ
  have HRk := hide H
  have HC := hide (H.cx (fun _ => False))
  have HJ := hide hj1
  have HR := hide hj2
  cases hp : packF (j : Int) with
  | true =>
    have he : atF E j = E := by unfold atF; rw [if_pos hp]
    rw [he] at p0 p1 ⊢
    have HP := hide hp
    obtain ⟨V, hV⟩ : ∃ V, s (j : Int) = V := ⟨_, rfl⟩
    rw [hV] at v0 v1 ⊢
    have HV := hide hV
    clear hZ H hj1 hj2 hp he hs0 hs1 hV
    go_enter Try.func55, Try.ntmps55
    go_wp2_with (first | (go_at_call 84; refine (packed_at _ _).mono ?_; rw [HP.out]; rintro e w' ⟨rfl, hw⟩; replace hw := hw.symm; subst hw) | (go_at_call 49; refine (HZ.out _ _ _ j (HRk.out.stay HC.out.grown (HC.out.loc ⟨b, rkC o T.length cp ks zs, 60⟩ (by repeat (first | exact List.Mem.head _ | apply List.Mem.tail)))) HJ.out HR.out).mono ?_; rw [HV.out]; rintro e w2 ⟨ks', zs', rfl, hg, hs⟩; have HG := hide hg; have HS := hide hs; clear hg hs))
    refine bodyPost_ret (v := .tuple #[.int .i64 E, .int .i64 (E + V)]) (by simp [results, Try.results55, go_sem]) rfl ?_
    exact ⟨ks', zs', rfl, grown_then HC.out.grown HG.out (fun y e => .inl e), HS.out⟩
  | false =>
    have he : atF E j = up4 E := by unfold atF; rw [hp]; rfl
    rw [he] at p0 p1 ⊢
    have HP := hide hp
    obtain ⟨V, hV⟩ : ∃ V, s (j : Int) = V := ⟨_, rfl⟩
    rw [hV] at v0 v1 ⊢
    obtain ⟨U, hU⟩ : ∃ U, up4 E = U := ⟨_, rfl⟩
    rw [hU] at p0 p1 ⊢
    have HV := hide hV
    have HU := hide hU
    clear hZ H hj1 hj2 hp he hs0 hs1 hV hU
    go_enter Try.func55, Try.ntmps55
    go_wp2_with (first | (go_at_call 84; refine (packed_at _ _).mono ?_; rw [HP.out]; rintro e w' ⟨rfl, hw⟩; replace hw := hw.symm; subst hw) | (go_at_call 56; refine (roundUp_at _ _ (by omega) (by omega)).mono ?_; rw [HU.out]; rintro e w' ⟨rfl, hw⟩; replace hw := hw.symm; subst hw) | (go_at_call 49; refine (HZ.out _ _ _ j (HRk.out.stay HC.out.grown (HC.out.loc ⟨b, rkC o T.length cp ks zs, 60⟩ (by repeat (first | exact List.Mem.head _ | apply List.Mem.tail)))) HJ.out HR.out).mono ?_; rw [HV.out]; rintro e w2 ⟨ks', zs', rfl, hg, hs⟩; have HG := hide hg; have HS := hide hs; clear hg hs))
    refine bodyPost_ret (v := .tuple #[.int .i64 U, .int .i64 (U + V)]) (by simp [results, Try.results55, go_sem]) rfl ?_
    exact ⟨ks', zs', rfl, grown_then HC.out.grown HG.out (fun y e => .inl e), HS.out⟩
end
end Go.Proofs.Ytnolelgmcmgohaa.Ty
namespace Go.Proofs.Ytnolelgmcmgohaa.Ty
open Go.RowKit hiding Hid
open Go.Proofs.Ytnolelgmcmgohaa.Tx Go.Proofs.Ytnolelgmcmgohaa.Lx Go.Proofs.Ytnolelgmcmgohaa.Tr
set_option linter.unusedVariables false
set_option linter.unusedSimpArgs false
set_option maxRecDepth 100000

/- What a table's types keep to, so that sizes can be reckoned. -/
structure Rb (T : List Tt) (s : Int → Int) (r : Nat → Nat) : Prop where
  rk : RankOf T r
  inp : InP T
  ln : ∀ (i : Nat) x, T[i]? = some x → x.fm = 7 → 1 ≤ x.ln ∧ x.ln ≤ 4096
  fl : ∀ (i : Nat) x, T[i]? = some x → x.fl.length ≤ 64
  hs : Szs T s
  hi : T.length ≤ 256
section
variable {w0 : World} {o : Option Addr} {cp : Nat} {T : List Tt} {s : Int → Int} {b : Nat}
theorem fl_t {l : List Fl} {i : Nat} {n : Txt} {x : Bool} {t : Int} (h : l[i]? = some ⟨n, x, t⟩) : (l.map (·.t))[i]? = some t := by rw [List.getElem?_map, h]; rfl
set_option maxHeartbeats 8000000 in
theorem rrec_at {r : Nat → Nat} {k : Nat} (hZ : SzOk w0 o cp T s b r k) (hB : Rb T s r) {ks : List Bool} {zs : List Int} {w : World} {la : La} (H : Rk w0 o cp T s b ks zs w) (hla : Lp w0 la) {a : Nat} (hx : T[a]? = some la.x) (hf : la.x.fm = 9) (hk : r a ≤ k) :
    Calls Try.prog 94 #[.pointer (some ⟨b, 0, none⟩), .agg (laC la).toArray] w (RkO w0 o cp T s b w (.int .i64 (up4 (layE s (s la.x.ba) (flT la.x))))) := by
  obtain ⟨⟨fm, md, nm, ln, el, ba, fl, pm, rs, ds⟩, fo, fc, po, pc⟩ := la
  dsimp only at hf hx ⊢
  have hp := flsI (ba := ba) (ds := ds) (ln := ln) (el := el) (rs := rs) (md := md) (nm := nm) (fl := fl) (pm := pm) hf
  have hba := hB.inp a _ hx ba (by rw [hp]; simp)
  have hbr := hB.rk a _ hx ba (by rw [hp]; simp)
  have HFs := hide (fun t (ht : t ∈ fl.map (·.t)) => And.intro (hB.inp a _ hx t (by rw [hp]; exact List.mem_append.2 (.inl ht))) (hB.rk a _ hx t (by rw [hp]; exact List.mem_append.2 (.inl ht))))
  obtain ⟨q, rfl⟩ := Int.eq_ofNat_of_zero_le hba.1
  rw [Int.toNat_natCast] at hbr
  have HBa := hide (And.intro (rfl : (q : Int) = (q : Int)) (And.intro (show q < T.length by omega) (show r q < k by omega)))
  have h64 := hB.fl a _ hx
  have HSs := hide hB.hs
  have hla1 := hla.fl
  dsimp only at hla1 h64
  have k0 : (fl.length : Int) ≤ 64 := by omega
  have HO := hide hla1
  have HZ := hide hZ
  have HRk := hide H
  have HS := hide H
  have HK := hide hk
  have HC := hide (H.cx (fun _ => False))
  obtain ⟨ks1, hks⟩ : ∃ x, ks = x := ⟨_, rfl⟩
  obtain ⟨zs1, hzs⟩ : ∃ x, zs = x := ⟨_, rfl⟩
  subst hks hzs
  obtain ⟨E0, hE0⟩ : ∃ e, s (q : Int) = e := ⟨_, rfl⟩
  have e00 : 0 ≤ E0 := by rw [← hE0]; exact hB.hs.lo _
  have e01 : E0 ≤ 32769 := by rw [← hE0]; exact hB.hs.hi _
  have HE0 := hide hE0
  have hall : ∀ i, layE s E0 ((fl.map (·.t)).take i) ≤ 3000000 := fun i => by
    have h1 := layE_take_le hB.hs.lo (fl.map (·.t)) i E0
    have h2 := layE_max hB.hs.hi (fl.map (·.t)) E0
    rw [List.length_map] at h2
    have : (32772 : Int) * fl.length ≤ 32772 * 64 := by omega
    omega
  have hnn : ∀ i, 0 ≤ layE s E0 ((fl.map (·.t)).take i) := fun i => by
    have := layE_le hB.hs.lo ((fl.map (·.t)).take i) E0
    omega
  have HAl := hide hall
  have HNn := hide hnn
  rw [hE0]
  have hfl : flT (⟨fm, md, nm, ln, el, q, fl, pm, rs, ds⟩ : Tt) = fl.map (·.t) := rfl
  rw [hfl]
  have hbb : Hid (s (q : Int) = E0) := hide hE0
  unfold laC
  dsimp only
  subst hf
  clear hZ H hx hp hla hla1 hba hbr h64 hB hk hE0 hall hnn hfl
  go_enter Try.func94, Try.ntmps94
  go_wp2_with (first | (refine at_box 32 rfl ?_; refine wl_box rfl 32 _ rfl _ rfl HC.out ?_; intro bb w' hn hc; (replace HC := hide hc; clear hc)) | (refine at_load 32 rfl ?_; refine wl_load_s rfl 32 _ rfl tyT rfl HC.out (by repeat (first | exact List.Mem.head _ | apply List.Mem.tail)) (GetS.all _) rfl ?_) | (go_at_call 83; refine (first_at (la := ⟨⟨9, md, nm, ln, el, (q : Int), fl, pm, rs, ds⟩, fo, fc, po, pc⟩) HZ.out (HRk.out.stay HC.out.grown (HC.out.loc ⟨b, rkC o T.length cp ks zs, 60⟩ (by repeat (first | exact List.Mem.head _ | apply List.Mem.tail)))) HBa.out.1 HBa.out.2.1 HBa.out.2.2).mono ?_; dsimp only; rw [hbb.out]; rintro e w2 ⟨ks2, zs2, rfl, hg, hs⟩; replace HC := hide (HC.out.callX hg (by repeat (first | exact List.Mem.head _ | apply List.Mem.tail)) hs.blk (by repeat (first | exact Upd.here _ _ _ | apply Upd.there))); replace HS := hide hs; clear hg hs) | (refine at_load 29 rfl ?_; refine wl_load_c rfl 29 _ rfl tcLF rfl HC.out (by repeat (first | exact List.Mem.head _ | apply List.Mem.tail)) (by repeat (first | exact GetS.cons _ (GetS.nil _) | apply GetS.skip)) ?_))
  go_loopw [5, 14] (fun ev iv W => ∃ (i : Nat) (E : Int) (ks1 : List Bool) (zs1 : List Int), i ≤ fl.length ∧ iv = .int .i64 i ∧ ev = .int .i64 E ∧ Hid (E = layE s E0 ((fl.map (·.t)).take i)) ∧ Hid (Rk w0 o cp T s b ks1 zs1 W) ∧ Hid (Cx w (fun _ => False) (some b) [⟨bb, [.int .i64 9, .string (bs md), .string (bs nm), .int .i64 ln, .int .i64 el, .int .i64 (q : Int), .slice fo fl.length fc, .slice po pm.length pc, .int .i64 rs, .int .i64 ds], 32⟩, ⟨b, rkC o T.length cp ks1 zs1, 60⟩] [] [] W)) (fun _ iv _ => fl.length - (intOf iv).toNat)
  case atStart => exact ⟨0, E0, ks2, zs2, by omega, rfl, rfl, hide rfl, HS, HC⟩
  case round =>
    clear HC HS
    obtain ⟨i, E, ks1, zs1, hi, rfl, rfl, HE, HS, HC⟩ := hrel
    by_cases hlt : i < fl.length
    · have j1 : (i : Int) < fl.length := by omega
      obtain ⟨⟨n, x, t⟩, hxi⟩ : ∃ p, fl[i]? = some p := ⟨fl[i], List.getElem?_eq_getElem hlt⟩
      have ht := fl_t hxi
      obtain ⟨q0, q1⟩ := HFs.out t (List.mem_of_getElem? ht)
      obtain ⟨j, rfl⟩ := Int.eq_ofNat_of_zero_le q0.1
      rw [Int.toNat_natCast] at q1
      have HJ := hide (show j < T.length by omega)
      have HR := hide (show r j < k by have := HK.out; omega)
      obtain ⟨ad, rfl, hel⟩ := HO.out.el flC_len (by decide) hxi
      have HEL := hide (fun W (hW : w0.grownBy W none) j' u (hu : (flC ⟨n, x, (j : Int)⟩)[j']? = some u) => hW.cell (hel j' u hu) (by simp))
      unfold flC at HEL
      dsimp only at HEL
      obtain ⟨B, hB⟩ : ∃ B, ad.add (i * 3) = B := ⟨_, rfl⟩
      rw [hB] at HEL
      have hE0 : 0 ≤ E := by rw [HE.out]; exact HNn.out i
      have hE1 : E ≤ 100000000 := by rw [HE.out]; have := HAl.out i; omega
      obtain ⟨V1, hV1⟩ : ∃ v, atF E (j : Int) = v := ⟨_, rfl⟩
      obtain ⟨V2, hV2⟩ : ∃ v, V1 + s (j : Int) = v := ⟨_, rfl⟩
      have HN := hide hV1
      have HN2 := hide hV2
      have HNx := hide (show V2 = layE s E0 ((fl.map (·.t)).take (i + 1)) by rw [layE_take E0 ht, ← HE.out, hV1, hV2])
      clear hel hxi q0 q1 ht hV1 hV2
      go_wp2_with (first | (refine at_load 48 rfl ?_; refine wl_run rfl 48 _ rfl rfl (run_load_s tyF _ [.string (bs n), .bool x, .int .i64 (j : Int)] rfl (HEL.out _ (grown_then HRk.out.gr HC.out.grown (fun y e => by cases e; exact .inr HRk.out.new)))) ?_) | (refine at_alloc 48 rfl ?_; refine wl_alloc rfl 48 rfl _ zF HC.out ?_; intro bf w' hn hc; (replace HC := hide hc; clear hc)) | (refine at_store 48 rfl ?_; refine wl_store rfl 48 _ _ rfl rfl rfl tyF.sz rfl HC.out (by repeat (first | exact List.Mem.head _ | apply List.Mem.tail)) (by exact PutS.all _ _ rfl) (by repeat (first | exact Upd.here _ _ _ | apply Upd.there)) ?_; intro w' hc; (replace HC := hide hc; clear hc)) | (refine at_load 3 rfl ?_; refine wl_load_c rfl 3 _ rfl tcI rfl HC.out (by repeat (first | exact List.Mem.head _ | apply List.Mem.tail)) (by repeat (first | exact GetS.cons _ (GetS.nil _) | apply GetS.skip)) ?_) | (go_at_call 55; refine (lay_at HZ.out (HRk.out.next (ks' := ks1) (zs' := zs1) HC.out.grown (HC.out.loc ⟨b, rkC o T.length cp ks1 zs1, 60⟩ (by repeat (first | exact List.Mem.head _ | apply List.Mem.tail))) HS.out.kl HS.out.zl HS.out.ok) HSs.out.lo HSs.out.hi HJ.out HR.out E hE0 hE1).mono ?_; rw [HN.out, HN2.out]; rintro e w2 ⟨ks', zs', rfl, hg, hs⟩; have HG := hide hg; have HQ := hide hs; clear hg hs))
      refine ⟨⟨i + 1, V2, ks', zs', by omega, by go_num, rfl, HNx, HQ, hide ((HC.out.callX HG.out (by repeat (first | exact List.Mem.head _ | apply List.Mem.tail)) HQ.out.blk (by repeat (first | exact Upd.here _ _ _ | apply Upd.there))).drop)⟩, by simp [intOf]; omega⟩
    · have HI := hide (show i = fl.length by omega)
      have q1 : ¬ (i : Int) < fl.length := by omega
      have hE0 : 0 ≤ E := by rw [HE.out]; exact HNn.out i
      have hE1 : E ≤ 100000000 := by rw [HE.out]; have := HAl.out i; omega
      have HU := hide (show up4 E = up4 (layE s E0 (fl.map (·.t))) by rw [HE.out, HI.out, List.take_of_length_le (by rw [List.length_map]; exact Nat.le_refl _)])
      clear hlt
      go_wp2_with (go_at_call 56; refine (roundUp_at _ _ hE0 (by omega)).mono ?_; rw [HU.out]; rintro e w' ⟨rfl, hw⟩; replace hw := hw.symm; subst hw)
      go_ret
      exact ⟨ks1, zs1, rfl, HC.out.grown, HS.out⟩
/- What a type's size is reckoned to. -/
set_option maxHeartbeats 8000000 in
theorem reck_at {r : Nat → Nat} {k : Nat} (hZ : SzOk w0 o cp T s b r k) (hB : Rb T s r) {ks : List Bool} {zs : List Int} {w : World} {la : La} (H : Rk w0 o cp T s b ks zs w) (hla : Lp w0 la) {a : Nat} (hx : T[a]? = some la.x) (hk : r a ≤ k) :
    Calls Try.prog 82 #[.pointer (some ⟨b, 0, none⟩), .agg (laC la).toArray] w (RkO w0 o cp T s b w (.int .i64 (szX s la.x))) := by
  by_cases f9 : la.x.fm = 9
  · have HQ := hide (fun W (hW : Rk w0 o cp T s b ks zs W) => rrec_at hZ hB hW hla hx f9 hk)
    obtain ⟨⟨fm, md, nm, ln, el, ba, fl, pm, rs, ds⟩, fo, fc, po, pc⟩ := la
    dsimp only at f9 hx HQ ⊢
    subst f9
    have hs : szX s ⟨9, md, nm, ln, el, ba, fl, pm, rs, ds⟩ = up4 (layE s (s ba) (flT ⟨9, md, nm, ln, el, ba, fl, pm, rs, ds⟩)) := rfl
    rw [hs]
    have HRk := hide H
    have HC := hide (H.cx (fun _ => False))
    unfold laC at HQ ⊢
    dsimp only at HQ ⊢
    clear hZ hB H hla hx hk hs
    go_enter Try.func82, Try.ntmps82
    go_wp2_with (first | (refine at_box 32 rfl ?_; refine wl_box rfl 32 _ rfl _ rfl HC.out ?_; intro bb w' hn hc; (replace HC := hide hc; clear hc)) | (refine at_load 3 rfl ?_; refine wl_load_c rfl 3 _ rfl tcI rfl HC.out (by repeat (first | exact List.Mem.head _ | apply List.Mem.tail)) (by repeat (first | exact GetS.cons _ (GetS.nil _) | apply GetS.skip)) ?_) | (refine at_load 32 rfl ?_; refine wl_load_s rfl 32 _ rfl tyT rfl HC.out (by repeat (first | exact List.Mem.head _ | apply List.Mem.tail)) (GetS.all _) rfl ?_) | (go_at_call 94; refine (HQ.out _ (HRk.out.stay HC.out.grown (HC.out.loc ⟨b, rkC o T.length cp ks zs, 60⟩ (by repeat (first | exact List.Mem.head _ | apply List.Mem.tail))))).mono ?_; rintro e w2 ⟨ks', zs', rfl, hg, hs⟩; have HG := hide hg; have HS := hide hs; clear hg hs))
    go_ret
    exact ⟨ks', zs', rfl, grown_then HC.out.grown HG.out (fun y e => .inl e), HS.out⟩
  by_cases f7 : la.x.fm = 7
  · obtain ⟨⟨fm, md, nm, ln, el, ba, fl, pm, rs, ds⟩, fo, fc, po, pc⟩ := la
    dsimp only at f7 hx ⊢
    have hp : partsI ⟨fm, md, nm, ln, el, ba, fl, pm, rs, ds⟩ = [el] := by unfold partsI; rw [if_pos (.inl f7)]
    have hl := hB.ln a _ hx f7
    dsimp only at hl
    have h0 := hB.inp a _ hx el (by rw [hp]; simp)
    have h1 := hB.rk a _ hx el (by rw [hp]; simp)
    obtain ⟨j, rfl⟩ := Int.eq_ofNat_of_zero_le h0.1
    rw [Int.toNat_natCast] at h1
    have HJ := hide (show j < T.length by omega)
    have HR := hide (show r j < k by omega)
    subst f7
    have hs : szX s ⟨7, md, nm, ln, (j : Int), ba, fl, pm, rs, ds⟩ = up4 (ln * s (j : Int)) := rfl
    rw [hs]
    have v0 := hB.hs.lo (j : Int)
    have v1 := hB.hs.hi (j : Int)
    obtain ⟨V, hV⟩ : ∃ V, s (j : Int) = V := ⟨_, rfl⟩
    have HV := hide hV
    rw [hV] at v0 v1 ⊢
    obtain ⟨M, hM⟩ : ∃ M, ln * V = M := ⟨_, rfl⟩
    have m0 : 0 ≤ M := by rw [← hM]; exact Int.mul_nonneg (by omega) v0
    have m1 : M ≤ 134221824 := by
      rw [← hM]
      have := Int.mul_le_mul hl.2 v1 v0 (by decide : (0 : Int) ≤ 4096)
      omega
    obtain ⟨U, hU⟩ : ∃ U, up4 M = U := ⟨_, rfl⟩
    have HU := hide hU
    rw [hM, hU]
    have HZ := hide hZ
    have HRk := hide H
    have HC := hide (H.cx (fun _ => False))
    unfold laC
    dsimp only
    clear hZ hB H hla hx hk hp hl h0 h1 hs hV hU
    go_enter Try.func82, Try.ntmps82
    go_wp2_with (first | (refine at_box 32 rfl ?_; refine wl_box rfl 32 _ rfl _ rfl HC.out ?_; intro bb w' hn hc; (replace HC := hide hc; clear hc)) | (refine at_load 3 rfl ?_; refine wl_load_c rfl 3 _ rfl tcI rfl HC.out (by repeat (first | exact List.Mem.head _ | apply List.Mem.tail)) (by repeat (first | exact GetS.cons _ (GetS.nil _) | apply GetS.skip)) ?_))
    (replace HC := hide (HC.out.g (d1_g _)); have HC0 := HC; refine wp_region_inO (fun W => World.grownBy _ W (some b)) 99 [0, 1, 2, 3, 4, 6, 8] [0, 1, 2, 3, 4, 5, 6, 7, 8] (by kernel_rfl) (by kernel_rfl) (by kernel_rfl) (by kernel_rfl) (fun _ _ d _ _ h => by cases d <;> exact h) (gr_ref _ _) ?_; have HS := hide (gr_of HC.out (some b)))
    (refine inO_read (v := ?_) rfl rfl (Or.inl ⟨by rfl, ?_⟩) ?_; rotate_left 1; (focus (intro W hSW; clear hSW; go_simp; (try (with_reducible rfl)))); (try simp only [Act.put, List.getElem_toArray, List.getElem_cons_zero, List.getElem_cons_succ, List.setIfInBounds_toArray, List.set_cons_zero, List.set_cons_succ]))
    (refine inO_read rfl rfl (yl_c tcI rfl rfl rfl HC0.out (by first | assumption | exact nx0 _) (by repeat (first | exact List.Mem.head _ | apply List.Mem.tail)) (by repeat (first | exact GetS.cons _ (GetS.nil _) | apply GetS.skip))) ?_; (try simp only [Act.put, List.getElem_toArray, List.getElem_cons_zero, List.getElem_cons_succ, List.setIfInBounds_toArray, List.set_cons_zero, List.set_cons_succ]))
    (refine inO_read (v := ?_) rfl rfl (Or.inl ⟨by rfl, ?_⟩) ?_; rotate_left 1; (focus (intro W hSW; clear hSW; go_simp; (try (with_reducible rfl)))); (try simp only [Act.put, List.getElem_toArray, List.getElem_cons_zero, List.getElem_cons_succ, List.setIfInBounds_toArray, List.set_cons_zero, List.set_cons_succ]))
    (refine inO_read (v := ?_) rfl rfl (Or.inl ⟨by rfl, ?_⟩) ?_; rotate_left 1; (focus (intro W hSW; clear hSW; go_simp; (try (with_reducible rfl)))); (try simp only [Act.put, List.getElem_toArray, List.getElem_cons_zero, List.getElem_cons_succ, List.setIfInBounds_toArray, List.set_cons_zero, List.set_cons_succ]))
    (refine inO_read rfl rfl (yl_c tcI rfl rfl rfl HC0.out (by first | assumption | exact nx0 _) (by repeat (first | exact List.Mem.head _ | apply List.Mem.tail)) (by repeat (first | exact GetS.cons _ (GetS.nil _) | apply GetS.skip))) ?_; (try simp only [Act.put, List.getElem_toArray, List.getElem_cons_zero, List.getElem_cons_succ, List.setIfInBounds_toArray, List.set_cons_zero, List.set_cons_succ]))
    (refine inO_act rfl rfl rfl (fun K' hK => ?_))
    go_simp
    refine (HZ.out _ _ _ j (HRk.out.stay HC.out.grown (HC.out.loc ⟨b, rkC o T.length cp ks zs, 60⟩ (by repeat (first | exact List.Mem.head _ | apply List.Mem.tail)))) HJ.out HR.out).mono ?_
    rw [HV.out]
    rintro e w2 ⟨ks', zs', rfl, hg, hs⟩
    have HQ := hide hs
    replace HC := hide (HC.out.callX hg (by repeat (first | exact List.Mem.head _ | apply List.Mem.tail)) hs.blk (by repeat (first | exact Upd.here _ _ _ | apply Upd.there)))
    refine hK _ _ (.inr (gr_then HS.out hg)) ?_
    replace HS := hide (gr_then HS.out hg)
    clear hK K' hg hs
    (try simp only [Act.put, List.getElem_toArray, List.getElem_cons_zero, List.getElem_cons_succ, List.setIfInBounds_toArray, List.set_cons_zero, List.set_cons_succ])
    (refine inO_read (v := ?_) rfl rfl (Or.inl ⟨by rfl, ?_⟩) ?_; rotate_left 1; (focus (intro W hSW; clear hSW; go_simp; (try (with_reducible rfl)))); (try simp only [Act.put, List.getElem_toArray, List.getElem_cons_zero, List.getElem_cons_succ, List.setIfInBounds_toArray, List.set_cons_zero, List.set_cons_succ]))
    (refine inO_act rfl rfl rfl (fun K' hK => ?_))
    go_simp
    rw [wr_in (x := M) (by omega) (by omega)]
    refine (roundUp_at _ _ m0 (by omega)).mono ?_
    rw [HU.out]
    rintro e w' ⟨rfl, hw⟩; replace hw := hw.symm; subst hw
    refine hK _ _ (.inr HS.out) ?_
    clear hK K'
    (try simp only [Act.put, List.getElem_toArray, List.getElem_cons_zero, List.getElem_cons_succ, List.setIfInBounds_toArray, List.set_cons_zero, List.set_cons_succ])
    (refine inO_read (v := ?_) rfl rfl (Or.inl ⟨by rfl, ?_⟩) ?_; rotate_left 1; (focus (intro W hSW; clear hSW; go_simp; (try (with_reducible rfl)))); (try simp only [Act.put, List.getElem_toArray, List.getElem_cons_zero, List.getElem_cons_succ, List.setIfInBounds_toArray, List.set_cons_zero, List.set_cons_succ]))
    (refine inO_end ?_)
    clear HC0 HS
    go_wp2
    go_ret
    exact ⟨ks', zs', rfl, HC.out.grown, HQ.out⟩
  by_cases f4 : la.x.fm = 1 ∨ la.x.fm = 4 ∨ la.x.fm = 10 ∨ la.x.fm = 11
  · have hs : szX s la.x = 4 := by unfold szX; rw [if_pos f4]
    rw [hs]
    obtain ⟨⟨fm, md, nm, ln, el, ba, fl, pm, rs, ds⟩, fo, fc, po, pc⟩ := la
    dsimp only at f4
    have HRk := hide H
    have HC := hide (H.cx (fun _ => False))
    unfold laC
    dsimp only
    clear hZ hB H hla hx hk hs f9 f7
    rcases f4 with rfl | rfl | rfl | rfl
    all_goals (go_enter Try.func82, Try.ntmps82)
    all_goals (go_wp2_with (first | (refine at_box 32 rfl ?_; refine wl_box rfl 32 _ rfl _ rfl HC.out ?_; intro bb w' hn hc; (replace HC := hide hc; clear hc)) | (refine at_load 3 rfl ?_; refine wl_load_c rfl 3 _ rfl tcI rfl HC.out (by repeat (first | exact List.Mem.head _ | apply List.Mem.tail)) (by repeat (first | exact GetS.cons _ (GetS.nil _) | apply GetS.skip)) ?_)))
    all_goals go_ret
    all_goals (exact ⟨ks, zs, rfl, HC.out.grown, HRk.out.stay HC.out.grown (HC.out.loc ⟨b, rkC o T.length cp ks zs, 60⟩ (by repeat (first | exact List.Mem.head _ | apply List.Mem.tail)))⟩)
  by_cases f1 : la.x.fm = 2 ∨ la.x.fm = 3
  · have hs : szX s la.x = 1 := by unfold szX; rw [if_neg f4, if_pos f1]
    rw [hs]
    obtain ⟨⟨fm, md, nm, ln, el, ba, fl, pm, rs, ds⟩, fo, fc, po, pc⟩ := la
    dsimp only at f1
    have HRk := hide H
    have HC := hide (H.cx (fun _ => False))
    unfold laC
    dsimp only
    clear hZ hB H hla hx hk hs f9 f7 f4
    rcases f1 with rfl | rfl
    all_goals (go_enter Try.func82, Try.ntmps82)
    all_goals (go_wp2_with (first | (refine at_box 32 rfl ?_; refine wl_box rfl 32 _ rfl _ rfl HC.out ?_; intro bb w' hn hc; (replace HC := hide hc; clear hc)) | (refine at_load 3 rfl ?_; refine wl_load_c rfl 3 _ rfl tcI rfl HC.out (by repeat (first | exact List.Mem.head _ | apply List.Mem.tail)) (by repeat (first | exact GetS.cons _ (GetS.nil _) | apply GetS.skip)) ?_)))
    all_goals go_ret
    all_goals (exact ⟨ks, zs, rfl, HC.out.grown, HRk.out.stay HC.out.grown (HC.out.loc ⟨b, rkC o T.length cp ks zs, 60⟩ (by repeat (first | exact List.Mem.head _ | apply List.Mem.tail)))⟩)
  · have hs : szX s la.x = 0 := by unfold szX; rw [if_neg f4, if_neg f1, if_neg f7, if_neg f9]
    rw [hs]
    obtain ⟨⟨fm, md, nm, ln, el, ba, fl, pm, rs, ds⟩, fo, fc, po, pc⟩ := la
    dsimp only at f9 f7 f4 f1
    have HRk := hide H
    have HC := hide (H.cx (fun _ => False))
    have c1 : (fm == 1) = false := by simp; omega
    have c2 : (fm == 4) = false := by simp; omega
    have c3 : (fm == 10) = false := by simp; omega
    have c4 : (fm == 11) = false := by simp; omega
    have c5 : (fm == 2) = false := by simp; omega
    have c6 : (fm == 3) = false := by simp; omega
    have c7 : (fm == 7) = false := by simp; omega
    have c8 : (fm == 9) = false := by simp; omega
    unfold laC
    dsimp only
    clear hZ hB H hla hx hk hs f9 f7 f4 f1
    go_enter Try.func82, Try.ntmps82
    go_wp2_with (first | (refine at_box 32 rfl ?_; refine wl_box rfl 32 _ rfl _ rfl HC.out ?_; intro bb w' hn hc; (replace HC := hide hc; clear hc)) | (refine at_load 3 rfl ?_; refine wl_load_c rfl 3 _ rfl tcI rfl HC.out (by repeat (first | exact List.Mem.head _ | apply List.Mem.tail)) (by repeat (first | exact GetS.cons _ (GetS.nil _) | apply GetS.skip)) ?_))
    go_ret
    exact ⟨ks, zs, rfl, HC.out.grown, HRk.out.stay HC.out.grown (HC.out.loc ⟨b, rkC o T.length cp ks zs, 60⟩ (by repeat (first | exact List.Mem.head _ | apply List.Mem.tail)))⟩
end
end Go.Proofs.Ytnolelgmcmgohaa.Ty
namespace Go.Proofs.Ytnolelgmcmgohaa.Ty
open Go.RowKit hiding Hid
open Go.Proofs.Ytnolelgmcmgohaa.Tx Go.Proofs.Ytnolelgmcmgohaa.Lx Go.Proofs.Ytnolelgmcmgohaa.Tr
set_option linter.unusedVariables false
set_option linter.unusedSimpArgs false
set_option maxRecDepth 100000

section
variable {w0 : World} {o : Option Addr} {cp : Nat} {T : List Tt} {s : Int → Int} {b : Nat}
theorem set_known {ks : List Bool} {zs : List Int} {a : Nat} {v : Int} (hk : ks.length = 256) (hz : zs.length = 256) (ha : a < 256) (ok : ∀ i : Nat, i < T.length → ks[i]? = some true → zs[i]? = some (s i)) (hv : v = s (a : Int)) : ∀ i : Nat, i < T.length → (ks.set a true)[i]? = some true → (zs.set a v)[i]? = some (s i) := fun i hi h => by
  by_cases e : i = a
  · subst e
    rw [List.getElem?_set_self (by omega), hv]
  · rw [List.getElem?_set_ne (Ne.symm e)] at h ⊢
    exact ok i hi h
def SzS (b : Nat) (v : Value) (w W : World) : Prop := w.grownBy W (some b) ∧ W.cell? ⟨b, 0, none⟩ = some v
def plSize : Pl := .rd 0 (.rd 1 (.rd 2 (.rd 3 (.rd 4 (.rd 5 (.rd 6 (.rd 7 (.rd 8 (.rd 9 (.rd 12 (.rd 13 (.act 10 (.act 11 (.rd 14 (.act 15 .nil)))))))))))))))
set_option maxHeartbeats 8000000 in
theorem size_step {r : Nat → Nat} {k : Nat} (hZ : SzOk w0 o cp T s b r k) (hB : Rb T s r) : SzOk w0 o cp T s b r (k + 1) := by
  intro ks zs w a H ha hr
  have hi := hB.hi
  have k0 : (a : Int) < 256 := by omega
  have k1 : (a : Int) < T.length := by omega
  have ka : a < 256 := by omega
  obtain ⟨kn, hkn⟩ : ∃ x, ks[a]? = some x := ⟨ks[a]'(by rw [H.kl]; omega), List.getElem?_eq_getElem _⟩
  have cK := rk_cellK H hkn
  have HS := hide hB.hs
  cases kn with
  | true =>
    have cZ := rk_cellZ H (H.ok a ha hkn)
    have HRk := hide H
    obtain ⟨V, hV⟩ : ∃ V, s (a : Int) = V := ⟨_, rfl⟩
    rw [hV] at cZ ⊢
    clear hZ hB H hkn hV
    go_enter Try.func49, Try.ntmps49
    go_wp2
    go_ret
    exact ⟨ks, zs, rfl, grown_refl w _, HRk.out⟩
  | false =>
    obtain ⟨x, hx⟩ : ∃ x, T[a]? = some x := ⟨T[a], List.getElem?_eq_getElem ha⟩
    obtain ⟨ad, la, rfl, rfl, hcl, hla⟩ := H.tab.at hx
    have HQ := hide (fun W (ks2 : List Bool) (zs2 : List Int) (hW : Rk w0 (some ad) cp T s b ks2 zs2 W) => reck_at hZ hB hW hla hx (by omega))
    have cH := rk_head H
    have HRk := hide H
    have HC := hide (H.cx (fun _ => False))
    obtain ⟨B, hB2⟩ : ∃ B, ad.add (a * 10) = B := ⟨_, rfl⟩
    rw [hB2] at hcl
    have HEL := hide (fun W (hW : w0.grownBy W none) j u (hu : (laC la)[j]? = some u) => hW.cell (hcl j u hu) (by simp))
    have hsz := hB.hs.eq a _ hx
    obtain ⟨V, hV⟩ : ∃ V, s (a : Int) = V := ⟨_, rfl⟩
    rw [hV] at hsz ⊢
    have HV := hide hV
    have HSz := hide hsz
    have HKa := hide ka
    have HHi := hide hi
    clear hZ hB H hkn hV hsz hcl hla hx hi ka hr ha
    go_enter Try.func49, Try.ntmps49
    go_wp2
    (replace HC := hide (HC.out.g (d1_g _)); have HC0 := HC; refine wp_region_inM (SzS b (.slice (some ad) T.length cp) w.drew) [] plSize (by kernel_rfl) (by kernel_rfl) (by kernel_rfl) (by kernel_rfl) (fun _ _ d _ _ h => by cases d <;> exact h) ?_ ?_)
    · exact ⟨gr_ref _ _, cH⟩
    have HSx := hide (And.intro (gr_of HC.out (some b)) (rk_head (HRk.out.stay HC.out.grown (HC.out.loc ⟨b, rkC (some ad) T.length cp ks zs, 60⟩ (by repeat (first | exact List.Mem.head _ | apply List.Mem.tail))))))
    (refine inM_read (v := ?_) rfl (Or.inl ⟨by rfl, ?_⟩) ?_; rotate_left 1; (focus (intro W hSW; clear hSW; go_simp; (try (with_reducible rfl)))); (try simp only [Act.put, List.getElem_toArray, List.getElem_cons_zero, List.getElem_cons_succ, List.setIfInBounds_toArray, List.set_cons_zero, List.set_cons_succ]))
    (refine inM_read (v := ?_) rfl (Or.inl ⟨by rfl, ?_⟩) ?_; rotate_left 1; (focus (intro W hSW; clear hSW; go_simp; (try (with_reducible rfl)))); (try simp only [Act.put, List.getElem_toArray, List.getElem_cons_zero, List.getElem_cons_succ, List.setIfInBounds_toArray, List.set_cons_zero, List.set_cons_succ]))
    (refine inM_read (v := ?_) rfl (Or.inl ⟨by rfl, ?_⟩) ?_; rotate_left 1; (focus (intro W hSW; clear hSW; go_simp; (try (with_reducible rfl)))); (try simp only [Act.put, List.getElem_toArray, List.getElem_cons_zero, List.getElem_cons_succ, List.setIfInBounds_toArray, List.set_cons_zero, List.set_cons_succ]))
    (refine inM_read (v := ?_) rfl (Or.inl ⟨by rfl, ?_⟩) ?_; rotate_left 1; (focus (intro W hSW; clear hSW; go_simp; (try (with_reducible rfl)))); (try simp only [Act.put, List.getElem_toArray, List.getElem_cons_zero, List.getElem_cons_succ, List.setIfInBounds_toArray, List.set_cons_zero, List.set_cons_succ]))
    (refine inM_read (v := ?_) rfl (Or.inl ⟨by rfl, ?_⟩) ?_; rotate_left 1; (focus (intro W hSW; clear hSW; go_simp; (try (with_reducible rfl)))); (try simp only [Act.put, List.getElem_toArray, List.getElem_cons_zero, List.getElem_cons_succ, List.setIfInBounds_toArray, List.set_cons_zero, List.set_cons_succ]))
    (refine inM_read (v := ?_) rfl (Or.inl ⟨by rfl, ?_⟩) ?_; rotate_left 1; (focus (intro W hSW; clear hSW; go_simp; (try (with_reducible rfl)))); (try simp only [Act.put, List.getElem_toArray, List.getElem_cons_zero, List.getElem_cons_succ, List.setIfInBounds_toArray, List.set_cons_zero, List.set_cons_succ]))
    refine inM_read rfl (yl_load rfl rfl rfl (fun W hW => run_load_c tcLT _ _ hW.2)) ?_
    (try simp only [Act.put, List.getElem_toArray, List.getElem_cons_zero, List.getElem_cons_succ, List.setIfInBounds_toArray, List.set_cons_zero, List.set_cons_succ])
    (refine inM_read (v := ?_) rfl (Or.inl ⟨by rfl, ?_⟩) ?_; rotate_left 1; (focus (intro W hSW; clear hSW; go_simp; (try (with_reducible rfl)))); (try simp only [Act.put, List.getElem_toArray, List.getElem_cons_zero, List.getElem_cons_succ, List.setIfInBounds_toArray, List.set_cons_zero, List.set_cons_succ]))
    (refine inM_read (v := ?_) rfl (Or.inl ⟨by rfl, ?_⟩) ?_; rotate_left 1; (focus (intro W hSW; clear hSW; go_simp; (try (with_reducible rfl)))); (try simp only [Act.put, List.getElem_toArray, List.getElem_cons_zero, List.getElem_cons_succ, List.setIfInBounds_toArray, List.set_cons_zero, List.set_cons_succ]))
    refine inM_read rfl (yl_load rfl rfl rfl (fun W hW => run_load_s tyT B (laC la) rfl (HEL.out W (grown_then (grown_then HRk.out.gr HC0.out.grown (fun y e => by cases e; exact .inr HRk.out.new)) hW.1 (fun y e => by cases e; exact .inr HRk.out.new))))) ?_
    (try simp only [Act.put, List.getElem_toArray, List.getElem_cons_zero, List.getElem_cons_succ, List.setIfInBounds_toArray, List.set_cons_zero, List.set_cons_succ])
    (refine inM_read (v := ?_) rfl (Or.inl ⟨by rfl, ?_⟩) ?_; rotate_left 1; (focus (intro W hSW; clear hSW; go_simp; (try (with_reducible rfl)))); (try simp only [Act.put, List.getElem_toArray, List.getElem_cons_zero, List.getElem_cons_succ, List.setIfInBounds_toArray, List.set_cons_zero, List.set_cons_succ]))
    (refine inM_read (v := ?_) rfl (Or.inl ⟨by rfl, ?_⟩) ?_; rotate_left 1; (focus (intro W hSW; clear hSW; go_simp; (try (with_reducible rfl)))); (try simp only [Act.put, List.getElem_toArray, List.getElem_cons_zero, List.getElem_cons_succ, List.setIfInBounds_toArray, List.set_cons_zero, List.set_cons_succ]))
    (refine inM_act rfl rfl (fun K' hK => ?_))
    go_simp
    refine (HQ.out _ _ _ (HRk.out.stay HC.out.grown (HC.out.loc ⟨b, rkC (some ad) T.length cp ks zs, 60⟩ (by repeat (first | exact List.Mem.head _ | apply List.Mem.tail))))).mono ?_
    rintro e w2 ⟨ks', zs', rfl, hg, hs⟩
    have HS2 := hide hs
    replace HC := hide (HC.out.callX hg (by repeat (first | exact List.Mem.head _ | apply List.Mem.tail)) hs.blk (by repeat (first | exact Upd.here _ _ _ | apply Upd.there)))
    refine hK _ _ (.inr ⟨gr_then HSx.out.1 hg, rk_head hs⟩) ?_
    replace HSx := hide (And.intro (gr_then HSx.out.1 hg) (rk_head hs))
    clear hK K' hg hs
    (try simp only [Act.put, List.getElem_toArray, List.getElem_cons_zero, List.getElem_cons_succ, List.setIfInBounds_toArray, List.set_cons_zero, List.set_cons_succ])
    (refine inM_act rfl rfl (fun K' hK => ?_))
    go_simp
    refine (bounded_at _ _).mono ?_
    rw [← HSz.out]
    rintro e w' ⟨rfl, hw⟩; replace hw := hw.symm; subst hw
    refine hK _ _ (.inr HSx.out) ?_
    clear hK K'
    (try simp only [Act.put, List.getElem_toArray, List.getElem_cons_zero, List.getElem_cons_succ, List.setIfInBounds_toArray, List.set_cons_zero, List.set_cons_succ])
    (refine inM_read (v := ?_) rfl (Or.inl ⟨by rfl, ?_⟩) ?_; rotate_left 1; (focus (intro W hSW; clear hSW; go_simp; (try (with_reducible rfl)))); (try simp only [Act.put, List.getElem_toArray, List.getElem_cons_zero, List.getElem_cons_succ, List.setIfInBounds_toArray, List.set_cons_zero, List.set_cons_succ]))
    (refine inM_act rfl rfl (fun K' hK => ?_))
    refine op_store_g (us := [.int .i64 V]) 3 _ _ rfl rfl rfl tcI.sz rfl HC.out (by repeat (first | exact List.Mem.head _ | apply List.Mem.tail)) (rk_putZ HS2.out.kl (show a < zs'.length by rw [HS2.out.zl]; exact HKa.out) V) (by repeat (first | exact Upd.here _ _ _ | apply Upd.there)) ?_
    intro w' hg hc
    (replace HC := hide hc; clear hc)
    refine hK _ _ (.inr ⟨gr_then HSx.out.1 hg, cf HC.out (by repeat (first | exact List.Mem.head _ | apply List.Mem.tail)) 0 _ rfl⟩) ?_
    clear hK K' hg
    (try simp only [Act.put, List.getElem_toArray, List.getElem_cons_zero, List.getElem_cons_succ, List.setIfInBounds_toArray, List.set_cons_zero, List.set_cons_succ])
    (refine inM_end ?_)
    clear HC0 HSx
    go_wp2_with (refine at_store 4 rfl ?_; refine wl_store (us := [.bool true]) rfl 4 _ _ rfl rfl rfl tcB.sz rfl HC.out (by repeat (first | exact List.Mem.head _ | apply List.Mem.tail)) (rk_putK (show a < ks'.length by rw [HS2.out.kl]; exact HKa.out) true) (by repeat (first | exact Upd.here _ _ _ | apply Upd.there)) ?_; intro w' hc; (replace HC := hide hc; clear hc); have cZ := cf HC.out (.head _) (257 + a) (.int .i64 V) (rk_size (by rw [List.length_set]; exact HS2.out.kl) (List.getElem?_set_self (by rw [HS2.out.zl]; exact HKa.out))))
    go_ret
    exact ⟨ks'.set a true, zs'.set a V, rfl, HC.out.grown, HRk.out.next HC.out.grown (HC.out.loc ⟨b, rkC (some ad) T.length cp (ks'.set a true) (zs'.set a V), 60⟩ (by repeat (first | exact List.Mem.head _ | apply List.Mem.tail))) (by rw [List.length_set]; exact HS2.out.kl) (by rw [List.length_set]; exact HS2.out.zl) (set_known HS2.out.kl HS2.out.zl HKa.out HS2.out.ok HV.out.symm)⟩
theorem size_all {r : Nat → Nat} (hB : Rb T s r) : ∀ k, SzOk w0 o cp T s b r k
  | 0 => fun ks zs w a H ha hr => by omega
  | k + 1 => size_step (size_all hB k) hB
end
/- A reckoning begins. -/
theorem zR : (Try.prog.info? 60).bind (fun i => i.zero.map (·.cells)) = some (rkC none 0 0 (List.replicate 256 false) (List.replicate 256 0)).toArray := by kernel_rfl
theorem tyR : TyS Try.prog 60 513 := tyS_of Try.underlying60 rfl (by kernel_rfl)
theorem build_rk (o : Option Addr) (n cp : Nat) (W : World) : (Instr.build 60 #[(0, .slice o n cp)]).run Try.prog W = .ok (.agg (rkC o n cp (List.replicate 256 false) (List.replicate 256 0)).toArray) W := by kernel_rfl
theorem at_build {ops : Array Oper} {rest : List Oper} {o : Oper} {a : Act} {w : World} {Q : Exit → Act → World → Prop} {P : Program} (T : TypeId) {parts : Array (Nat × Operand)} (_ : o.op = .build T parts) (h : wpList P ops Q (o :: rest) a w) : wpList P ops Q (o :: rest) a w := h
theorem wl_buildR {ops : Array Oper} {rest : List Oper} {o : Oper} {a : Act} {w : World} {Q : Exit → Act → World → Prop} (hgd : o.guard = none) (x : Operand) (ho : o.op = .build 60 #[(0, x)]) {ad : Option Addr} {n cp : Nat} (hx : a.eval x = .slice ad n cp)
    (h : ∀ R, R = (rkC ad n cp (List.replicate 256 false) (List.replicate 256 0)).toArray → wpList Try.prog ops Q rest (a.put o.dst (.agg R)) w) : wpList Try.prog ops Q (o :: rest) a w := by
  refine wl_val (w' := w) hgd ?_ (h _ rfl)
  unfold execOp
  simp only [ho, hx, List.map_toArray, List.map_cons, List.map_nil, build_rk, Sem.run_bind, Sem.run_pure, Result.andThen_ok]
theorem Rk.begin {w0 w : World} {o : Option Addr} {cp : Nat} {T : List Tt} (s : Int → Int) {b : Nat} (H : Tab w0 o T) (hg : w0.grownBy w none) (hb : w0.heap.size ≤ b) (hc : w.heap[b]? = some (.cells (rkC o T.length cp (List.replicate 256 false) (List.replicate 256 0)).toArray 60 (0, 0))) : Rk w0 o cp T s b (List.replicate 256 false) (List.replicate 256 0) w :=
  ⟨H, hg, hb, hc, List.length_replicate, List.length_replicate, fun i _ h => by rw [List.getElem?_replicate] at h; split at h <;> cases h⟩
end Go.Proofs.Ytnolelgmcmgohaa.Ty
