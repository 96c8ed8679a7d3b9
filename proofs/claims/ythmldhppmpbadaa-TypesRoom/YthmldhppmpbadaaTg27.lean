/-
  The document's own tables (package spinetref13): a table in new memory.
-/
import Derived.Test.YthmldhppmpbadaaTg22
import Derived.Test.YthmldhppmpbadaaY1
namespace Go.Proofs.Ythmldhppmpbadaa.Ty
open Go.RowKit hiding Hid
open Go.Maps Go.Proofs.Ythmldhppmpbadaa.Tx Go.Proofs.Ythmldhppmpbadaa.Lx Go.Proofs.Ythmldhppmpbadaa.Tr Go.Proofs.Ythmldhppmpbadaa.Mp
set_option linter.unusedVariables false
set_option linter.unusedSimpArgs false
set_option maxRecDepth 100000

section
variable {P : Program} {o : Oper} {a : Act} {w w0 : World} {A : Nat → Prop} {X : Option Nat} {L : List Lc} {Rs : List Rw} {Ts : List (List Dt × List Value)} {K : Act → World → Prop} {Q : Exit → Act → World → Prop}
theorem run_bs0 {T e : TypeId} {ie : TypeInfo} (hu : P.underlying T = some (.slice e)) (hie : P.info? e = some ie) (w : World) : (Instr.buildSlice T 0 #[]).run P w = .ok (.slice (some ⟨w.heap.size, 0, none⟩) 0 0) (w.alloc (.cells #[] e)) := by
  simp [Instr.buildSlice, run_underlying hu, sizeOf, typeInfo, hie, newRow, Instr.fill, Array.range_zero']
theorem op_b0 (T e : TypeId) (k : Nat) (ho : o.op = .buildSlice T 0 #[]) (hu : P.underlying T = some (.slice e)) (hie : (P.info? e).isSome = true) (H : Cx w0 A X L Rs Ts w)
    (h : ∀ b w', w.heap.size ≤ b → w.grownBy w' none → Cx w0 A X L (⟨.slice (some ⟨b, 0, none⟩) 0 0, e, k, 0, []⟩ :: Rs) Ts w' → K (a.put o.dst (.slice (some ⟨b, 0, none⟩) 0 0)) w') : o.wp P a w K Q := by
  obtain ⟨ie, hie⟩ := Option.isSome_iff_exists.1 hie
  refine op_val (w' := w.alloc (.cells #[] e)) ?_ (h w.heap.size _ (Nat.le_refl _) (World.grownBy_alloc w _ none) (H.row_new e k 0 [] (by simp) (Nat.zero_le _)))
  unfold execOp
  simp [ho, run_bs0 hu hie]
theorem op_apc (s x : Operand) {T : TypeId} (ho : o.op = .call { callee := .builtin .append, args := #[s, x], argTypes := #[T, T] }) {e : TypeId} {k by_ : Nat} (hT : P.underlying T = some (.slice e)) (hi : (P.info? e).map (fun i => (i.zero.map (·.cells.size), i.size, i.bytes)) = some (some k, k, by_)) (hk : 0 < k) (hb : by_ ≤ 100000)
    {v : Value} {n m : Nat} {xs us : List Value} {oo : Option Addr} {c : Nat} (hs : a.eval s = v) (hx : a.eval x = .slice oo m c) (H : Cx w0 A X L (⟨v, e, k, n, xs⟩ :: Rs) Ts w) (hsrc : Cls w oo us) (hlen : us.length = m * k) (hnil : oo = none → m = 0 ∧ c = 0) (h1 : us.all (·.oneCell') = true) (hn : n + m ≤ 900000)
    (h : ∀ d cp w', w.grownBy w' v.ownBlock → Cx w0 A X L (⟨.slice d (n + m) cp, e, k, n + m, xs ++ us⟩ :: Rs) Ts w' → K (a.put o.dst (.slice d (n + m) cp)) w') : o.wp P a w K Q := by
  cases hie : P.info? e with
  | none => simp [hie] at hi
  | some ie =>
    simp [hie] at hi
    obtain ⟨⟨z, hz, hzk⟩, hsz, hby⟩ := hi
    have hr0 := H.row _ (.head _)
    have shape : ∀ {w' : World} {v' : Value} {ys : List Value}, w'.ownsRow w0.heap.size e k v' (n + m) ys → ∃ d cp, v' = .slice d (n + m) cp := fun h2 => by
      rcases h2.2 with ⟨rfl, h0⟩ | ⟨g, cap, cur, rfl, _⟩
      · exact ⟨none, 0, by rw [h0]⟩
      · exact ⟨_, cap, rfl⟩
    cases oo with
    | none =>
      obtain ⟨rfl, rfl⟩ := hnil rfl
      have hus : us = [] := List.eq_nil_of_length_eq_zero (by simpa using hlen)
      subst hus
      have hrun := run_append_owned_none (P := P) (w := w) w0.heap.size T o.type e ie k hT hie v n xs hr0
      obtain ⟨d, cp, rfl⟩ := shape (w' := w) (ys := xs) hr0
      refine op_val (w' := w) ?_ (h d cp w (grown_refl w _) (by rw [List.append_nil]; exact H))
      unfold execOp
      simp only [ho, resolve, invoke, builtin, Sem.run_bind, Sem.run_pure, Result.andThen_ok, List.map_toArray, List.map_cons, List.map_nil, hs, hx, hrun]
    | some ad =>
      obtain ⟨v', w', hr, h2, h3, h4, h5⟩ := run_append_own_at (P := P) w w0.heap.size T o.type e ie z k by_ hT hie hz hsz hby hzk hk v n xs hr0 ad m c us hlen (fun j u hu => by obtain ⟨a2, e2, hc⟩ := hsrc j u hu; cases e2; exact hc) (fun u hu => List.all_eq_true.1 h1 u hu) (by unfold maxLen; omega) (Nat.le_trans (Nat.mul_le_mul (show n + m ≤ 1000000 by omega) hb) (by decide)) H.grown.size
      obtain ⟨d, cp, rfl⟩ := shape h2
      refine op_val (w' := w') ?_ (h d cp w' h3 (H.row_app h2 h3 h5))
      unfold execOp
      simp only [ho, resolve, invoke, builtin, Sem.run_bind, Sem.run_pure, Result.andThen_ok, List.map_toArray, List.map_cons, List.map_nil, hs, hx, hr]
theorem op_same {v : Value} (hr : (execOp a.eval o).run P w = .ok (.value v) w) (h : K (a.put o.dst v) w) : o.wp P a w K Q := op_val hr h
theorem Cx.tr_set {Ts' : List (List Dt × List Value)} (H : Cx w0 A X L Rs Ts w) (h : ∀ p ∈ Ts', isV w (okL w0 A L Rs) p.1 p.2) : Cx w0 A X L Rs Ts' w := ⟨H.grown, H.loc, H.old, H.dis, H.row, H.rl, H.rr, h, H.xx⟩
end
/- A type as a tree. -/
def flD (f : Fl) : List Dt := [.c (.string (bs f.n)), .c (.bool f.x), .c (.int .i64 f.t)]
def pmD (p : Pm) : List Dt := [.c (.bool p.v), .c (.int .i64 p.t)]
def tyD (x : Tt) : List Dt := [.c (.int .i64 x.fm), .c (.string (bs x.md)), .c (.string (bs x.nm)), .c (.int .i64 x.ln), .c (.int .i64 x.el), .c (.int .i64 x.ba), .s x.fl.length (x.fl.flatMap flD), .s x.pm.length (x.pm.flatMap pmD), .c (.int .i64 x.rs), .c (.int .i64 x.ds)]
theorem isV_mk {w : World} {ok : Nat → Prop} {d : Dt} {ds : List Dt} {v : Value} {vs : List Value} (h : isC w ok d v) (h' : isV w ok ds vs) : isV w ok (d :: ds) (v :: vs) := by
  simp only [isV]
  exact ⟨v, vs, rfl, h, h'⟩
theorem isC_c {w : World} {ok : Nat → Prop} (v : Value) : isC w ok (.c v) v := by simp only [isC]
theorem isV_un {w : World} {ok : Nat → Prop} {d : Dt} {ds : List Dt} {vs : List Value} (h : isV w ok (d :: ds) vs) : ∃ v vs', vs = v :: vs' ∧ isC w ok d v ∧ isV w ok ds vs' := by simpa only [isV] using h
theorem fl_isV {w : World} {ok : Nat → Prop} : ∀ (l : List Fl), isV w ok (l.flatMap flD) (l.flatMap flC)
  | [] => isV_none
  | f :: l => by
    rw [List.flatMap_cons, List.flatMap_cons]
    exact isV_mk (isC_c _) (isV_mk (isC_c _) (isV_mk (isC_c _) (fl_isV l)))
theorem pm_isV {w : World} {ok : Nat → Prop} : ∀ (l : List Pm), isV w ok (l.flatMap pmD) (l.flatMap pmC)
  | [] => isV_none
  | f :: l => by
    rw [List.flatMap_cons, List.flatMap_cons]
    exact isV_mk (isC_c _) (isV_mk (isC_c _) (pm_isV l))
theorem c_is {w : World} {ok : Nat → Prop} {u v : Value} (h : isC w ok (.c u) v) : v = u := by simpa only [isC] using h
theorem fl_is {w : World} {ok : Nat → Prop} : ∀ (l : List Fl) (vs : List Value), isV w ok (l.flatMap flD) vs → vs = l.flatMap flC
  | [], vs, h => by simpa only [List.flatMap_nil, isV] using h
  | f :: l, vs, h => by
    rw [List.flatMap_cons] at h
    obtain ⟨v0, vs, rfl, h0, h⟩ := isV_un h
    obtain ⟨v1, vs, rfl, h1, h⟩ := isV_un h
    obtain ⟨v2, vs, rfl, h2, h⟩ := isV_un h
    rw [c_is h0, c_is h1, c_is h2, fl_is l vs h]
    rfl
theorem pm_is {w : World} {ok : Nat → Prop} : ∀ (l : List Pm) (vs : List Value), isV w ok (l.flatMap pmD) vs → vs = l.flatMap pmC
  | [], vs, h => by simpa only [List.flatMap_nil, isV] using h
  | f :: l, vs, h => by
    rw [List.flatMap_cons] at h
    obtain ⟨v0, vs, rfl, h0, h⟩ := isV_un h
    obtain ⟨v1, vs, rfl, h1, h⟩ := isV_un h
    rw [c_is h0, c_is h1, pm_is l vs h]
    rfl
theorem flat_0 {α : Type} {e1 e2 : α → List Dt} {e3 : α → List Value} {l : List α} {k : Nat} (h1 : ∀ x, (e1 x).length = k + 1) (h : l.flatMap e1 = []) : l = [] := by
  cases l with
  | nil => rfl
  | cons x l =>
    rw [List.flatMap_cons] at h
    have := congrArg List.length h
    rw [List.length_append, h1] at this
    simp at this
theorem fls_of {w : World} {ok : Nat → Prop} {l : List Fl} {n : Nat} {v : Value} (h : isC w ok (.s n (l.flatMap flD)) v) : ∃ o c, v = .slice o n c ∧ (o = none → n = 0 ∧ c = 0) ∧ Cls w o (l.flatMap flC) := by
  rw [isC.eq_2] at h
  obtain ⟨o, c, rfl, hn, hl⟩ := h
  refine ⟨o, c, rfl, hn, ?_⟩
  rcases hl with hl | ⟨a, vs, rfl, _, hc, hv⟩
  · have : l = [] := flat_0 (e2 := flD) (e3 := flC) (k := 2) (fun _ => rfl) hl
    subst this
    intro j u hu
    simp at hu
  · rw [fl_is l vs hv] at hc
    exact fun j u hu => ⟨a, rfl, hc j u hu⟩
theorem pms_of {w : World} {ok : Nat → Prop} {l : List Pm} {n : Nat} {v : Value} (h : isC w ok (.s n (l.flatMap pmD)) v) : ∃ o c, v = .slice o n c ∧ (o = none → n = 0 ∧ c = 0) ∧ Cls w o (l.flatMap pmC) := by
  rw [isC.eq_2] at h
  obtain ⟨o, c, rfl, hn, hl⟩ := h
  refine ⟨o, c, rfl, hn, ?_⟩
  rcases hl with hl | ⟨a, vs, rfl, _, hc, hv⟩
  · have : l = [] := flat_0 (e2 := pmD) (e3 := pmC) (k := 1) (fun _ => rfl) hl
    subst this
    intro j u hu
    simp at hu
  · rw [pm_is l vs hv] at hc
    exact fun j u hu => ⟨a, rfl, hc j u hu⟩
/- A table's lists that are none have no room. -/
structure Nl (a : La) : Prop where
  fl : a.fo = none → a.x.fl.length = 0 ∧ a.fc = 0
  pm : a.po = none → a.x.pm.length = 0 ∧ a.pc = 0
theorem tree_tab {w : World} {ok : Nat → Prop} : ∀ (T : List Tt) (xs : List Value), isV w ok (T.flatMap tyD) xs → (∀ x ∈ T, Sm x) → ∃ l : List La, l.map La.x = T ∧ xs = l.flatMap laC ∧ ∀ a ∈ l, Lp w a ∧ Nl a
  | [], xs, h, _ => ⟨[], rfl, by simpa only [List.flatMap_nil, isV] using h, by simp⟩
  | x :: T, xs, h, hs => by
    rw [List.flatMap_cons] at h
    obtain ⟨v0, xs, rfl, h0, h⟩ := isV_un h
    obtain ⟨v1, xs, rfl, h1, h⟩ := isV_un h
    obtain ⟨v2, xs, rfl, h2, h⟩ := isV_un h
    obtain ⟨v3, xs, rfl, h3, h⟩ := isV_un h
    obtain ⟨v4, xs, rfl, h4, h⟩ := isV_un h
    obtain ⟨v5, xs, rfl, h5, h⟩ := isV_un h
    obtain ⟨v6, xs, rfl, h6, h⟩ := isV_un h
    obtain ⟨v7, xs, rfl, h7, h⟩ := isV_un h
    obtain ⟨v8, xs, rfl, h8, h⟩ := isV_un h
    obtain ⟨v9, xs, rfl, h9, h⟩ := isV_un h
    obtain ⟨l, e1, e2, e3⟩ := tree_tab T xs h (fun y hy => hs y (.tail _ hy))
    obtain ⟨fo, fc, rfl, n6, k6⟩ := fls_of h6
    obtain ⟨po, pc, rfl, n7, k7⟩ := pms_of h7
    refine ⟨⟨x, fo, fc, po, pc⟩ :: l, by rw [List.map_cons, e1], ?_, fun a ha => ?_⟩
    · rw [c_is h0, c_is h1, c_is h2, c_is h3, c_is h4, c_is h5, c_is h8, c_is h9, e2]
      rfl
    · rcases List.mem_cons.1 ha with rfl | ha
      · exact ⟨⟨k6, k7, hs x (.head _)⟩, ⟨n6, n7⟩⟩
      · exact e3 a ha
/- What a copy is: a row of one's own, and what its types are made of. -/
def CoO (w : World) (T : List Tt) (e : Ending) (w' : World) : Prop := ∃ o c xs, e = .returned (.slice o T.length c) ∧ w.grownBy w' none ∧ w'.ownsRow w.heap.size 48 10 (.slice o T.length c) T.length xs ∧ isV w' (fun b => w.heap.size ≤ b ∧ (Value.slice o T.length c).ownBlock ≠ some b) (T.flatMap tyD) xs
theorem CoO.tab {w w' : World} {T : List Tt} {o : Option Addr} {c : Nat} {xs : List Value} {ok : Nat → Prop} (hT : T.length ≤ 1000000) (hs : ∀ x ∈ T, Sm x) (h : w'.ownsRow w.heap.size 48 10 (.slice o T.length c) T.length xs) (hv : isV w' ok (T.flatMap tyD) xs) : Tab w' o T ∧ T.length ≤ c := by
  obtain ⟨l, e1, e2, e3⟩ := tree_tab T xs hv hs
  obtain ⟨o9, c9, e9, h9, hc9⟩ := row_clsK h
  cases e9
  exact ⟨⟨hT, l, e1, by rw [← e2]; exact hc9, fun a ha => (e3 a ha).1⟩, h9⟩
theorem infoF : (Try.prog.info? 75).map (fun i => (i.zero.map (·.cells.size), i.size, i.bytes)) = some (some 3, 3, 32) := by kernel_rfl
theorem infoP : (Try.prog.info? 55).map (fun i => (i.zero.map (·.cells.size), i.size, i.bytes)) = some (some 2, 2, 16) := by kernel_rfl
theorem someF : (Try.prog.info? 75).isSome = true := by kernel_rfl
theorem someP : (Try.prog.info? 55).isSome = true := by kernel_rfl
theorem flat_lenV {α : Type} {enc : α → List Value} {k : Nat} (hk : ∀ x, (enc x).length = k) : ∀ l : List α, (l.flatMap enc).length = l.length * k
  | [] => by simp
  | x :: l => by rw [List.flatMap_cons, List.length_append, hk, flat_lenV hk l, List.length_cons, Nat.succ_mul]; omega
theorem fl_one (l : List Fl) : (l.flatMap flC).all (·.oneCell') = true := by
  rw [List.all_eq_true]
  intro u hu
  obtain ⟨f, _, hf⟩ := List.mem_flatMap.1 hu
  simp only [flC, List.mem_cons, List.not_mem_nil, or_false] at hf
  rcases hf with rfl | rfl | rfl <;> rfl
theorem pm_one (l : List Pm) : (l.flatMap pmC).all (·.oneCell') = true := by
  rw [List.all_eq_true]
  intro u hu
  obtain ⟨f, _, hf⟩ := List.mem_flatMap.1 hu
  simp only [pmC, List.mem_cons, List.not_mem_nil, or_false] at hf
  rcases hf with rfl | rfl <;> rfl
end Go.Proofs.Ythmldhppmpbadaa.Ty
