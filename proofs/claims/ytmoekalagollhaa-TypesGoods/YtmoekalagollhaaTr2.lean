/-
  Expressions, types, statements, declarations, modules as trees of their own, and as cells.
-/
import Derived.Test.YtmoekalagollhaaTr1
namespace Go.Proofs.Ytmoekalagollhaa.Tr
open Go.RowKit Go.Proofs.Ytmoekalagollhaa.Tx
set_option linter.unusedVariables false
set_option linter.unusedSimpArgs false

abbrev Txt := List UInt8
inductive Ex where
  | mk (k n : Int) (t o : Txt) (args : List Ex) (a : Int)
mutual
inductive Tx where
  | mk (k : Int) (md nm : Txt) (lens : List Ex) (elem base : List Tx) (fields params : List Fd) (result : List Tx) (a : Int)
inductive Fd where
  | mk (nm : Txt) (b : Bool) (ty : Tx) (a : Int)
end
inductive St where
  | mk (k : Int) (nm : Txt) (exprs : List Ex) (labels : List (List Ex)) (blocks : List (List St)) (a : Int)
structure Cn where
  nm : Txt
  b : Bool
  e : Ex
  a : Int
structure Im where
  al : Txt
  nm : Txt
  a : Int
structure Pr where
  nm : Txt
  b : Bool
  params : List Fd
  result : List Tx
  consts : List Cn
  types : List Fd
  vars : List Fd
  body : List St
  ret : List Ex
  a : Int
structure Md where
  nm : Txt
  imports : List Im
  consts : List Cn
  types : List Fd
  vars : List Fd
  procs : List Pr
  body : List St
  a : Int
namespace Ex
def k : Ex → Int | .mk k _ _ _ _ _ => k
def n : Ex → Int | .mk _ n _ _ _ _ => n
def t : Ex → Txt | .mk _ _ t _ _ _ => t
def o : Ex → Txt | .mk _ _ _ o _ _ => o
def args : Ex → List Ex | .mk _ _ _ _ l _ => l
def a : Ex → Int | .mk _ _ _ _ _ a => a
end Ex
namespace Tx
def k : Tx → Int | .mk k _ _ _ _ _ _ _ _ _ => k
def md : Tx → Txt | .mk _ x _ _ _ _ _ _ _ _ => x
def nm : Tx → Txt | .mk _ _ x _ _ _ _ _ _ _ => x
def lens : Tx → List Ex | .mk _ _ _ x _ _ _ _ _ _ => x
def elem : Tx → List Tx | .mk _ _ _ _ x _ _ _ _ _ => x
def base : Tx → List Tx | .mk _ _ _ _ _ x _ _ _ _ => x
def fields : Tx → List Fd | .mk _ _ _ _ _ _ x _ _ _ => x
def params : Tx → List Fd | .mk _ _ _ _ _ _ _ x _ _ => x
def result : Tx → List Tx | .mk _ _ _ _ _ _ _ _ x _ => x
def a : Tx → Int | .mk _ _ _ _ _ _ _ _ _ x => x
end Tx
namespace Fd
def nm : Fd → Txt | .mk x _ _ _ => x
def b : Fd → Bool | .mk _ x _ _ => x
def ty : Fd → Tx | .mk _ _ x _ => x
def a : Fd → Int | .mk _ _ _ x => x
end Fd
namespace St
def k : St → Int | .mk x _ _ _ _ _ => x
def nm : St → Txt | .mk _ x _ _ _ _ => x
def exprs : St → List Ex | .mk _ _ x _ _ _ => x
def labels : St → List (List Ex) | .mk _ _ _ x _ _ => x
def blocks : St → List (List St) | .mk _ _ _ _ x _ => x
def a : St → Int | .mk _ _ _ _ _ x => x
end St
def ci (n : Int) : Dt := .c (.int .i64 n)
def cb (b : Bool) : Dt := .c (.bool b)
def ct (t : Txt) : Dt := .c (.string (bs t))
mutual
def exD : Ex → List Dt
  | .mk k n t o args a => [ci k, ci n, ct t, ct o, .s args.length (exsD args), ci a]
def exsD : List Ex → List Dt
  | [] => []
  | e :: l => exD e ++ exsD l
end
mutual
def txD : Tx → List Dt
  | .mk k md nm lens elem base fields params result a => [ci k, ct md, ct nm, .s lens.length (exsD lens), .s elem.length (txsD elem), .s base.length (txsD base), .s fields.length (fdsD fields), .s params.length (fdsD params), .s result.length (txsD result), ci a]
def fdD : Fd → List Dt
  | .mk nm b ty a => ct nm :: cb b :: (txD ty ++ [ci a])
def txsD : List Tx → List Dt
  | [] => []
  | e :: l => txD e ++ txsD l
def fdsD : List Fd → List Dt
  | [] => []
  | e :: l => fdD e ++ fdsD l
end
def lbD (l : List Ex) : List Dt := [.s l.length (exsD l)]
mutual
def stD : St → List Dt
  | .mk k nm exprs labels blocks a => [ci k, ct nm, .s exprs.length (exsD exprs), .s labels.length (labels.flatMap lbD), .s blocks.length (bksD blocks), ci a]
def stsD : List St → List Dt
  | [] => []
  | e :: l => stD e ++ stsD l
def bksD : List (List St) → List Dt
  | [] => []
  | b :: l => .s b.length (stsD b) :: bksD l
end
def bkD (l : List St) : List Dt := [.s l.length (stsD l)]
theorem exsD_eq : ∀ (l : List Ex), exsD l = l.flatMap exD
  | [] => rfl
  | e :: l => by rw [exsD, List.flatMap_cons, exsD_eq l]
theorem txsD_eq : ∀ (l : List Tx), txsD l = l.flatMap txD
  | [] => rfl
  | e :: l => by rw [txsD, List.flatMap_cons, txsD_eq l]
theorem fdsD_eq : ∀ (l : List Fd), fdsD l = l.flatMap fdD
  | [] => rfl
  | e :: l => by rw [fdsD, List.flatMap_cons, fdsD_eq l]
theorem stsD_eq : ∀ (l : List St), stsD l = l.flatMap stD
  | [] => rfl
  | e :: l => by rw [stsD, List.flatMap_cons, stsD_eq l]
theorem bksD_eq : ∀ (l : List (List St)), bksD l = l.flatMap bkD
  | [] => rfl
  | e :: l => by rw [bksD, List.flatMap_cons, bksD_eq l]; rfl
theorem exD_len (e : Ex) : (exD e).length = 6 := by cases e; rfl
theorem txD_len (e : Tx) : (txD e).length = 10 := by cases e; rfl
theorem fdD_len (e : Fd) : (fdD e).length = 13 := by cases e; simp [fdD, txD_len]
theorem stD_len (e : St) : (stD e).length = 6 := by cases e; rfl
theorem lbD_len (e : List Ex) : (lbD e).length = 1 := rfl
theorem bkD_len (e : List St) : (bkD e).length = 1 := rfl
def cnD (x : Cn) : List Dt := ct x.nm :: cb x.b :: (exD x.e ++ [ci x.a])
theorem cnD_len (x : Cn) : (cnD x).length = 9 := by simp [cnD, exD_len]
def imD (x : Im) : List Dt := [ct x.al, ct x.nm, ci x.a]
theorem imD_len (x : Im) : (imD x).length = 3 := rfl
def prD (x : Pr) : List Dt := [ct x.nm, cb x.b, .s x.params.length (fdsD x.params), .s x.result.length (txsD x.result), .s x.consts.length (x.consts.flatMap cnD), .s x.types.length (fdsD x.types), .s x.vars.length (fdsD x.vars), .s x.body.length (stsD x.body), .s x.ret.length (exsD x.ret), ci x.a]
theorem prD_len (x : Pr) : (prD x).length = 10 := rfl
def mdD (x : Md) : List Dt := [ct x.nm, .s x.imports.length (x.imports.flatMap imD), .s x.consts.length (x.consts.flatMap cnD), .s x.types.length (fdsD x.types), .s x.vars.length (fdsD x.vars), .s x.procs.length (x.procs.flatMap prD), .s x.body.length (stsD x.body), ci x.a]
theorem mdD_len (x : Md) : (mdD x).length = 8 := rfl

/- Their cells, one by one. -/
section
variable {w : World} {ok : Nat → Prop}
theorem ex_cells {e : Ex} {vs : List Value} (h : isV w ok (exD e) vs) : ∃ sv, vs = [.int .i64 e.k, .int .i64 e.n, .string (bs e.t), .string (bs e.o), sv, .int .i64 e.a] ∧ isC w ok (.s e.args.length (exsD e.args)) sv := by
  obtain ⟨k, n, t, o, args, a⟩ := e
  simp only [exD, isV, ci, ct, isC.eq_1] at h
  obtain ⟨_, _, rfl, rfl, _, _, rfl, rfl, _, _, rfl, rfl, _, _, rfl, rfl, sv, _, rfl, hs, _, _, rfl, rfl, rfl⟩ := h
  exact ⟨sv, rfl, hs⟩
theorem ex_make {k n a : Int} {t o : Txt} {args : List Ex} {sv : Value} (h : isC w ok (.s args.length (exsD args)) sv) : isV w ok (exD (.mk k n t o args a)) [.int .i64 k, .int .i64 n, .string (bs t), .string (bs o), sv, .int .i64 a] := by
  simp only [exD, isV, ci, ct, isC.eq_1]
  exact ⟨_, _, rfl, rfl, _, _, rfl, rfl, _, _, rfl, rfl, _, _, rfl, rfl, sv, _, rfl, h, _, _, rfl, rfl, rfl⟩
theorem tx_cells {e : Tx} {vs : List Value} (h : isV w ok (txD e) vs) : ∃ s1 s2 s3 s4 s5 s6, vs = [.int .i64 e.k, .string (bs e.md), .string (bs e.nm), s1, s2, s3, s4, s5, s6, .int .i64 e.a] ∧ isC w ok (.s e.lens.length (exsD e.lens)) s1 ∧ isC w ok (.s e.elem.length (txsD e.elem)) s2 ∧ isC w ok (.s e.base.length (txsD e.base)) s3 ∧ isC w ok (.s e.fields.length (fdsD e.fields)) s4 ∧ isC w ok (.s e.params.length (fdsD e.params)) s5 ∧ isC w ok (.s e.result.length (txsD e.result)) s6 := by
  obtain ⟨k, md, nm, lens, elem, base, fields, params, result, a⟩ := e
  simp only [txD, isV, ci, ct, isC.eq_1] at h
  obtain ⟨_, _, rfl, rfl, _, _, rfl, rfl, _, _, rfl, rfl, s1, _, rfl, h1, s2, _, rfl, h2, s3, _, rfl, h3, s4, _, rfl, h4, s5, _, rfl, h5, s6, _, rfl, h6, _, _, rfl, rfl, rfl⟩ := h
  exact ⟨s1, s2, s3, s4, s5, s6, rfl, h1, h2, h3, h4, h5, h6⟩
theorem tx_make {k a : Int} {md nm : Txt} {lens : List Ex} {elem base result : List Tx} {fields params : List Fd} {s1 s2 s3 s4 s5 s6 : Value} (h1 : isC w ok (.s lens.length (exsD lens)) s1) (h2 : isC w ok (.s elem.length (txsD elem)) s2) (h3 : isC w ok (.s base.length (txsD base)) s3) (h4 : isC w ok (.s fields.length (fdsD fields)) s4) (h5 : isC w ok (.s params.length (fdsD params)) s5) (h6 : isC w ok (.s result.length (txsD result)) s6) :
    isV w ok (txD (.mk k md nm lens elem base fields params result a)) [.int .i64 k, .string (bs md), .string (bs nm), s1, s2, s3, s4, s5, s6, .int .i64 a] := by
  simp only [txD, isV, ci, ct, isC.eq_1]
  exact ⟨_, _, rfl, rfl, _, _, rfl, rfl, _, _, rfl, rfl, s1, _, rfl, h1, s2, _, rfl, h2, s3, _, rfl, h3, s4, _, rfl, h4, s5, _, rfl, h5, s6, _, rfl, h6, _, _, rfl, rfl, rfl⟩
theorem fd_cells {e : Fd} {vs : List Value} (h : isV w ok (fdD e) vs) : ∃ us, vs = .string (bs e.nm) :: .bool e.b :: (us ++ [.int .i64 e.a]) ∧ isV w ok (txD e.ty) us := by
  obtain ⟨nm, b, ty, a⟩ := e
  simp only [fdD, isV, ct, cb, isC.eq_1] at h
  obtain ⟨_, _, rfl, rfl, _, _, rfl, rfl, h⟩ := h
  obtain ⟨v1, v2, rfl, h1, h2⟩ := (isV_app _ _ _).1 h
  simp only [isV, ci, isC.eq_1] at h2
  obtain ⟨_, _, rfl, rfl, rfl⟩ := h2
  exact ⟨v1, rfl, h1⟩
theorem fd_make {nm : Txt} {b : Bool} {ty : Tx} {a : Int} {us : List Value} (h : isV w ok (txD ty) us) : isV w ok (fdD (.mk nm b ty a)) (.string (bs nm) :: .bool b :: (us ++ [.int .i64 a])) := by
  simp only [fdD, isV, ct, cb, isC.eq_1]
  refine ⟨_, _, rfl, rfl, _, _, rfl, rfl, isV_join h ?_⟩
  simp only [isV, ci, isC.eq_1]
  exact ⟨_, _, rfl, rfl, rfl⟩
theorem st_cells {e : St} {vs : List Value} (h : isV w ok (stD e) vs) : ∃ s1 s2 s3, vs = [.int .i64 e.k, .string (bs e.nm), s1, s2, s3, .int .i64 e.a] ∧ isC w ok (.s e.exprs.length (exsD e.exprs)) s1 ∧ isC w ok (.s e.labels.length (e.labels.flatMap lbD)) s2 ∧ isC w ok (.s e.blocks.length (bksD e.blocks)) s3 := by
  obtain ⟨k, nm, exprs, labels, blocks, a⟩ := e
  simp only [stD, isV, ci, ct, isC.eq_1] at h
  obtain ⟨_, _, rfl, rfl, _, _, rfl, rfl, s1, _, rfl, h1, s2, _, rfl, h2, s3, _, rfl, h3, _, _, rfl, rfl, rfl⟩ := h
  exact ⟨s1, s2, s3, rfl, h1, h2, h3⟩
theorem st_make {k a : Int} {nm : Txt} {exprs : List Ex} {labels : List (List Ex)} {blocks : List (List St)} {s1 s2 s3 : Value} (h1 : isC w ok (.s exprs.length (exsD exprs)) s1) (h2 : isC w ok (.s labels.length (labels.flatMap lbD)) s2) (h3 : isC w ok (.s blocks.length (bksD blocks)) s3) :
    isV w ok (stD (.mk k nm exprs labels blocks a)) [.int .i64 k, .string (bs nm), s1, s2, s3, .int .i64 a] := by
  simp only [stD, isV, ci, ct, isC.eq_1]
  exact ⟨_, _, rfl, rfl, _, _, rfl, rfl, s1, _, rfl, h1, s2, _, rfl, h2, s3, _, rfl, h3, _, _, rfl, rfl, rfl⟩
theorem lb_cells {e : List Ex} {vs : List Value} (h : isV w ok (lbD e) vs) : ∃ sv, vs = [sv] ∧ isC w ok (.s e.length (exsD e)) sv := by
  simp only [lbD, isV] at h
  obtain ⟨sv, _, rfl, hs, rfl⟩ := h
  exact ⟨sv, rfl, hs⟩
theorem lb_make {e : List Ex} {sv : Value} (h : isC w ok (.s e.length (exsD e)) sv) : isV w ok (lbD e) [sv] := by
  simp only [lbD, isV]
  exact ⟨sv, _, rfl, h, rfl⟩
theorem bk_cells {e : List St} {vs : List Value} (h : isV w ok (bkD e) vs) : ∃ sv, vs = [sv] ∧ isC w ok (.s e.length (stsD e)) sv := by
  simp only [bkD, isV] at h
  obtain ⟨sv, _, rfl, hs, rfl⟩ := h
  exact ⟨sv, rfl, hs⟩
theorem bk_make {e : List St} {sv : Value} (h : isC w ok (.s e.length (stsD e)) sv) : isV w ok (bkD e) [sv] := by
  simp only [bkD, isV]
  exact ⟨sv, _, rfl, h, rfl⟩
theorem cn_cells {e : Cn} {vs : List Value} (h : isV w ok (cnD e) vs) : ∃ us, vs = .string (bs e.nm) :: .bool e.b :: (us ++ [.int .i64 e.a]) ∧ isV w ok (exD e.e) us := by
  obtain ⟨nm, b, ty, a⟩ := e
  simp only [cnD, isV, ct, cb, isC.eq_1] at h
  obtain ⟨_, _, rfl, rfl, _, _, rfl, rfl, h⟩ := h
  obtain ⟨v1, v2, rfl, h1, h2⟩ := (isV_app _ _ _).1 h
  simp only [isV, ci, isC.eq_1] at h2
  obtain ⟨_, _, rfl, rfl, rfl⟩ := h2
  exact ⟨v1, rfl, h1⟩
theorem cn_make {nm : Txt} {b : Bool} {ty : Ex} {a : Int} {us : List Value} (h : isV w ok (exD ty) us) : isV w ok (cnD ⟨nm, b, ty, a⟩) (.string (bs nm) :: .bool b :: (us ++ [.int .i64 a])) := by
  simp only [cnD, isV, ct, cb, isC.eq_1]
  refine ⟨_, _, rfl, rfl, _, _, rfl, rfl, isV_join h ?_⟩
  simp only [isV, ci, isC.eq_1]
  exact ⟨_, _, rfl, rfl, rfl⟩
theorem im_cells {e : Im} {vs : List Value} (h : isV w ok (imD e) vs) : vs = [.string (bs e.al), .string (bs e.nm), .int .i64 e.a] := by
  simp only [imD, isV, ci, ct, isC.eq_1] at h
  obtain ⟨_, _, rfl, rfl, _, _, rfl, rfl, _, _, rfl, rfl, rfl⟩ := h
  rfl
theorem im_make {al nm : Txt} {a : Int} : isV w ok (imD ⟨al, nm, a⟩) [.string (bs al), .string (bs nm), .int .i64 a] := by
  simp only [imD, isV, ci, ct, isC.eq_1]
  exact ⟨_, _, rfl, rfl, _, _, rfl, rfl, _, _, rfl, rfl, rfl⟩
theorem pr_cells {e : Pr} {vs : List Value} (h : isV w ok (prD e) vs) : ∃ s1 s2 s3 s4 s5 s6 s7, vs = [.string (bs e.nm), .bool e.b, s1, s2, s3, s4, s5, s6, s7, .int .i64 e.a] ∧ isC w ok (.s e.params.length (fdsD e.params)) s1 ∧ isC w ok (.s e.result.length (txsD e.result)) s2 ∧ isC w ok (.s e.consts.length (e.consts.flatMap cnD)) s3 ∧ isC w ok (.s e.types.length (fdsD e.types)) s4 ∧ isC w ok (.s e.vars.length (fdsD e.vars)) s5 ∧ isC w ok (.s e.body.length (stsD e.body)) s6 ∧ isC w ok (.s e.ret.length (exsD e.ret)) s7 := by
  simp only [prD, isV, ci, ct, cb, isC.eq_1] at h
  obtain ⟨_, _, rfl, rfl, _, _, rfl, rfl, s1, _, rfl, h1, s2, _, rfl, h2, s3, _, rfl, h3, s4, _, rfl, h4, s5, _, rfl, h5, s6, _, rfl, h6, s7, _, rfl, h7, _, _, rfl, rfl, rfl⟩ := h
  exact ⟨s1, s2, s3, s4, s5, s6, s7, rfl, h1, h2, h3, h4, h5, h6, h7⟩
theorem pr_make {e : Pr} {s1 s2 s3 s4 s5 s6 s7 : Value} (h1 : isC w ok (.s e.params.length (fdsD e.params)) s1) (h2 : isC w ok (.s e.result.length (txsD e.result)) s2) (h3 : isC w ok (.s e.consts.length (e.consts.flatMap cnD)) s3) (h4 : isC w ok (.s e.types.length (fdsD e.types)) s4) (h5 : isC w ok (.s e.vars.length (fdsD e.vars)) s5) (h6 : isC w ok (.s e.body.length (stsD e.body)) s6) (h7 : isC w ok (.s e.ret.length (exsD e.ret)) s7) :
    isV w ok (prD e) [.string (bs e.nm), .bool e.b, s1, s2, s3, s4, s5, s6, s7, .int .i64 e.a] := by
  simp only [prD, isV, ci, ct, cb, isC.eq_1]
  exact ⟨_, _, rfl, rfl, _, _, rfl, rfl, s1, _, rfl, h1, s2, _, rfl, h2, s3, _, rfl, h3, s4, _, rfl, h4, s5, _, rfl, h5, s6, _, rfl, h6, s7, _, rfl, h7, _, _, rfl, rfl, rfl⟩
theorem md_cells {e : Md} {vs : List Value} (h : isV w ok (mdD e) vs) : ∃ s1 s2 s3 s4 s5 s6, vs = [.string (bs e.nm), s1, s2, s3, s4, s5, s6, .int .i64 e.a] ∧ isC w ok (.s e.imports.length (e.imports.flatMap imD)) s1 ∧ isC w ok (.s e.consts.length (e.consts.flatMap cnD)) s2 ∧ isC w ok (.s e.types.length (fdsD e.types)) s3 ∧ isC w ok (.s e.vars.length (fdsD e.vars)) s4 ∧ isC w ok (.s e.procs.length (e.procs.flatMap prD)) s5 ∧ isC w ok (.s e.body.length (stsD e.body)) s6 := by
  simp only [mdD, isV, ci, ct, cb, isC.eq_1] at h
  obtain ⟨_, _, rfl, rfl, s1, _, rfl, h1, s2, _, rfl, h2, s3, _, rfl, h3, s4, _, rfl, h4, s5, _, rfl, h5, s6, _, rfl, h6, _, _, rfl, rfl, rfl⟩ := h
  exact ⟨s1, s2, s3, s4, s5, s6, rfl, h1, h2, h3, h4, h5, h6⟩
theorem md_make {e : Md} {s1 s2 s3 s4 s5 s6 : Value} (h1 : isC w ok (.s e.imports.length (e.imports.flatMap imD)) s1) (h2 : isC w ok (.s e.consts.length (e.consts.flatMap cnD)) s2) (h3 : isC w ok (.s e.types.length (fdsD e.types)) s3) (h4 : isC w ok (.s e.vars.length (fdsD e.vars)) s4) (h5 : isC w ok (.s e.procs.length (e.procs.flatMap prD)) s5) (h6 : isC w ok (.s e.body.length (stsD e.body)) s6) :
    isV w ok (mdD e) [.string (bs e.nm), s1, s2, s3, s4, s5, s6, .int .i64 e.a] := by
  simp only [mdD, isV, ci, ct, cb, isC.eq_1]
  exact ⟨_, _, rfl, rfl, s1, _, rfl, h1, s2, _, rfl, h2, s3, _, rfl, h3, s4, _, rfl, h4, s5, _, rfl, h5, s6, _, rfl, h6, _, _, rfl, rfl, rfl⟩
theorem nil_isC : isC w ok (.s 0 []) (.slice none 0 0) := by
  rw [isC.eq_2]
  exact ⟨none, 0, rfl, fun _ => ⟨rfl, rfl⟩, .inl rfl⟩
end
end Go.Proofs.Ytmoekalagollhaa.Tr
