import PyProof.Rows.All
import Wide.All
import OpenK.AllK
import Wide.FinOn
import PySem.Challenge.RW_pointorstrip_k01_regions
import HandS.ForMost
import HandS.ForExc
import HandS.Wide
import HandS.IsInst
import HandS.Style
import HandS.ExcField
import HandS.ExcIs
import HandS.OwnEq
import KE.KExcSuper
import KE.GoesMore
import KE.KExcIs
import HandS.ListEq
import HandS.DeepEq
import HandS.TupAny
import HandS.AnyAll
import HandS.Walk
set_option Elab.async false
set_option linter.all false
set_option maxRecDepth 100000
set_option maxHeartbeats 0
/-! ### rules and heaps of our own -/
namespace My
open PySem PySem.Spec PyProof.Rows L2
theorem asm {p : Prop} (h : p) : p := h
/-- what the operators ask, closed up so that nothing unfolds it -/
structure OkMul (i j : Int) : Prop where
  ok : IntMulOk i j
structure OkDiv (i j : Int) : Prop where
  ok : CDivW i j
structure OkMod (i j : Int) : Prop where
  ok : 0 < j
theorem op_mulA {X : Cx} : OpR X (binaryOp .Mult) (rI OkMul fun i j => .int (i * j)) := opI fun _ _ _ _ _ _ _ hc q => mul_int q hc.ok
theorem op_fdivA {X : Cx} : OpR X (binaryOp .FloorDiv) (rI OkDiv fun i j => .int (i / j)) := opI fun i j _ _ _ _ _ hc q => by
  have h1 : (0 : Int) < j := hc.ok.1
  exact floordiv_int (by omega) (by rw [Int.fdiv_eq_ediv_of_nonneg i (by omega)]; exact q) (.inl (PyProof.noPylong_of_log2 hc.ok.2))
theorem op_modA {X : Cx} : OpR X (binaryOp .Mod) (rI OkMod fun i j => .int (i % j)) := opI fun i j _ _ _ _ _ hc q => by
  have h1 : (0 : Int) < j := hc.ok
  exact mod_int' (by omega) (by rw [Int.fmod_eq_emod_of_nonneg i (by omega)]; exact q)
theorem pget_list {X : Cx} : PGet X (rIxL X.K) := by
  intro pins s σ H x y v u Q I rx ry h
  obtain ⟨p, xs, i, z, rfl, rfl, hq, he, q⟩ := h
  cases rx
  obtain ⟨t, rfl⟩ := ry
  obtain ⟨its, r, pl, hz⟩ := I.list hq
  obtain ⟨j, h1, h2, h3, h4, h5⟩ := atI_get he
  obtain ⟨w, ew, rw'⟩ := r.get h2
  have hl := r.length
  have hn := line63
  have fin : EP X pins σ Q w s := ⟨z, H, I, rw', q⟩
  by_cases h0 : 0 ≤ i
  · have hj : i.toNat = j := by
      rw [seqIndex_of h0 h5] at h1
      exact Option.some.inj h1
    exact wpAny_getItem_list pl.isList h0 (by omega) (by rw [hj]; simpa using ew) fin
  · have hj : (i + (its.toArray.size : Int)).toNat = j := by
      rw [seqIndex_neg (by omega) h4] at h1
      rw [List.size_toArray, ← hl]
      exact Option.some.inj h1
    exact wpAny_getItem_list_neg pl.isList (by omega) (by rw [List.size_toArray] <;> omega) (by omega) (by rw [hj]; simpa using ew) fin
theorem same_upd {H : Hp} {p : Addr} {o : HO} (h : H p = none) : Same H (upd H p o) := fun b x e => by
  rw [upd_ne (ne_of_none e h)]
  exact e
/-- all but one object as it was -/
def Keep (d : Addr) (H H' : Hp) : Prop := ∀ b o, b ≠ d → H b = some o → H' b = some o
theorem Keep.refl (d : Addr) (H : Hp) : Keep d H H := fun _ _ _ h => h
theorem Keep.trans {d : Addr} {H H1 H2 : Hp} (a : Keep d H H1) (b : Keep d H1 H2) : Keep d H H2 := fun c o n h => b c o n (a c o n h)
theorem Keep.of {d : Addr} {H H1 : Hp} (a : Same H H1) : Keep d H H1 := fun c o _ h => a c o h
theorem Keep.upd (d : Addr) (H : Hp) (o : HO) : Keep d H (upd H d o) := fun b x n e => by
  rw [upd_ne n]
  exact e
theorem Keep.seq {K : PySem.W.Frag} {d : Addr} {H H' : Hp} {a : Addr} {xs : List V} (e : Keep d H H') (n : a ≠ d) (h : SqL K H a xs) : SqL K H' a xs := by
  rcases h with (h | ⟨o, h⟩) | h
  · exact .inl (.inl (e _ _ n h))
  · exact .inl (.inr ⟨o, e _ _ n h⟩)
  · exact .inr h
theorem Keep.tup {K : PySem.W.Frag} {d : Addr} {H H' : Hp} {a : Addr} {xs : List V} (e : Keep d H H') (n : a ≠ d) (h : SqT K H a xs) : SqT K H' a xs := by
  rcases h with (h | ⟨o, h⟩) | h
  · exact .inl (.inl (e _ _ n h))
  · exact .inl (.inr ⟨o, e _ _ n h⟩)
  · exact .inr h
theorem Same.tup {K : PySem.W.Frag} {H H' : Hp} {a : Addr} {xs : List V} (e : Same H H') (h : SqT K H a xs) : SqT K H' a xs := by
  rcases h with (h | ⟨o, h⟩) | h
  · exact .inl (.inl (e _ _ h))
  · exact .inl (.inr ⟨o, e _ _ h⟩)
  · exact .inr h
theorem Keep.seqS {K : PySem.W.Frag} {d s : Addr} {H H' : Hp} {r : List V} {ns : List Int} (e : Keep d H H') (hd : H d = some (.lst (.ref s :: r))) (h : SqL K H s (ns.map V.int)) : SqL K H' s (ns.map V.int) := by
  rcases h with (h | ⟨o, h⟩) | h
  · refine .inl (.inl (e _ _ ?_ h))
    rintro rfl
    rw [hd] at h
    cases ns with
    | nil => cases h
    | cons n ns => cases h
  · refine .inl (.inr ⟨o, e _ _ ?_ h⟩)
    rintro rfl
    rw [hd] at h
    cases h
  · exact .inr h
/-- the list that draws: the script, how many were drawn -/
def DrawAt (K : PySem.W.Frag) (H : Hp) (d s : Addr) (ns : List Int) : Prop := ∃ k : Int, H d = some (.lst [.ref s, .int k]) ∧ SqL K H s (ns.map V.int) ∧ ns.length ≤ 63
theorem DrawAt.same {K : PySem.W.Frag} {H H' : Hp} {d s : Addr} {ns : List Int} (e : Same H H') (h : DrawAt K H d s ns) : DrawAt K H' d s ns := by
  obtain ⟨k, h1, h3, h4⟩ := h
  exact ⟨k, e _ _ h1, e.seq h3, h4⟩
theorem DrawAt.set {K : PySem.W.Frag} {H : Hp} {d s : Addr} {ns : List Int} {k : Int} (h : DrawAt K H d s ns) : DrawAt K (upd H d (.lst [.ref s, .int k])) d s ns := by
  obtain ⟨k0, h1, h3, h4⟩ := h
  exact ⟨k, upd_same, (Keep.upd d H _).seqS h1 h3, h4⟩
theorem mulOk {i j : Int} {a b : Nat} (ha : i.natAbs < 2 ^ a) (hb : j.natAbs < 2 ^ b) (h0 : 0 < a) (h1 : 0 < b) (h : a + b ≤ 1000000) : OkMul i j := ⟨(wide_mul ha hb h0 h1 h).ok⟩
theorem mulOkL {i j : Int} (h1 : -(2 ^ 64) < i) (h2 : i < 2 ^ 64) : OkMul i j := ⟨CMul.ok (.inl ⟨h1, h2⟩)⟩
theorem mulOkR {i j : Int} (h1 : -(2 ^ 64) < j) (h2 : j < 2 ^ 64) : OkMul i j := ⟨CMul.ok (.inr ⟨h1, h2⟩)⟩
theorem divOk {i j : Int} (h : 0 < j) (hb : j < 2 ^ 64) : OkDiv i j := ⟨wide_div (b := 64) h (by omega) (by decide) (by decide)⟩
theorem call_absN {X : Cx} : CallR X (.builtin "abs") (fun xs H Q => ∃ i : Int, xs = [.int i] ∧ Q (.int (i.natAbs : Int)) H) := fun pins s σ H xs us Q I r ⟨i, e, q⟩ => call_abs pins s σ H xs us Q I r ⟨i, e, by
  have h : (if i < 0 then -i else i) = (i.natAbs : Int) := by split <;> omega
  rw [h]
  exact q⟩
theorem call_minN {X : Cx} (hc : X.calm = true) : CallR X (.builtin "min") (fun xs H Q => ∃ i j : Int, xs = [.int i, .int j] ∧ Q (.int (min i j)) H) := fun pins s σ H xs us Q I r ⟨i, j, e, q⟩ => call_min2 hc pins s σ H xs us Q I r ⟨i, j, e, by
  have h : (if j < i then j else i) = min i j := by split <;> omega
  rw [h]
  exact q⟩
/-- the ways of a conditional expression joined -/
theorem tIf_via {t : TT} {ta tb : TE} {σ : L2.St} {H : Hp} {Q : VK} (R : V → Hp → Prop) (h : ∀ Q' : VK, (∀ v H', R v H' → Q' v H') → tIf t ta tb σ H Q') (k : ∀ v H', R v H' → Q v H') : tIf t ta tb σ H Q := h Q k
/-- name = a if t else b, more -/
theorem sIf_via {t : TT} {ta tb : TE} {g : TG} {u : TS} {D : Ends} {σ : L2.St} {H : Hp} (R : V → Hp → Prop) (h : ∀ Q' : VK, (∀ v H', R v H' → Q' v H') → tIf t ta tb σ H Q') (k : ∀ v H', R v H' → g v σ H' fun σ' H'' => u D σ' H'') : tSeq (tAsg (tIf t ta tb) g) u D σ H := h _ k
theorem call_intI {X : Cx} : CallR X (.type "int") (fun xs H Q => ∃ i, xs = [.int i] ∧ Q (.int i) H) := fun pins s σ H xs us Q I r h => call_int1 pins s σ H xs us Q I r (.inl h)
theorem call_lenL {X : Cx} : CallR X (.builtin "len") (fun xs H Q => ∃ p ys, xs = [.ref p] ∧ SqL X.K H p ys ∧ Q (.int ys.length) H) := fun pins s σ H xs us Q I r ⟨p, ys, e, h, q⟩ => call_len_seq pins s σ H xs us Q I r ⟨p, ys, e, .inl h, q⟩
theorem pe_ty {X : Cx} {x : Str} {n : String} {pos : Pos} (hg : Gl X x) (hm : X.mg x = none) (hv : bootBuiltins x = some (.type n)) (hn : x ≠ Str.ofString "__name__" := by decide) (hd : (x == Str.ofString "__debug__") = false := by decide) : PE X (.Name x pos) (tC (.ty n)) := pe_bltn hg hm hv rfl (hn := hn) (hd := hd)
section
variable {P : Program} {w : World} {K : PySem.W.Frag} {mg : Str → Option Value} {base : Heap}
/-- a def that stands at its name and keeps its promise -/
structure Has (P : Program) (w : World) (K : PySem.W.Frag) (mg : Str → Option Value) (base : Heap) (x : Str) (k : Nat) (ps : List Str) (sp : Sp) (f : Addr) (fd : FuncData) : Prop where
  G : FnOk P w K mg base CX0 k f fd ps sp
  g : mg x = some (.ref f)
  k : PySem.W.keepIn K (.ref f) = true
  b : Binds K fd ps []
/-- the def as the top left it -/
structure Def (K : PySem.W.Frag) (mg : Str → Option Value) (x : Str) (st : Stmt) (ps : List Str) (f : Addr) (fd : FuncData) : Prop where
  F : Fun K x x st f fd
  g : mg x = some (.ref f)
  b : Binds K fd ps []
theorem Def.has {x : Str} {st : Stmt} {ps : List Str} {k : Nat} {sp : Sp} {f : Addr} {fd : FuncData} (D : Def K mg x st ps f fd) (G : FnOk P w K mg base CX0 k f fd ps sp) : Has P w K mg base x k ps sp f fd := ⟨G, D.g, D.F.kp, D.b⟩
end
end My
/-! ### an own error: class X(Base) over ValueError, def __init__(self, f): super().__init__("..") and self.f = f -/
namespace Xc
open PySem PySem.W PySem.Calls PyProof.Rows PySem.HandSPX
abbrev veT : List Value := [.type "ValueError", .type "Exception", .type "BaseException", .type "object"]
/-- the two parameters -/
def prm (f : Str) (p1 p2 : Pos) : Arguments := { posonlyargs := [], args := [{ arg := "self", annotation := none, pos := p1 }, { arg := f, annotation := none, pos := p2 }], vararg := none, kwonlyargs := [], kw_defaults := [], kwarg := none, defaults := [] }
/-- the two statements -/
def bdy (f txt : Str) (k : Nat) (p0 p1 p2 p3 p4 p5 q1 q2 q3 q4 : Pos) : List Stmt :=
  [.Expr (.Call (.Attribute (.Call (.Name "super" p0) [] [] p1) "__init__" p2) [.Constant (.str txt) k p3] [] p4) p5, .Assign [.Attribute (.Name "self" q1) f q2] (.Name f q3) q4]
def scp (f : Str) : Scope := { kind := .function, names := [(PySem.Str.ofString "self", .local), (f, .local), (PySem.Str.ofString "__class__", .free), (PySem.Str.ofString "super", .globalImplicit)], isGenerator := false, isCoroutine := false, more := [] }
/-- what the written part says of the class at C, its __init__ at fI, the code's record at cda, the cell of the class at cc -/
structure Own (P : Program) (K : Frag) (mg : Str → Option Value) (n f : Str) (C fI cda cc : Addr) : Prop where
  gC : mg n = some (.ref C)
  cls : ∃ nm q N bs bm sn sub ab col dd k0 k1 k2 k3 k5, K.lookup C = some (excClassObj nm q C N bs bm true sn sub ab col dd k0 k1 k2 k3 k5 "ValueError.__new__") ∧ refsVE bm = true
  sa : findIn K (.ref C) "__setattr__" = some (some (.builtin "object.__setattr__"))
  ga : findIn K (.ref C) "__getattribute__" = some (some (.builtin "BaseException.__getattribute__"))
  gg : findIn K (.ref C) "__getattr__" = some none
  noN : findIn K (.ref C) f = some none
  iC : findIn K (.ref C) "__init__" = some (some (.ref fI))
  tC : typeIn K (.ref fI) = some (.type "function")
  kC : keepIn K (.ref C) = true
  exC : subIn K (.ref C) (.type "BaseException") = some true
  veC : subIn K (.ref C) (.type "ValueError") = some true
  tyC : typeIn K (.ref C) = some (.type "type")
  hdC : hasDictIn K C = true
  te : exmOne K (.ref C) (.ref C) = some true
  mro : mroIn K C (.ref C) = some true
  sup : ks_superIn K C C "__init__" = some (some (.builtin "ValueError.__init__"))
  xin : excInitIn K C veT "ValueError.__new__" = true
  opq : nsIn K cStatics "thirdparty.any" = some none
  nos : nsIn K mainGlobals "super" = some none
  cell : ∃ cl cld csl, K.lookup cc = some ⟨cl, cld, .cell (some (.ref C)), csl⟩
  code : ∃ ccl cdd vs ccs file tf, K.lookup cda = some ⟨ccl, cdd, .fields vs, ccs⟩ ∧ vs[2]? = some (.str file tf) ∧ ((P.main.file : Str) == file) = true
  fn : ∃ (qual txt : Str) (k : Nat) (oc : Value) (od : Option Addr) (doc pm : Value) (an : Option Addr) (ct : Value) (osl : Array (Option Value)) (a1 a2 p0 p1 p2 p3 p4 p5 q1 q2 q3 q4 : Pos),
    K.lookup fI = some ⟨oc, od, .func (ksFn "__init__" qual (prm f a1 a2) (bdy f txt k p0 p1 p2 p3 p4 p5 q1 q2 q3 q4) (scp f) .none .none doc pm an (.ref cda) ct cc), osl⟩ ∧ codeIn K (.ref cda) qual = true ∧ (p2.endLine == p4.line) = true
  top : (P.main.scope.names.lookup ("super" : Str)).isSome = false
/-- how the arguments bind, for a written name -/
def Bnd (f : Str) : Prop := ∀ (qual : Str) (a1 a2 : Pos) (body : List Stmt) (doc pm : Value) (an : Option Addr) (cdv ct : Value) (cc : Addr) (x v : Value),
  bindArgs (ksFn "__init__" qual (prm f a1 a2) body (scp f) .none .none doc pm an cdv ct cc) ⟨[x, v], []⟩ = pure ([("self", x), (f, v)] : List (Str × Value))
/-- a written name of a field -/
structure Fld (f : Str) : Prop where
  ne : (f == ("self" : Str)) = false
  bd : Bnd f
  c : (scp f).names.lookup ("__class__" : Str) = some .free
  s : (scp f).names.lookup ("super" : Str) = some .globalImplicit
  l : (scp f).names.lookup f = some .local
  db : (f == ("__debug__" : Str)) = false
theorem fld_number : Fld "number" := ⟨by decide, fun _ _ _ _ _ _ _ _ _ _ _ _ => rfl, rfl, rfl, rfl, by decide⟩
theorem fld_value : Fld "value" := ⟨by decide, fun _ _ _ _ _ _ _ _ _ _ _ _ => rfl, rfl, rfl, rfl, by decide⟩
/-- a call of a method, name and parenthesis in one row -/
theorem one_row {o : Expr} {name : Str} {apos pos : Pos} {e : Expr} {env : Env} (h : (apos.endLine == pos.line) = true) (hs : starEach [e] env = [(false, eval e env)]) :
    eval (.Call (.Attribute o name apos) [e] [] pos) env = (do
      let ov ← attributeBase o name env (eval o env)
      standAt apos.atName
      let (fn, first) ← holding [ov] (getMethod ov name (do return (← importBound o env).getD true))
      callWith pos fn first (backTo pos (starEach [e] env)) []) := by
  have hf : methodCallForm ([e].length + ([] : List Keyword).length) (backTo pos (starEach [e] env)) (backToKw pos (keywordEach [] env)) = true := by
    rw [hs]
    rfl
  have hp : ∀ few, methodCallPos few o env apos pos = pure pos := fun few => by
    unfold methodCallPos
    rw [h, Bool.or_true]
    rfl
  show (do
    let ov ← attributeBase o name env (eval o env)
    standAt apos.atName
    methodCall o name apos pos env ov ([e].length + ([] : List Keyword).length) (backTo pos (starEach [e] env)) (backToKw pos (keywordEach [] env))) = _
  unfold methodCall
  rw [hf]
  simp only [hp, pure_bind]
  rfl
/-- what __init__ leaves, against the heap ahead of the object -/
structure Left (h h' : Heap) (x C dx t1 : Addr) (f : Str) (v : Value) : Prop where
  keep : ∀ b o, h.get? b = some o → h'.get? b = some o
  obj : h'.get? x = some { cls := .ref C, dict := some dx, data := .fields #[.ref t1, .none, .none, .none, .bool false, .none] }
  dbig : h.objs.size ≤ dx
  dne : dx ≠ x
  ns : h'.Ns1 dx (fun y => if y = f then some v else none)
section
variable {prog : Program} {w : World} {A : Around} {R : Result → Shared → Prop} {K : Frag} {mg : Str → Option Value} {n f : Str} {C fI cda cc : Addr} {hp : Heap} {g : Array GenState} {dr : Drawn} {tk : Nat} {os : OsState}
theorem xc_init (T : Own prog K mg n f C fI cda cc) {v : Value} (X : K.In hp) (hlim : hp.NoLimit) (Gm : hp.Ns mainGlobals mg) (Gb : ∃ mb, hp.Ns builtinsNs mb ∧ ∀ x : Str, x ≠ "__name__" → mb x = bootBuiltins x)
    (W : Fld f) (hroom : A.depth < recursionLimit)
    (hq : ∀ h' tk' dx t1, Left hp h' (hp.objs.size + 1) C dx t1 f v → R (.ok (.ret .none)) ⟨h', g, dr, tk', os⟩) :
    codeAny (model prog w) A (.call (.ref fI) ⟨[.ref (hp.objs.size + 1), v], []⟩) R ⟨(hp.push (kdv_tup [v])).push (HandSPX.excO C hp.objs.size), g, dr, tk, os⟩ := by
  obtain ⟨qual, txt, k, oc, od, doc, pm, an, ct, osl, a1, a2, p0, p1, p2, p3, p4, p5, q1, q2, q3, q4, ho, hcd, hrow⟩ := T.fn
  obtain ⟨nm, q, N, bs, bm, sn, sub, ab, col, dd, k0, k1, k2, k3, k5, hC, hbm⟩ := T.cls
  have hcl : clsIn K C = some { name := nm, bases := bs, mro := .ref C :: bm, ns := N, qualname := q, hasDict := true, slotNames := sn, subclasses := sub, abstract := ab, collection := col, hasDel := false } := by unfold clsIn; rw [hC] <;> rfl
  have kk : ∀ b o, hp.get? b = some o → ((hp.push (kdv_tup [v])).push (HandSPX.excO C hp.objs.size)).get? b = some o := fun b o e => Heap.get?_push_of_some _ (Heap.get?_push_of_some _ e)
  have hx : ((hp.push (kdv_tup [v])).push (HandSPX.excO C hp.objs.size)).get? (hp.objs.size + 1) = some (HandSPX.excO C hp.objs.size) := by heap_get
  have ht : ((hp.push (kdv_tup [v])).push (HandSPX.excO C hp.objs.size)).get? hp.objs.size = some (kdv_tup [v]) := by heap_get
  refine ks_codeAny_call_defAt (fd := ksFn "__init__" qual (prm f a1 a2) (bdy f txt k p0 p1 p2 p3 p4 p5 q1 q2 q3 q4) (scp f) .none .none doc pm an (.ref cda) ct cc) (body := bdy f txt k p0 p1 p2 p3 p4 p5 q1 q2 q3 q4) (binds := [("self", .ref (hp.objs.size + 1)), (f, v)])
    hroom ((X.keeps kk) _ _ ho) rfl (hlim.keeps kk) (codeRec_of (X.keeps kk) hcd) rfl (BindsTo.of_eq ?bind) ?cells ?locs (fun h₁ hns hk => ?_)
  case bind => exact W.bd _ _ _ _ _ _ _ _ _ _ _ _
  case cells =>
    intro y hy
    have hy : y ∈ (scp f).names := hy
    simp only [scp, List.mem_cons, List.not_mem_nil, or_false] at hy
    rcases hy with rfl | rfl | rfl | rfl <;> (intro z; cases z)
  case locs =>
    intro y hy
    show (scp f).names.lookup y.1 = some .local
    simp only [List.mem_cons, List.not_mem_nil, or_false] at hy
    rcases hy with rfl | rfl
    · rfl
    · show List.lookup f ((PySem.Str.ofString "self", NameKind.local) :: (f, NameKind.local) :: _) = _
      rw [List.lookup_cons, W.ne, List.lookup_cons, beq_self_eq_true]
  -- the frame at L, the object and its args as what is new
  have hL : ((hp.push (kdv_tup [v])).push (HandSPX.excO C hp.objs.size)).objs.size = hp.objs.size + 1 + 1 := by rw [Heap.size_push, Heap.size_push]
  dsimp only at hns ⊢
  generalize ((hp.push (kdv_tup [v])).push (HandSPX.excO C hp.objs.size)).objs.size = L at hns hL ⊢
  have F : Fr hp L h₁ (fun y => [(("self" : Str), Value.ref (hp.objs.size + 1)), (f, v)].reverse.lookup y) := ⟨hns, fun b o e => hk b o (kk b o e), by omega⟩
  have N : News hp L h₁ [(hp.objs.size + 1, excObj C hp.objs.size none .none), (hp.objs.size, excTup [v])] := by
    intro p hp'
    rcases List.mem_cons.mp hp' with rfl | hp'
    · exact ⟨hk _ _ hx, by show hp.objs.size + 1 ≠ _; omega, Heap.get?_none_of_le (by show hp.objs.size ≤ hp.objs.size + 1; omega)⟩
    rcases List.mem_cons.mp hp' with rfl | hp'
    · exact ⟨hk _ _ ht, by show hp.objs.size ≠ _; omega, Heap.get?_none_of_le (Nat.le_refl _)⟩
    · cases hp'
  have X₁ : K.In h₁ := X.keeps F.keep
  have I : InstAt h₁ (hp.objs.size + 1) (excObj C hp.objs.size none .none) C none := ⟨(N _ List.mem_cons_self).1, rfl, rfl, trivial⟩
  have keepQ : ∀ (h' : Heap) (tk' : Nat), True := fun _ _ => trivial
  -- super()
  show PySem.wpAt (model prog w) (A.deeper (ksEnv qual (scp f) L fI (.ref cda) cc)) (.func (bdy f txt k p0 p1 p2 p3 p4 p5 q1 q2 q3 q4) (ksEnv qual (scp f) L fI (.ref cda) cc))
    (execs [.Expr (.Call (.Attribute (.Call (.Name "super" p0) [] [] p1) "__init__" p2) [.Constant (.str txt) k p3] [] p4) p5, .Assign [.Attribute (.Name "self" q1) f q2] (.Name f q3) q4] (ksEnv qual (scp f) L fI (.ref cda) cc)) _ _ _
  refine ks_wpAt_execs_cons (ks_wpAt_Expr_any (ks_wpAt_MethodCall ?_ (one_row hrow rfl)))
  obtain ⟨cl, cld, csl, hcell⟩ := T.cell
  obtain ⟨ccl, cdd, vs, ccs, file, tf, hcode, hvs, hfile⟩ := T.code
  obtain ⟨mb, hmb, hbb⟩ := Gb
  refine ks_wpAt_super_base (hks := W.s) (hkc := W.c) (hat := by decide) (hfu := rfl) (hf := X₁ _ _ ho) (hfd := rfl) (hp := rfl) (hco := rfl) (hcc := X₁ _ _ hcode) (hoc := rfl) (hvs := hvs) (hfile := hfile) (htop := T.top) ?_
  refine ks_loadName_global rfl W.s (loadGlobal_builtin (mg := mg) (mb := mb) (Gm.keepsP F.keep) (mg_none_of X Gm T.nos) (hmb.keepsP F.keep) ((hbb _ (by decide +kernel)).trans (by decide +kernel : bootBuiltins "super" = some (.type "super"))) ⟨rfl, ?_⟩)
  refine wpAny_loadName_free rfl W.c rfl (v := .ref C) ⟨_, X₁ _ _ hcell, rfl⟩ ?_
  refine wpAny_loadName_local rfl rfl F.ns (v := .ref (hp.objs.size + 1)) ?_ ?_
  · show List.lookup ("self" : Str) [(f, v), (("self" : Str), Value.ref (hp.objs.size + 1))] = _
    have e : (("self" : Str) == f) = false := by
      have := W.ne
      rw [beq_eq_false_iff_ne] at this ⊢
      exact fun z => this z.symm
    rw [List.lookup_cons, e, List.lookup_cons, beq_self_eq_true]
  refine ks_wpAny_isType_cls (X₁ _ _ hC) rfl ⟨rfl, ?_⟩
  refine ks_wpAny_call_super (X₁ _ _ hC) rfl I.at_ I.cls (fun c e => by cases e) (looks_mroIn X₁ T.mro) (fun h₂ e₂ k₂ => ?_)
  obtain ⟨F₂, N₂, l₂⟩ := ks_newsPush (s := ⟨h₁, g, dr, tk + 2, os⟩) F N rfl e₂ k₂
  -- .__init__
  have I₂ : InstAt h₂ (hp.objs.size + 1) (excObj C hp.objs.size none .none) C none := ⟨k₂ _ _ I.at_, rfl, rfl, trivial⟩
  refine kxs_method kxs_ValueError F₂ X N₂ List.mem_cons_self I₂ T.opq T.sup T.veC (by decide) (fun u h₃ F₃ N₃ l₃ => ?_)
  -- ("..")
  refine kxs_callWith1 N₃ List.mem_cons_self (spliced_more (wpAny_Constant_str (spliced_none ⟨(N₃ _ List.mem_cons_self).1, ?_⟩)))
  have nu : u ≠ hp.objs.size + 1 := Nat.ne_of_gt (l₃ _ (List.mem_cons_of_mem _ List.mem_cons_self))
  have ns : h₁.objs.size ≠ hp.objs.size + 1 := Nat.ne_of_gt (l₂ _ List.mem_cons_self)
  refine kxs_call F₃ X N₃ PySem.F.excBase_ValueError T.xin List.mem_cons_self (UpdF.tail nu (UpdF.tail ns (UpdF.head fun p hp' => ?_))) ?_ (fun t' h₄ F₄ N₄ l₄ => ?_)
  · rcases List.mem_cons.mp hp' with rfl | hp'
    · show hp.objs.size ≠ hp.objs.size + 1
      omega
    · cases hp'
  · show 1 ≤ sizeLine
    decide
  have X₄ : K.In h₄ := X.keeps F₄.keep
  have hx₄ : h₄.get? (hp.objs.size + 1) = some (excObj C t' none .none) := (N₄ _ (List.mem_cons_of_mem _ (List.mem_cons_of_mem _ (List.mem_cons_of_mem _ List.mem_cons_self)))).1
  -- self.f = f
  show PySem.wpAt _ _ _ (execs _ _) _ _ _
  refine wpAt_of_wpAny (wpAny_execs_cons (plainObj_wpAny_Assign_Attribute ?_))
  have vf : (fun y => [(("self" : Str), Value.ref (hp.objs.size + 1)), (f, v)].reverse.lookup y) f = some v := by
    show List.lookup f [(f, v), (("self" : Str), Value.ref (hp.objs.size + 1))] = _
    rw [List.lookup_cons, beq_self_eq_true]
  have vs' : (fun y => [(("self" : Str), Value.ref (hp.objs.size + 1)), (f, v)].reverse.lookup y) ("self" : Str) = some (.ref (hp.objs.size + 1)) := by
    show List.lookup ("self" : Str) [(f, v), (("self" : Str), Value.ref (hp.objs.size + 1))] = _
    have e : (("self" : Str) == f) = false := by
      have := W.ne
      rw [beq_eq_false_iff_ne] at this ⊢
      exact fun z => this z.symm
    rw [List.lookup_cons, e, List.lookup_cons, beq_self_eq_true]
  refine wpAny_Name (wpAny_loadName_local rfl W.l F₄.ns vf ?_) W.db
  refine wpAny_Name (wpAny_loadName_local rfl rfl F₄.ns vs' ?_) (by decide)
  refine set_plain X₄ (ox := excObj C t' none .none) (od := none) ⟨hx₄, rfl, rfl, trivial⟩ T.sa ?_
  refine exc_osa X₄ hx₄ hcl (show refsVE (.ref C :: bm) = true from hbm) rfl T.noN (fun h₅ tk₅ dx k₅ dn dne hx₅ hn₅ => ?_)
  show wpAny _ _ (execs _ _) _ _ _
  have b₄ : hp.objs.size ≤ h₄.objs.size := Nat.le_of_lt (Nat.lt_of_succ_lt (Heap.lt_size hx₄))
  refine wpAny_execs_nil (hq h₅ tk₅ dx t' ⟨fun b o e => k₅ b o ?_ (F₄.keep b o e), hx₅, Nat.le_trans b₄ dn, dne, hn₅⟩)
  rintro rfl
  exact absurd (Nat.lt_of_succ_lt (Heap.lt_size e)) (Nat.lt_irrefl _)
/-- X(v) -/
structure Made (h h' : Heap) (e C d : Addr) (f : Str) (v : Value) : Prop where
  keep : ∀ b o, h.get? b = some o → h'.get? b = some o
  new : h.objs.size ≤ e
  obj : ∃ oe vs, h'.get? e = some oe ∧ oe.cls = .ref C ∧ oe.dict = some d ∧ oe.data = .fields vs ∧ vs[1]? = some .none
  dbig : h.objs.size ≤ d
  dne : d ≠ e
  ns : h'.Ns1 d (fun y => if y = f then some v else none)
theorem xc_made (T : Own prog K mg n f C fI cda cc) {v : Value} (X : K.In hp) (hlim : hp.NoLimit) (Gm : hp.Ns mainGlobals mg) (Gb : ∃ mb, hp.Ns builtinsNs mb ∧ ∀ x : Str, x ≠ "__name__" → mb x = bootBuiltins x)
    (W : Fld f) (hroom : A.depth + 1 < recursionLimit)
    (hq : ∀ h' tk' e d, Made hp h' e C d f v → R (.ok (.ret (.ref e))) ⟨h', g, dr, tk', os⟩) :
    codeAny (model prog w) A (.call (.ref C) ⟨[v], []⟩) R ⟨hp, g, dr, tk, os⟩ := by
  obtain ⟨nm, q, N, bs, bm, sn, sub, ab, col, dd, k0, k1, k2, k3, k5, hC, hbm⟩ := T.cls
  refine call_own PySem.F.excBase_ValueError (fun Y => refsVE_contains Y bm hbm) (X _ _ hC) (looks_findIn X T.iC) (fun self => bind_fn X self T.tC) (show 1 ≤ sizeLine by decide) ?_
  refine xc_init T X hlim Gm Gb W hroom fun h' tk' dx t1 Z => ?_
  exact ⟨rfl, hq h' tk' (hp.objs.size + 1) dx ⟨Z.keep, Nat.le_succ _, ⟨_, _, Z.obj, rfl, rfl, rfl, rfl⟩, Z.dbig, Z.dne, Z.ns⟩⟩
end
end Xc
/-! ### the same over the layer: raise X(e), the field in an except suite -/
namespace L2
open PySem PySem.Spec PyProof.Rows
theorem relO_one {f : Str} {v : V} {v' : Value} (r : RelV v v') (y : Str) : RelO (List.lookup y [(f, v)]) (if y = f then some v' else none) := by
  by_cases hw : y = f
  · rw [if_pos hw, hw, List.lookup_cons, beq_self_eq_true]
    exact r
  · rw [if_neg hw, List.lookup_cons, show (y == f) = false by simpa using hw]
    trivial
section
variable {X : Cx} {n f : Str} {C fI cda cc : Addr}
/-- X(e) -/
def tMkX (C : Addr) (f : Str) (ta : TA) : St → Hp → XK → Prop := fun σ H Q => ta σ H fun vs H1 => ∃ v, vs = [v] ∧ ∀ d, H1 d = none → Q (.ref C) (some d) (upd H1 d (.xd [(f, v)]))
theorem pmk_x {a : Expr} {ta : TA} {p pos : Pos} {k : Nat} (T : Xc.Own X.prog X.K X.mg n f C fI cda cc) (W : Xc.Fld f) (hr : Room k X.A) (ha : PA X [a] ta) (hg : Gl X n) (hdb : (n == ("__debug__" : Str)) = false)
    (he : starEach (a :: []) X.env = (false, eval a X.env) :: starEach [] X.env := by rfl) (hpl : (backTo pos (starEach [] X.env)).any (·.1) = false := by rfl) :
    PMk X (.Call (.Name n p) [a] [] pos) (tMkX C f ta) := by
  intro pins s σ H Q I h
  refine wpAny_Call_Name_kw (ld_glob I hg T.gC ?_ hdb)
  refine PySem.W.callWith_K (h₀ := X.base) I.ok.mod.kin T.kC (thn (ha.run pos pins s σ H _ I h) fun us s1 hh => ?_) he hpl
  obtain ⟨vs, H1, I1, r1, v, ev, q1⟩ := hh
  subst ev
  refine ⟨I1.kIn, ?_⟩
  cases r1 with
  | cons rv rn =>
    rename_i v' us'
    cases rn
    show wpAny _ _ (call (.ref C) [v']) _ _ _
    have hlim := I1.nolimit
    have hgm := I1.mod.glob.keepsP I1.bk
    obtain ⟨mb, hb1, hb2⟩ := I1.mod.blt
    have hgb := hb1.keepsP I1.bk
    obtain ⟨hp, g, dr, tk, os⟩ := s1
    refine wpAny_call (Xc.xc_made T I1.kIn hlim hgm ⟨mb, hgb, hb2⟩ W (by have := hr.dp; omega) fun h' tk' e d M => ?_)
    show MkP X pins σ Q (.ref e) ⟨h', g, dr, tk', os⟩
    obtain ⟨oe, fv, hoe, hc, hd, hdat, h1⟩ := M.obj
    have hns := M.ns
    obtain ⟨G', g1, g2⟩ := restrict h' fun b => decide (b ≠ e)
    have gk : ∀ b, b ≠ e → G'.get? b = h'.get? b := fun b hb => g1 b (decide_eq_true hb)
    have ge : G'.get? e = none := g2 e (by simp)
    have old : ∀ b o, hp.get? b = some o → G'.get? b = some o := fun b o q => (gk b (Nat.ne_of_lt (Nat.lt_of_lt_of_le (Heap.lt_size q) M.new))).trans (M.keep b o q)
    have ob : ObjOk X.prog X.w (upd H1 d (.xd [(f, v)])) G' d (.xd [(f, v)]) :=
      ⟨_, hns.at (fun o q => (gk d M.dne).trans q), fun y => relO_one rv y⟩
    have J : Inv X pins σ (upd H1 d (.xd [(f, v)])) ⟨G', g, dr, tk', os⟩ := I1.laid (t' := tk') old M.dbig ob
    refine ⟨e, oe, fv, ⟨G', g, dr, tk', os⟩, _, .ref C, some d, rfl, J, fun b o q => ?_, ge, hoe, ⟨hc, hd⟩, hdat, h1, ?_, rfl, I1.bare, raises_own T.exC T.tyC, q1 d (I1.hok.fresh M.dbig)⟩
    · by_cases hb : b = e
      · have q' : G'.get? b = some o := q
        rw [hb, ge] at q'
        cases q'
      · exact (gk b hb).symm.trans q
    · rw [upd_ne (Ne.symm M.dne)]
      exact I1.hok.fresh M.new
/-- raise X(e) -/
def tRaiseX (C : Addr) (f : Str) (W : WX) (ta : TA) : TS := fun _ σ H => tMkX C f ta σ H fun cls d H' => W cls d σ H'
theorem ps_raiseX {a : Expr} {ta : TA} {Wx : WX} {p pos pos2 : Pos} {k : Nat} (hc : X.calm = true) (T : Xc.Own X.prog X.K X.mg n f C fI cda cc) (W : Xc.Fld f) (hr : Room k X.A) (tk : Takes X Wx) (ha : PA X [a] ta) (hg : Gl X n) (hdb : (n == ("__debug__" : Str)) = false)
    (he : starEach (a :: []) X.env = (false, eval a X.env) :: starEach [] X.env := by rfl) (hpl : (backTo pos (starEach [] X.env)).any (·.1) = false := by rfl) :
    PS X (.Raise (some (.Call (.Name n p) [a] [] pos)) none pos2) (tRaiseX C f Wx ta) := ps_raise hc tk (pmk_x T W hr ha hg hdb he hpl)
end
end L2
/-! ### == and != by an own __eq__, both answers -/
namespace L2
open PySem PySem.Spec PyProof.Rows
/-- what may stand on the right -/
inductive EqTy (K : PySem.W.Frag) (H : Hp) (C : Addr) : V → Prop where
  | ins {b dx : Addr} {fs : List (Str × V)} (e : H b = some (.ins C dx fs)) : EqTy K H C (.ref b)
  | lst {b : Addr} {xs : List V} (e : H b = some (.lst xs)) (n : PySem.W.notFirst K C (.type "list") = true) : EqTy K H C (.ref b)
  | int (i : Int) (n : PySem.W.notFirst K C (.type "int") = true) : EqTy K H C (.int i)
/-- a class with an own __eq__ at f and no __ne__ -/
structure EqC (K : PySem.W.Frag) (C f : Addr) : Prop where
  eq : PySem.W.findIn K (.ref C) "__eq__" = some (some (.ref f))
  fn : PySem.W.isFn K (.ref f) = true
  cls : ∃ nm q N bs hdct sn sub ab col dd k0 k1 k2 k3 k5 newId, K.lookup C = some (excClassObj nm q C N bs [.type "object"] hdct sn sub ab col dd k0 k1 k2 k3 k5 newId) ∧
    PySem.W.nsOkIn K N = true ∧ PySem.W.nsIn K N "__eq__" = some (some (.ref f)) ∧ PySem.W.nsIn K N "__ne__" = some none
section
variable {X : Cx} {C f : Addr} {fd : FuncData} {ps : List Str} {sp : Sp} {CX : CXT} {E : XK} {n : Nat}
theorem EqTy.looks {pins : List (Addr × Obj)} {σ : L2.St} {H : Hp} {s : Shared} {y : V} {u : Value} (I : Inv X pins σ H s) (ry : RelV y u) (t : EqTy X.K H C y) :
    ∃ tb, PySem.W.Looks (model X.prog X.w) s.heap (typeOf u) tb ∧ PySem.W.notFirst X.K C tb = true := by
  cases t with
  | ins e =>
    cases ry
    obtain ⟨m, J, _⟩ := ins_get I.hok e
    obtain ⟨od, J, _⟩ := J.look
    exact ⟨.ref C, J.type, by simp [PySem.W.notFirst]⟩
  | lst e h =>
    cases ry
    obtain ⟨its, k, _, ho, _⟩ := I.lst e
    exact ⟨.type "list", fun A Q E s' k q => wpAny_typeOf_ref (k _ _ ho) q, h⟩
  | int i h =>
    obtain ⟨t, rfl⟩ := ry
    exact ⟨.type "int", PySem.W.Looks.of_pure rfl, h⟩
theorem ns_some_of {K : PySem.W.Frag} {h : Heap} {N : Addr} {m : Str → Option Value} {x : Str} {v : Value} (Y : K.In h) (G : h.Ns N m) (e : PySem.W.nsIn K N x = some (some v)) : m x = some v := by
  obtain ⟨o, es, ep, ho, hd, _, hf⟩ := G
  unfold PySem.W.nsIn at e
  split at e
  · rename_i c d es' k' sl q
    have z := (Y _ _ q).symm.trans ho
    cases z
    cases hd
    split at e
    · rename_i w he
      rw [← hf]
      unfold nsFind findBy
      rw [← Array.find?_toList, he]
      injection e with e
    · split at e <;> cases e
  · cases e
/-- the call of __eq__ -/
theorem eq_call (F : FnOk X.prog X.w X.K X.mg X.base CX n f fd ps sp) (hb : Binds X.K fd ps []) (hx : Passes CX X E) {A : Around} (hr : Room n A) (hfr : A.frames = X.A.frames) {pins : List (Addr × Obj)} {σ : L2.St} {H : Hp} {s : Shared} {x y : V} {u v : Value}
    (I : Inv X pins σ H s) (rx : RelV x u) (ry : RelV y v) {Q : VK} (h : sp [x, y] H Q E) : wpAny (model X.prog X.w) A (call (.ref f) [u, v]) (EP X pins σ Q) X.xe s := by
  have e0 : Env0 X.prog X.w X.K X.mg X.base A X.stack s H := by
    have e := I.env0
    exact ⟨by rw [hfr]; exact e.frames, e.mod, e.bs, e.bsz, e.funs, e.frf, e.hok, e.bare⟩
  have hl := F.len _ _ _ _ h
  have r2 : Vals [x, y] [u, v] := .cons rx (.cons ry .nil)
  refine wpAny_call (codeAny_mono (F.run A X.stack s H ⟨[u, v], []⟩ [u, v] [x, y] _ E hr e0 (by
    have z := hb s [u, v] I.kIn (by simpa using hl)
    simpa using z) r2 h) fun r s' hq => ?_)
  cases r with
  | error e => exact hx pins σ H s e s' I hq
  | ok fl =>
    cases fl with
    | ret w => exact I.after hq
    | next => exact False.elim hq
    | brk => exact False.elim hq
    | cont => exact False.elim hq
def rEqI (K : PySem.W.Frag) (C : Addr) (sp : Sp) (E : XK) : R2 := fun x y H Q => ∃ a dx fs, x = .ref a ∧ H a = some (.ins C dx fs) ∧ EqTy K H C y ∧ sp [x, y] H (fun v H' => ∃ b, v = .bl b ∧ Q (.bl b) H') E
def rNeI (K : PySem.W.Frag) (C : Addr) (sp : Sp) (E : XK) : R2 := fun x y H Q => ∃ a dx fs b dy gs, x = .ref a ∧ H a = some (.ins C dx fs) ∧ y = .ref b ∧ H b = some (.ins C dy gs) ∧ sp [x, y] H (fun v H' => ∃ k, v = .bl k ∧ Q (.bl (!k)) H') E
theorem op_eqI (M : EqC X.K C f) (F : FnOk X.prog X.w X.K X.mg X.base CX n f fd ps sp) (hb : Binds X.K fd ps []) (hx : Passes CX X E) (hr : Room n X.A) : OpR X (compareOp .Eq) (rEqI X.K C sp E) := by
  intro pins s σ H x y u v Q I rx ry h
  obtain ⟨a, dx, fs, rfl, ha, ty, q⟩ := h
  obtain ⟨tb, lk, nf⟩ := ty.looks I ry
  cases rx
  obtain ⟨mA, J, _⟩ := ins_get I.hok ha
  obtain ⟨od, J, _⟩ := J.look
  obtain ⟨m, hF⟩ := I.fr
  show wpAny _ _ (richCompare .Eq _ _) _ _ _
  refine PySem.W.cmp_K (op := .Eq) hr.units0 hF I.ok.mod.kin J lk nf M.eq M.fn ?_
  refine wpAny_mono (eq_call F hb hx hr rfl I (x := .ref a) rfl ry q) (fun w s' z => ?_) fun _ _ e => e
  obtain ⟨_, H', I', rz, k, rfl, qk⟩ := z
  cases (show w = .bool k from rz)
  exact ⟨.bl k, H', I', rfl, qk⟩
theorem op_neI (M : EqC X.K C f) (F : FnOk X.prog X.w X.K X.mg X.base CX n f fd ps sp) (hb : Binds X.K fd ps []) (hx : Passes CX X E) (hr : Room (n + 1) X.A) : OpR X (compareOp .NotEq) (rNeI X.K C sp E) := by
  intro pins s σ H x y u v Q I rx ry h
  obtain ⟨a, dx, fs, b, dy, gs, rfl, ha, rfl, hb', q⟩ := h
  cases rx
  cases ry
  obtain ⟨mA, J, _⟩ := ins_get I.hok ha
  obtain ⟨od, J, _⟩ := J.look
  obtain ⟨mB, J', _⟩ := ins_get I.hok hb'
  obtain ⟨od', J', _⟩ := J'.look
  have K1 := I.kIn
  obtain ⟨nm, qn, N, bs, hdct, sn, sub, ab, col, dd, k0, k1, k2, k3, k5, newId, hC, hN, he, hne⟩ := M.cls
  have G := Heap.Ns.of_isNs (PySem.W.isNs_of_in K1 hN)
  have hfn : ∃ of, s.heap.get? f = some of ∧ of.cls = .type "function" := by
    have z : (X.K.lookup f).map (·.cls) = some (.type "function") := beq_iff_eq.mp M.fn
    cases e : X.K.lookup f with
    | none => rw [e] at z; cases z
    | some o => rw [e] at z; exact ⟨o, K1 _ _ e, Option.some.inj z⟩
  obtain ⟨of, hof, hofc⟩ := hfn
  have Y : s.heap.OwnEqNoNe a C f "object" [.type "object"] :=
    ⟨_, of, nm, qn, N, bs, hdct, sn, sub, ab, col, dd, k0, k1, k2, k3, k5, newId, _, _, J.at_, J.cls, K1 _ _ hC, G, ns_some_of K1 G he, hof, hofc, PySem.F.cmp_object.mro, PySem.F.cmp_object.eq.lookup, PySem.W.ns_none_of K1 G hne⟩
  obtain ⟨hp, g, dr, tk, os⟩ := s
  refine compareOp_ne_ownEq PySem.F.cmp_object Y J'.at_ J'.cls (hu_of hr) ?_
  refine wpAny_mono (eq_call F hb hx hr.in1 rfl I (x := .ref a) (y := .ref b) rfl rfl q) (fun w s' z => ?_) fun _ _ e => e
  obtain ⟨_, H', I', rz, k, rfl, qk⟩ := z
  cases (show w = .bool k from rz)
  exact ⟨k, rfl, .bl (!k), H', I', rfl, qk⟩
end
end L2
/-! ### for i, x in enumerate(t), t a tuple -/
namespace EnT
open PySem
open AutoSeq1 (wpAny_loadPart')
theorem makes (a : Addr) (xs : Array Value) (k : Nat) (dc : Option Addr) (sx : Array (Option Value)) :
    Meets (Builtin.«enumerate.__new__» ⟨[.type "enumerate", .ref a], []⟩) (fun _ R s => s.heap.get? a = some { cls := .type "tuple", dict := dc, data := .seq xs k, slots := sx } ∧
      R (.ok (.ret (.ref (s.heap.push { cls := .type "tuple_iterator", data := .fields #[.ref a, .int 0 0] }).objs.size)))
        { s with heap := (s.heap.push { cls := .type "tuple_iterator", data := .fields #[.ref a, .int 0 0] }).push { cls := .type "enumerate", data := .fields #[.none, .bool false, .ref s.heap.objs.size, rawInt 0, .none, .none] } }) :=
  .of_wp fun prog w A R s z => by
    obtain ⟨hh, gg, dd, tt, oo⟩ := s
    obtain ⟨ha, z⟩ := z
    have e0 := sub_enumerate
    have hT : Heap.IsTuple (Shared.heap ⟨hh, gg, dd, tt, oo⟩) a xs := ⟨_, ha, rfl, k, rfl⟩
    wp_walk using wpAny_loadPart' ha
    refine wpAny_stack_any fun st => wpAny_pure ?_
    split
    · rename_i c _ _ _ _ _
      cases (c == Value.type "enumerate") <;> (wp_walk using wpAny_loadPart' ha, wpAny_pyIter_tuple hT; exact ⟨_, rfl, z⟩)
    · wp_walk using wpAny_loadPart' ha, wpAny_pyIter_tuple hT
      exact ⟨_, rfl, z⟩
section
variable {prog : Program} {w : World} {A : Around} {E : Value → Shared → Prop} {s : Shared}
theorem called {a : Addr} {xs : Array Value} {Q : Value → Shared → Prop} (hT : s.heap.IsTuple a xs)
    (q : ∀ h', IsEnum h' (s.heap.objs.size + 1) s.heap.objs.size 0 .none → h'.IsTupleIter s.heap.objs.size a 0 → (∀ b o, s.heap.get? b = some o → h'.get? b = some o) → Q (.ref (s.heap.objs.size + 1)) { s with heap := h' }) :
    wpAny (model prog w) A (call (.type "enumerate") [.ref a]) Q E s := by
  obtain ⟨⟨c, dc, dt, sx⟩, ha, hc, k, hd⟩ := hT
  obtain rfl : c = .type "tuple" := hc
  obtain rfl : dt = .seq xs k := hd
  refine callType_new F.called_enumerate (by decide) (F.typeCall_enumerate_1 _) (F.newCall_enumerate_1 _) (fun ob => F.args_object_init_2 ob _) F.entry_enumerate_new (makes a xs k dc sx) ⟨ha, ?_⟩
  have sz : (s.heap.push { cls := .type "tuple_iterator", data := .fields #[.ref a, .int 0 0] }).objs.size = s.heap.objs.size + 1 := Heap.size_push ..
  show _ ∧ _
  rw [sz]
  have en : IsEnum ((s.heap.push { cls := .type "tuple_iterator", data := .fields #[.ref a, .int 0 0] }).push { cls := .type "enumerate", data := .fields #[.none, .bool false, .ref s.heap.objs.size, rawInt 0, .none, .none] }) (s.heap.objs.size + 1) s.heap.objs.size 0 .none := by
    have y := Heap.get?_push_size (s.heap.push { cls := .type "tuple_iterator", data := .fields #[.ref a, .int 0 0] }) (o := { cls := .type "enumerate", data := .fields #[.none, .bool false, .ref s.heap.objs.size, rawInt 0, .none, .none] }) rfl
    rw [sz] at y
    exact y
  exact ⟨⟨_, en, rfl⟩, q _ en ⟨_, Heap.get?_push_of_some _ (Heap.get?_push_size _ rfl), rfl, rfl⟩ fun b o x => Heap.get?_push_of_some _ (Heap.get?_push_of_some _ x)⟩
end
end EnT
namespace L2
open PySem PySem.Spec PyProof.Rows
/-- the tuple at a as it stands at each turn, each item in a new pair -/
def IteT (K : PySem.W.Frag) (a : Addr) : It :=
  ⟨fun i H => ∃ (xs : List V) (x : V), SqT K H a xs ∧ xs[i]? = some x, fun i H v H' => ∃ T x, v = .ref T ∧ H T = none ∧ H' = upd H T (.tup [.int (i : Nat), x]) ∧ ∀ xs, SqT K H a xs → xs[i]? = some x, fun i H => ∃ xs : List V, SqT K H a xs ∧ xs.length ≤ i⟩
theorem turn_enumT {P : Program} {w : World} {K : PySem.W.Frag} {elts : List Expr} {kk : Nat} {tpos : Pos} (a e it : Addr) :
    Turn P w K (.Tuple elts kk tpos) (IteT K a) [e, it] e (fun i h => (∃ old, IsEnum h e it ((i : Nat) : Int) old) ∧ h.IsTupleIter it a i ∧ e ≠ it ∧ a ≠ it ∧ a ≠ e) where
  mem := by simp
  obj := fun i h st b hb => by
    obtain ⟨⟨old, he⟩, ⟨o, ho, hc, hd⟩, _⟩ := st
    rcases (show b = e ∨ b = it by simpa using hb) with z | z
    · rw [z]
      exact ⟨_, he, fun v q => nomatch q⟩
    · rw [z]
      exact ⟨o, ho, fun v q => by rw [hd] at q; cases q⟩
  keep := fun i h h' st k => let ⟨⟨old, he⟩, hi, r⟩ := st; ⟨⟨old, k e (by simp) _ he⟩, hi.at fun o q => k it (by simp) o q, r⟩
  item := by
    intro X hP hw hK hc i pins s σ H E I hf st hg
    subst hP hw hK
    obtain ⟨⟨old, he⟩, hit, hne, hat, hae⟩ := st
    obtain ⟨xs, x, hq, hx⟩ := hg
    obtain ⟨its, rv, p, hz⟩ := I.tuple hq
    obtain ⟨u, hu, ru⟩ := rv.get hx
    have le : e < s.heap.objs.size := Heap.lt_size he
    have li : it < s.heap.objs.size := by obtain ⟨_, q, _⟩ := hit; exact Heap.lt_size q
    have lt : i < its.toArray.size := by
      have y := (List.getElem?_eq_some_iff.mp hu).1
      simpa using y
    refine wpAny_pyNext_enum_itemD (Draws.tuple (show X.A.in1.handled = none from I.ok.hd hc) it a hat its.toArray) he ⟨hit, p⟩ lt hne (by simp [hne, Ne.symm hae]) fun v h' tk hv ho st' hT sz hk => ?_
    have ev : v = u := by
      have y : its.toArray[i]? = some v := hv
      rw [List.getElem?_toArray, hu] at y
      exact (Option.some.inj y).symm
    subst ev
    refine ⟨_, rfl, wpAny_letOwnedTupleGo_enum (s := { s with heap := h', toks := tk + 1 }) ho fun h2 he2 sb => ?_⟩
    have hT2 : h2.get? s.heap.objs.size = some { cls := .type "tuple", data := .seq #[.int i tk, v] } := (sb.2 _ (Nat.ne_of_gt le)).trans hT
    have nw : ObjOk X.prog X.w (upd H s.heap.objs.size (.tup [.int (i : Nat), x])) h2 s.heap.objs.size (.tup [.int (i : Nat), x]) :=
      ⟨by show 2 ≤ sizeLine; decide, [.int i tk, v], .cons ⟨_, rfl⟩ (.cons ru .nil), ⟨_, hT2, rfl, _, rfl⟩⟩
    have I1 : Inv X pins σ (upd H s.heap.objs.size (.tup [.int (i : Nat), x])) { s with heap := h2, toks := tk + 1 } :=
      I.turnedNew (ch := [e, it]) (fun b ob hb q => (sb.2 b (fun z => hb (by simp [z]))).trans (hk b ob (fun z => hb (by simp [z])) (fun z => hb (by simp [z])) q)) hf (Nat.le_refl _) nw
    refine ⟨.ref s.heap.objs.size, _, I1, rfl, ⟨_, x, rfl, I.hok.fresh (Nat.le_refl _), rfl, fun ys hy => by rw [I.tuple_inj hy hq]; exact hx⟩, ⟨⟨v, ?_⟩, st'.1.at fun o q => (sb.2 it (Ne.symm hne)).trans q, hne, hat, hae⟩, fun b hb => ?_⟩
    · rw [show ((i + 1 : Nat) : Int) = (i : Int) + 1 by omega]
      exact he2
    · have lb : b < s.heap.objs.size := by
        rcases (show b = e ∨ b = it by simpa using hb) with z | z
        · exact z ▸ le
        · exact z ▸ li
      rw [upd_ne (Nat.ne_of_lt lb)]
      exact (hf b hb).1
  done := by
    intro X hP hw hK hc i pins s σ H E I hf st hg
    subst hP hw hK
    obtain ⟨⟨old, he⟩, hit, hne, hat, hae⟩ := st
    obtain ⟨xs, hq, hx⟩ := hg
    obtain ⟨its, rv, p, hz⟩ := I.tuple hq
    obtain ⟨f0, f1, f2, f3, f4, f5⟩ := hf it (by simp)
    have hl := rv.length
    have D : Draws X.prog X.w X.A.in1 it [it, a] i (fun _ _ => True) (fun j h => j = i ∧ h.IsTupleIter it a i ∧ h.IsTuple a its.toArray) :=
      { live := fun _ _ st => let ⟨o, ho, _⟩ := st.2.1; ⟨o, ho⟩
        frame := fun _ _ _ st hk => ⟨st.1, st.2.1.at fun o q => hk it (by simp) o q, st.2.2.at fun o q => hk a (by simp) o q⟩
        item := fun j _ _ _ hj st _ => absurd st.1 (Nat.ne_of_lt hj)
        done := fun _ _ _ st hE => wpAny_nextOf_tuple_end (show X.A.in1.handled = none from I.ok.hd hc) st.2.1 st.2.2 (by simp; omega) hE }
    exact wpAny_pyNext_enum_endD D he ⟨rfl, hit, p⟩ fun h' eb => ⟨rfl, I.turned (t' := s.toks) (fun b o hb q => eb b o hb q) f0 f1 f3 f4 f5⟩
  self := fun A i s Q E st h => let ⟨⟨_, he⟩, _⟩ := st; wpAny_pyIter_enum he h
def iEnumT (K : PySem.W.Frag) (ta : TA) : TI := fun σ H R => ta σ H fun vs H1 => ∃ a xs, vs = [.ref a] ∧ SqT K H1 a xs ∧ R (IteT K a) H1
theorem pi_enumT {X : Cx} {e : Expr} {ta : TA} {p pos tpos : Pos} {elts : List Expr} {kk : Nat} (hg : Gl X "enumerate") (hm : X.mg "enumerate" = none) (ha : PA X [e] ta) (hs : starEach [e] X.env = [(false, eval e X.env)] := by rfl) :
    PI X (.Tuple elts kk tpos) (.Call (.Name "enumerate" p) [e] [] pos) (iEnumT X.K ta) := by
  refine ⟨fun pins s σ H R I h => ?_⟩
  refine Call_ (ld_blt I hg hm boot_enumerate (PyProof.Rows.callWith_type1 (thn (ha.run pos pins s σ H _ I h) fun us s1 ⟨vs, H1, I1, r1, q1⟩ => ?_) hs rfl))
  obtain ⟨a, xs, ex, hq, q⟩ := q1
  subst ex
  cases r1 with
  | cons r rr =>
    cases rr
    cases r
    obtain ⟨its, rv, p', hz⟩ := I1.tuple hq
    obtain ⟨o, ho, _⟩ := id p'
    have la : a < s1.heap.objs.size := Heap.lt_size ho
    refine EnT.called p' fun h' he hit hk => wpAny_pyIter_enum he ?_
    refine ⟨s1.heap.objs.size + 1, [s1.heap.objs.size + 1, s1.heap.objs.size], _, _, H1, rfl, I1.kept (t' := s1.toks) hk, turn_enumT a (s1.heap.objs.size + 1) s1.heap.objs.size, ⟨⟨.none, he⟩, hit, Nat.succ_ne_self _, Nat.ne_of_lt la, Nat.ne_of_lt (Nat.lt_succ_of_lt la)⟩, fun b hb => ?_, q⟩
    have lb : s1.heap.objs.size ≤ b := by
      rcases (show b = s1.heap.objs.size + 1 ∨ b = s1.heap.objs.size by simpa using hb) with z | z
      · exact z ▸ Nat.le_add_right _ _
      · exact z ▸ Nat.le_refl _
    exact I1.fpOk lb (I1.hok.fresh lb)
/-- over a tuple in new pairs, the invariant over turns -/
theorem for_enumT {K : PySem.W.Frag} {a : Addr} {xs : List V} {g : TG} {tb : TS} {D : Ends} {σ : L2.St} {H : Hp} (Pv : Nat → L2.St → Hp → Prop) (h0 : Pv 0 σ H) (hl : ∀ i σ H, i ≤ xs.length → Pv i σ H → SqT K H a xs)
    (hs : ∀ i x σ H T, xs[i]? = some x → Pv i σ H → H T = none → g (.ref T) σ (upd H T (.tup [.int (i : Nat), x])) fun σ2 H2 => tb { D with nx := Pv (i + 1), ct := Pv (i + 1), bk := D.nx } σ2 H2) (hd : ∀ σ H, Pv xs.length σ H → D.nx σ H) :
    ∃ W : Nat → Nat → L2.St → Hp → Prop, (∃ m, W 0 m σ H) ∧ ∀ i m σ H, W i m σ H →
      ((IteT K a).stop i H ∧ D.nx σ H) ∨ ((IteT K a).go i H ∧ ∃ N : L2.St → Hp → Prop, (∀ σ' H', N σ' H' → ∃ m', m' < m ∧ W (i + 1) m' σ' H') ∧ ∀ x H', (IteT K a).yld i H x H' → g x σ H' fun σ2 H2 => tb { D with nx := N, ct := N, bk := D.nx } σ2 H2) := by
  refine ⟨fun i m σ H => m = xs.length - i ∧ i ≤ xs.length ∧ Pv i σ H, ⟨_, rfl, Nat.zero_le _, h0⟩, ?_⟩
  rintro i m σ H ⟨rfl, hi, p⟩
  have q := hl i σ H hi p
  by_cases lt : i < xs.length
  · refine .inr ⟨⟨xs, xs[i], q, by simp [lt]⟩, Pv (i + 1), fun σ' H' p' => ⟨xs.length - (i + 1), by omega, rfl, lt, p'⟩, fun x H' y => ?_⟩
    obtain ⟨T, x', rfl, nT, rfl, f⟩ := y
    exact hs i x' σ H T (f xs q) p nT
  · have e : i = xs.length := by omega
    subst e
    exact .inl ⟨⟨xs, q, Nat.le_refl _⟩, hd σ H p⟩
end L2
/-! ### isinstance of a caught error that has a dict of its own -/
namespace L2
open PySem PySem.Spec PyProof.Rows
def rIsX (K : PySem.W.Frag) (D a : Addr) (cls : Value) (d : Option Addr) : List V → Hp → VK → Prop := fun xs H Q => cls = .ref D ∧ ∃ (dd : Addr) (fs : List (Str × V)) (c : V) (cv : Value) (b : Bool), d = some dd ∧ H dd = some (.xd fs) ∧ xs = [.ref a, c] ∧ ClsV c cv ∧ PySem.W.kitOne K (.ref D) cv = some b ∧ Q (.bl b) H
theorem call_isX {X : Cx} {a D : Addr} {oe : Obj} {cls : Value} {d : Option Addr} {pn : List (Addr × Obj)} (C : ExcC X.K D) (hz : Zc cls d oe) (hf : ∃ vs, oe.data = .fields vs) : CallR (X.suite a ((a, oe) :: pn)) (.builtin "isinstance") (rIsX X.K D a cls d) := by
  intro pins s σ H xs us Q I r h
  obtain ⟨ec, dd, fs, c, cv, b, ed, hdd, rfl, hcv, e, q⟩ := h
  subst ec
  subst ed
  obtain ⟨u1, u2, rfl, r1, r2⟩ := vals2 r
  have e2 := hcv.eq r2
  subst e2
  cases (show u1 = Value.ref a from r1)
  have hp := (I.pin (a, oe) (List.mem_append_left _ List.mem_cons_self)).1
  obtain ⟨vs, hv⟩ := hf
  obtain ⟨mA, hns, _⟩ := (show ObjOk X.prog X.w H s.heap dd (.xd fs) from I.hok dd _ hdd)
  obtain ⟨od, ho, _⟩ := lookIn_ns hns
  have J : PySem.W.InstAt s.heap a oe D (some od) := by
    refine ⟨hp, hz.1, ?_, ?_⟩
    · unfold PySem.W.notCls
      rw [hv] <;> rfl
    · rw [hz.2]
      exact ho
  have hcl : (PySem.W.clsIn X.K D).isSome = true := by
    have z := C.hd
    unfold PySem.W.hasDictIn at z
    cases y : PySem.W.clsIn X.K D with
    | none => rw [y] at z; cases z
    | some _ => rfl
  exact PySem.W.kia_one (PySem.W.kitx_exc (x := a) (ox := oe) (od := some od) hcl C.hg C.hk C.hs C.ha C.hn C.ht C.hm) I.kIn J e (fun z => nomatch z) fun tk => ⟨.bl b, H, I.kept (t' := tk) fun _ _ z => z, rfl, q⟩
theorem passN {X : Cx} {W : WX} (tk : Takes X W) : Passes (CX X.prog X.w) X (fun cls d H => ∀ σ : L2.St, σ.length = X.N.length → W cls d σ H) := fun _ σ _ _ e s' I c => tk e s' (XE.of_call I (fun _ _ _ h => h σ I.len) c)
theorem passO {X : Cx} {E : XK} (tk : Takes X (fun cls d _ H => E cls d H)) : Passes (CX X.prog X.w) X E := passes_call tk fun _ _ _ _ h => h
end L2
/-! ### rows of three numbers -/
namespace My
open PySem PySem.Spec PyProof.Rows L2
theorem lst_ne_tup {H : Hp} {d a : Addr} {zs xs : List V} (hd : H d = some (.lst zs)) (h : H a = some (.tup xs)) : a ≠ d := fun z => by
  rw [z, hd] at h
  cases h
theorem Keep.tupD {K : PySem.W.Frag} {d a : Addr} {H H' : Hp} {zs xs : List V} (e : Keep d H H') (hd : H d = some (.lst zs)) (h : SqT K H a xs) : SqT K H' a xs := by
  rcases h with (h | ⟨o, h⟩) | h
  · exact .inl (.inl (e _ _ (lst_ne_tup hd h) h))
  · refine .inl (.inr ⟨o, e _ _ (fun z => ?_) h⟩)
    rw [z, hd] at h
    cases h
  · exact .inr h
theorem Keep.free {d l : Addr} {H H' : Hp} {o : HO} (e : Keep d H H') (hd : H' d = some o) (h : H' l = none) : H l = none := by
  cases q : H l with
  | none => rfl
  | some u =>
    by_cases n : l = d
    · rw [n, hd] at h
      cases h
    · rw [e l u n q] at h
      cases h
theorem DrawAt.lst {K : PySem.W.Frag} {H : Hp} {d s : Addr} {ns : List Int} (h : DrawAt K H d s ns) : ∃ zs, H d = some (.lst zs) := let ⟨_, h, _⟩ := h; ⟨_, h⟩
abbrev LineR := Int × Int × Int
def RowV (K : PySem.W.Frag) (H : Hp) (v : V) (r : LineR) : Prop := ∃ a, v = .ref a ∧ SqT K H a [.int r.1, .int r.2.1, .int r.2.2]
inductive RowsV (K : PySem.W.Frag) (H : Hp) : List V → List LineR → Prop where
  | nil : RowsV K H [] []
  | cons {v : V} {vs : List V} {r : LineR} {rs : List LineR} : RowV K H v r → RowsV K H vs rs → RowsV K H (v :: vs) (r :: rs)
section
variable {K : PySem.W.Frag} {H H' : Hp} {d : Addr} {zs : List V}
theorem RowV.same {v : V} {r : LineR} (e : Same H H') : RowV K H v r → RowV K H' v r := fun ⟨a, h, t⟩ => ⟨a, h, Same.tup e t⟩
theorem RowV.keep {v : V} {r : LineR} (e : Keep d H H') (hd : H d = some (.lst zs)) : RowV K H v r → RowV K H' v r := fun ⟨a, h, t⟩ => ⟨a, h, e.tupD hd t⟩
theorem RowsV.map {vs : List V} {rs : List LineR} (f : ∀ v r, RowV K H v r → RowV K H' v r) : RowsV K H vs rs → RowsV K H' vs rs
  | .nil => .nil
  | .cons h t => .cons (f _ _ h) (RowsV.map f t)
theorem RowsV.same {vs : List V} {rs : List LineR} (e : Same H H') (h : RowsV K H vs rs) : RowsV K H' vs rs := h.map fun _ _ => RowV.same e
theorem RowsV.keep {vs : List V} {rs : List LineR} (e : Keep d H H') (hd : H d = some (.lst zs)) (h : RowsV K H vs rs) : RowsV K H' vs rs := h.map fun _ _ => RowV.keep e hd
theorem RowsV.len {vs : List V} {rs : List LineR} : RowsV K H vs rs → vs.length = rs.length
  | .nil => rfl
  | .cons _ t => congrArg Nat.succ t.len
theorem RowsV.app {vs ws : List V} {rs qs : List LineR} : RowsV K H vs rs → RowsV K H ws qs → RowsV K H (vs ++ ws) (rs ++ qs)
  | .nil, h => h
  | .cons h t, g => .cons h (t.app g)
theorem RowsV.at {vs : List V} {rs : List LineR} {v : V} : ∀ {i : Nat}, RowsV K H vs rs → vs[i]? = some v → ∃ r, rs[i]? = some r ∧ RowV K H v r
  | 0, .cons h _, e => ⟨_, rfl, by cases e; exact h⟩
  | i + 1, .cons _ t, e => t.at (i := i) e
  | _, .nil, e => by simp at e
theorem RowsV.take {vs : List V} {rs : List LineR} : ∀ (n : Nat), RowsV K H vs rs → RowsV K H (vs.take n) (rs.take n)
  | 0, _ => .nil
  | _ + 1, .nil => .nil
  | n + 1, .cons h t => .cons h (t.take n)
theorem RowsV.drop {vs : List V} {rs : List LineR} : ∀ (n : Nat), RowsV K H vs rs → RowsV K H (vs.drop n) (rs.drop n)
  | 0, h => h
  | _ + 1, .nil => .nil
  | n + 1, .cons _ t => t.drop n
theorem RowsV.rev {vs : List V} {rs : List LineR} : RowsV K H vs rs → RowsV K H vs.reverse rs.reverse
  | .nil => .nil
  | .cons h t => by
    rw [List.reverse_cons, List.reverse_cons]
    exact t.rev.app (.cons h .nil)
end
/-- a list of rows stands at l -/
def RowsAt (K : PySem.W.Frag) (H : Hp) (l : Addr) (rs : List LineR) : Prop := ∃ vs, H l = some (.lst vs) ∧ RowsV K H vs rs
def Sz2 (i : Int) : Prop := i.natAbs < 2 ^ 200
structure Bnd (r : LineR) : Prop where
  a : Sz2 r.1
  b : Sz2 r.2.1
  c : Sz2 r.2.2
theorem sz2 {i : Int} (h1 : -1000000000000 < i) (h2 : i < 1000000000000) : Sz2 i := by
  have h : (1000000000000 : Nat) < 2 ^ 200 := by decide +kernel
  unfold Sz2
  omega
theorem bnd {a b c : Int} (a1 : -1000000000000 < a) (a2 : a < 1000000000000) (b1 : -1000000000000 < b) (b2 : b < 1000000000000) (c1 : -1000000000000 < c) (c2 : c < 1000000000000) : Bnd (a, b, c) := ⟨sz2 a1 a2, sz2 b1 b2, sz2 c1 c2⟩
/-- one more row at the list's end: a new tuple at p -/
theorem push_row {K : PySem.W.Frag} {H : Hp} {l p : Addr} {vs : List V} {rs : List LineR} {a b c : Int} (hl : H l = some (.lst vs)) (hv : RowsV K H vs rs) (np : H p = none) :
    RowsAt K (upd (upd H p (.tup [.int a, .int b, .int c])) l (.lst (vs ++ [.ref p]))) l (rs ++ [(a, b, c)]) := by
  have s1 : Same H (upd H p (.tup [.int a, .int b, .int c])) := same_upd np
  have hl1 := s1 _ _ hl
  refine ⟨_, upd_same, ?_⟩
  refine ((hv.same s1).keep (Keep.upd l _ _) hl1).app (.cons (RowV.keep (Keep.upd l _ _) hl1 ⟨p, rfl, ?_⟩) .nil)
  exact .inl (.inl upd_same)
/-- a list of rows in the making: made behind H, at l -/
structure Acc (K : PySem.W.Frag) (H : Hp) (d s : Addr) (ns : List Int) (l : Addr) (H' : Hp) (rs : List LineR) : Prop where
  new : H l = none
  ne : l ≠ d
  rows : RowsAt K H' l rs
  kp : Keep d H H'
  dr : DrawAt K H' d s ns
  sc : SqL K H s (ns.map V.int)
section
variable {K : PySem.W.Frag} {H H' H2 : Hp} {d s l p : Addr} {ns : List Int} {rs : List LineR}
theorem Acc.start (D0 : DrawAt K H d s ns) (k : Keep d H H') (D : DrawAt K H' d s ns) (n : H' l = none) : Acc K H d s ns l (upd H' l (.lst [])) [] := by
  obtain ⟨zs, hd⟩ := D.lst
  refine ⟨k.free hd n, fun z => ?_, ⟨[], upd_same, .nil⟩, k.trans (Keep.of (same_upd n)), D.same (same_upd n), let ⟨_, _, h, _⟩ := D0; h⟩
  rw [z, hd] at n
  cases n
theorem Acc.of {vs : List V} (D0 : DrawAt K H d s ns) (k : Keep d H H') (D : DrawAt K H' d s ns) (n : H' l = none) (hv : RowsV K H' vs rs) : Acc K H d s ns l (upd H' l (.lst vs)) rs := by
  obtain ⟨zs, hd⟩ := D.lst
  refine ⟨k.free hd n, fun z => ?_, ⟨vs, upd_same, hv.same (same_upd n)⟩, k.trans (Keep.of (same_upd n)), D.same (same_upd n), let ⟨_, _, h, _⟩ := D0; h⟩
  rw [z, hd] at n
  cases n
theorem rowV_new {a b c : Int} : RowV K (upd H p (.tup [.int a, .int b, .int c])) (.ref p) (a, b, c) := ⟨p, rfl, .inl (.inl upd_same)⟩
theorem Acc.keep (A : Acc K H d s ns l H' rs) (k : Keep d H' H2) (D : DrawAt K H2 d s ns) : Acc K H d s ns l H2 rs := by
  obtain ⟨zs, hd⟩ := A.dr.lst
  obtain ⟨vs, h1, h2⟩ := A.rows
  exact ⟨A.new, A.ne, ⟨vs, k _ _ A.ne h1, h2.keep k hd⟩, A.kp.trans k, D, A.sc⟩
theorem Acc.push {a b c : Int} {vs : List V} (A : Acc K H d s ns l H' rs) (hl : H' l = some (.lst vs)) (np : H' p = none) :
    Acc K H d s ns l (upd (upd H' p (.tup [.int a, .int b, .int c])) l (.lst (vs ++ [.ref p]))) (rs ++ [(a, b, c)]) := by
  obtain ⟨ws, h1, h2⟩ := A.rows
  have e : ws = vs := by
    rw [h1] at hl
    cases hl
    rfl
  subst e
  have s1 : Same H' (upd H' p (.tup [.int a, .int b, .int c])) := same_upd np
  refine ⟨A.new, A.ne, push_row h1 h2 np, fun b' o n e => ?_, ?_, A.sc⟩
  · rw [upd_ne (ne_of_none e A.new)]
    exact s1 _ _ (A.kp _ _ n e)
  · obtain ⟨k, g1, g2, g3⟩ := A.dr
    have g1' := s1 _ _ g1
    refine ⟨k, ?_, ?_, g3⟩
    · rw [upd_ne (Ne.symm A.ne)]
      exact g1'
    · rcases A.sc with h | h
      · have nsl : s ≠ l := fun z => by
          rw [z] at h
          rcases h with h | ⟨o, h⟩ <;> rw [A.new] at h <;> cases h
        exact (Keep.upd l _ _).seq nsl (s1.seq g2)
      · exact .inr h
end
theorem tYes_in {A B : Hp → Prop} {σ : L2.St} {H : Hp} (h : A H) : tYes σ H (fun b H3 => if b = true then A H3 else B H3) := by
  show if true = true then A H else B H
  rw [if_pos rfl]
  exact h
end My
namespace K01
open PySem PySem.Spec PyProof.Rows L2 My
/-! ### the text -/
def topS (i : Nat) : Stmt := PySem.Challenge.pw_pointorstrip_k01_regions.main.body.getD i (.Pass ⟨0, 0, 0, 0⟩)
abbrev s_is_number : Stmt := topS 4
theorem sc_is_number : FnScope ["value"] ["value"] (defScope s_is_number) := ⟨rfl, rfl, rfl, by decide +kernel, rfl, by decide +kernel, by decide +kernel⟩
abbrev s_is_line_row : Stmt := topS 6
theorem sc_is_line_row : FnScope ["row"] ["row"] (defScope s_is_line_row) := ⟨rfl, rfl, rfl, by decide +kernel, rfl, by decide +kernel, by decide +kernel⟩
abbrev s_line_rows : Stmt := topS 7
theorem sc_line_rows : FnScope ["rows", "number", "row"] ["rows"] (defScope s_line_rows) := ⟨rfl, rfl, rfl, by decide +kernel, rfl, by decide +kernel, by decide +kernel⟩
abbrev s_Region___init__ : Stmt := inClass (topS 8) 0
theorem sc_Region___init__ : FnScope ["self", "rows"] ["self", "rows"] (defScope s_Region___init__) := ⟨rfl, rfl, rfl, by decide +kernel, rfl, by decide +kernel, by decide +kernel⟩
abbrev s_Region___eq__ : Stmt := inClass (topS 8) 1
theorem sc_Region___eq__ : FnScope ["self", "other"] ["self", "other"] (defScope s_Region___eq__) := ⟨rfl, rfl, rfl, by decide +kernel, rfl, by decide +kernel, by decide +kernel⟩
abbrev s_Region_has : Stmt := inClass (topS 8) 2
theorem sc_Region_has : FnScope ["self", "x", "y", "a", "b", "c"] ["self", "x", "y"] (defScope s_Region_has) := ⟨rfl, rfl, rfl, by decide +kernel, rfl, by decide +kernel, by decide +kernel⟩
abbrev s_Region_with_rows : Stmt := inClass (topS 8) 3
theorem sc_Region_with_rows : FnScope ["self", "rows"] ["self", "rows"] (defScope s_Region_with_rows) := ⟨rfl, rfl, rfl, by decide +kernel, rfl, by decide +kernel, by decide +kernel⟩
abbrev s__law_number : Stmt := topS 10
theorem sc__law_number : FnScope ["script", "index", "cell", "turn", "rest", "step", "blend"] ["script", "index"] (defScope s__law_number) := ⟨rfl, rfl, rfl, by decide +kernel, rfl, by decide +kernel, by decide +kernel⟩
abbrev s__law_take : Stmt := topS 11
theorem sc__law_take : FnScope ["draw", "many"] ["draw", "many"] (defScope s__law_take) := ⟨rfl, rfl, rfl, by decide +kernel, rfl, by decide +kernel, by decide +kernel⟩
abbrev s__law_pick : Stmt := topS 12
theorem sc__law_pick : FnScope ["draw", "items"] ["draw", "items"] (defScope s__law_pick) := ⟨rfl, rfl, rfl, by decide +kernel, rfl, by decide +kernel, by decide +kernel⟩
abbrev s__law_long : Stmt := topS 13
theorem sc__law_long : FnScope ["draw", "figures", "found", "turn"] ["draw", "figures"] (defScope s__law_long) := ⟨rfl, rfl, rfl, by decide +kernel, rfl, by decide +kernel, by decide +kernel⟩
abbrev s__law_turned : Stmt := topS 14
theorem sc__law_turned : FnScope ["row", "turn", "a", "b", "c", "d"] ["row", "turn"] (defScope s__law_turned) := ⟨rfl, rfl, rfl, by decide +kernel, rfl, by decide +kernel, by decide +kernel⟩
abbrev s__law_turn : Stmt := topS 15
theorem sc__law_turn : FnScope ["draw", "a", "b", "c", "d", "step", "times"] ["draw"] (defScope s__law_turn) := ⟨rfl, rfl, rfl, by decide +kernel, rfl, by decide +kernel, by decide +kernel⟩
abbrev s__law_small_rows : Stmt := topS 16
theorem sc__law_small_rows : FnScope ["draw", "turn"] ["draw"] (defScope s__law_small_rows) := ⟨rfl, rfl, rfl, by decide +kernel, rfl, by decide +kernel, by decide +kernel⟩
abbrev s__law_band_rows : Stmt := topS 17
theorem sc__law_band_rows : FnScope ["draw", "m", "at", "low", "high", "rows"] ["draw"] (defScope s__law_band_rows) := ⟨rfl, rfl, rfl, by decide +kernel, rfl, by decide +kernel, by decide +kernel⟩
abbrev s__law_cell_rows : Stmt := topS 18
theorem sc__law_cell_rows : FnScope ["draw", "q", "p", "r", "wide", "rows", "turn", "a", "b"] ["draw"] (defScope s__law_cell_rows) := ⟨rfl, rfl, rfl, by decide +kernel, rfl, by decide +kernel, by decide +kernel⟩
abbrev s__law_line_rows : Stmt := topS 19
theorem sc__law_line_rows : FnScope ["draw", "a", "b", "c", "rows", "turn"] ["draw"] (defScope s__law_line_rows) := ⟨rfl, rfl, rfl, by decide +kernel, rfl, by decide +kernel, by decide +kernel⟩
abbrev s__law_long_rows : Stmt := topS 20
theorem sc__law_long_rows : FnScope ["draw", "turn"] ["draw"] (defScope s__law_long_rows) := ⟨rfl, rfl, rfl, by decide +kernel, rfl, by decide +kernel, by decide +kernel⟩
abbrev s__law_rows : Stmt := topS 21
theorem sc__law_rows : FnScope ["draw", "kind", "rows", "turn", "at", "row"] ["draw"] (defScope s__law_rows) := ⟨rfl, rfl, rfl, by decide +kernel, rfl, by decide +kernel, by decide +kernel⟩
abbrev s__law_refused : Stmt := topS 22
theorem sc__law_refused : FnScope ["rows", "fault"] ["rows"] (defScope s__law_refused) := ⟨rfl, rfl, rfl, by decide +kernel, rfl, by decide +kernel, by decide +kernel⟩
abbrev s_law : Stmt := topS 23
theorem sc_law : FnScope ["script", "draw", "rows", "late", "given", "region", "other", "turn", "x", "y", "row", "a", "b", "c", "edge", "at", "bad", "one"] ["script"] (defScope s_law) := ⟨rfl, rfl, rfl, by decide +kernel, rfl, by decide +kernel, by decide +kernel⟩
/-- the built-in names that are still built-in -/
structure Nm (mg : Str → Option Value) : Prop where
  len : mg "len" = none
  range : mg "range" = none
  int : mg "int" = none
  bool : mg "bool" = none
  isinstance : mg "isinstance" = none
  tuple : mg "tuple" = none
  list : mg "list" = none
  enumerate : mg "enumerate" = none
  all : mg "all" = none
  valueError : mg "ValueError" = none
end K01
namespace K01
open PySem PySem.Spec PyProof.Rows L2 My
local macro_rules | `(tactic| walk_at "side") => `(tactic| (first
  | assumption
  | (refine OkMod.mk ?_; omega)
  | (refine mulOkL ?_ ?_ <;> omega)
  | (refine mulOkR ?_ ?_ <;> omega)
  | (refine divOk ?_ ?_ <;> omega)))
local macro_rules | `(tactic| walk_at "rd") => `(tactic| (first
  | with_reducible refine ⟨_, rfl, ?_⟩
  | refine ⟨_, rfl, ?_⟩
  | refine ⟨_, _, rfl, rfl, ?_⟩
  | refine And.intro (by walk_at "side") ?_
  | refine ⟨_, _, rfl, asm (by assumption), ?_⟩
  | refine ⟨_, _, rfl, asm ?_⟩))
section
variable {P : Program} {w : World} {K : PySem.W.Frag} {mg : Str → Option Value} {base : Heap}
/-! ### the draws -/
def spNumber (K : PySem.W.Frag) : Sp := fun vs H Q _ => ∃ (s : Addr) (i : Int) (ns : List Int), vs = [.ref s, .int i] ∧ SqL K H s (ns.map V.int) ∧ ns.length ≤ 63 ∧ ∀ (v : Int) H', Same H H' → Q (.int v) H'
theorem dpAll_ints {K : PySem.W.Frag} {H : Hp} : ∀ ns : List Int, DpAll K H (ns.map V.int) (ns.map PyData.int)
  | [] => .nil
  | n :: r => .cons (.int n) (dpAll_ints r)
theorem atI_mod {ns : List Int} (i : Int) (h : 0 < ns.length) : ∃ c : Int, atI (ns.map V.int) (i % ((ns.map V.int).length : Int)) = some (.int c) := by
  rw [List.length_map]
  have h0 := Int.emod_nonneg i (show ((ns.length : Nat) : Int) ≠ 0 by omega)
  have h1 := Int.emod_lt_of_pos i (show (0 : Int) < ((ns.length : Nat) : Int) by omega)
  generalize i % ((ns.length : Nat) : Int) = k at h0 h1
  obtain ⟨j, rfl⟩ := Int.eq_ofNat_of_zero_le h0
  have hj : j < ns.length := by omega
  refine ⟨ns[j], atI_nat ?_⟩
  rw [List.getElem?_map, List.getElem?_eq_getElem hj]
  rfl
theorem ok__law_number {f : Addr} {fd : FuncData} (T : Nm mg) (F : Fun K "_law_number" "_law_number" s__law_number f fd) : FnOk P w K mg base CX0 1 f fd ["script", "index"] (spNumber K) := by
  refine F.ok sc__law_number (fun vs H Q E h => ?_) (fun cdv A outer s H vs Q E hr h => ?_)
  · obtain ⟨s, i, ns, rfl, _⟩ := h
    rfl
  · obtain ⟨a, i, ns, rfl, hS, hl, q⟩ := h
    refine ⟨_, (pss_cons (ps_asg (pe_ifExp (pt_cmpR (op_neD hr.units) (pv 0) (pe_lst pa_nil) (nomark _)) (pe_tup (pa_cons (pe_ix ix_list (pv 0) (pe_op op_modA (pv 1) (pe_callB call_lenL (by rfl) T.len (by decide +kernel) (pa_cons (pv 0) pa_nil))) (fun _ _ => rfl)) (pa_cons (pe_op op_fdivA (pv 1) (pe_callB call_lenL (by rfl) T.len (by decide +kernel) (pa_cons (pv 0) pa_nil))) pa_nil))) (pe_tup (pa_cons pe_int (pa_cons pe_int pa_nil)))) (pg_tup rfl (pgs_cons (pg_name (i := 2) sc__law_number.nd rfl (Or.inl rfl)) (pgs_cons (pg_name (i := 3) sc__law_number.nd rfl (Or.inl rfl)) pgs_nil))))
    (pss_cons (ps_set (i := 4) sc__law_number.nd rfl (Or.inl rfl) (pe_ifExp (pt_cmpR op_lt (pv 3) pe_int (nomark _)) (pe_op op_sub (pv 2) (pe_op op_pow pe_int pe_int)) pe_int))
    (pss_cons (ps_for PassesOwn.never rfl (pi_range1 rfl T.range (pa_cons (pe_op op_modA (pe_callTy call_intI (by rfl) T.int (by decide +kernel) (pa_cons (pv 3) pa_nil)) pe_int) pa_nil)) (pg_name (i := 5) sc__law_number.nd rfl (Or.inl rfl))
      (pss_one (ps_set (i := 4) sc__law_number.nd rfl (Or.inl rfl) (pe_op op_fdivA (pv 4) pe_int))))
    (pss_cons (ps_if (pt_cmpR op_gt (pv 4) pe_int (nomark _))
      (pss_one (ps_ret (pe_op op_modA (pe_callTy call_intI (by rfl) T.int (by decide +kernel) (pa_cons (pv 4) pa_nil)) pe_int)))
      pss_nil)
    (pss_cons (ps_set (i := 6) sc__law_number.nd rfl (Or.inl rfl) (pe_op op_modA (pe_op op_add (pe_op op_mulA (pe_callTy call_intI (by rfl) T.int (by decide +kernel) (pa_cons (pe_op op_add (pv 2) (pe_op op_mulA pe_int (pv 1))) pa_nil)) pe_int) (pe_op op_mulA pe_int (pe_callB call_lenL (by rfl) T.len (by decide +kernel) (pa_cons (pv 0) pa_nil)))) pe_int))
    (pss_cons (ps_set (i := 6) sc__law_number.nd rfl (Or.inl rfl) (pe_op op_modA (pe_op op_add (pe_op op_mulA (pv 6) (pv 6)) (pe_op op_mulA pe_int (pv 1))) pe_int))
    (pss_one (ps_ret (pe_callTy call_intI (by rfl) T.int (by decide +kernel) (pa_cons (pe_op op_modA (pe_op op_add (pe_op op_mulA (pv 6) pe_int) (pe_op op_fdivA (pv 6) pe_int)) pe_int) pa_nil)))))))))), ?_⟩
    refine tIf_via (fun v H1 => ∃ p, ∃ c t : Int, v = .ref p ∧ Same H H1 ∧ H1 p = some (.tup [.int c, .int t])) (fun Q' h' => ?_) ?_
    · replace h' : ∀ p (c t : Int) H1, Same H H1 → H1 p = some (.tup [.int c, .int t]) → Q' (.ref p) H1 := fun p c t H1 a b => h' _ _ ⟨p, c, t, rfl, a, b⟩
      refine ⟨_, rfl, Nat.zero_le _, fun p np => ?_⟩
      have s1 : Same H (upd H p (.lst [])) := same_upd np
      have hS1 := s1.seq hS
      refine ⟨.list (ns.map PyData.int), .list [], .lst hS1 (dpAll_ints ns), .lst (.inl (.inl upd_same)) .nil, PySem.W.ke_shaped_ints ns, rfl, _, rfl, ?_⟩
      by_cases hn : ns = []
      · subst hn
        refine iteF ?_
        refine ⟨by show 2 ≤ sizeLine; decide, fun t nt => h' t _ _ _ (s1.trans (same_upd nt)) upd_same⟩
      · have e : (PyData.list (ns.map PyData.int)).eqv (PyData.list []) = false := by
          cases ns with
          | nil => exact absurd rfl hn
          | cons n r => rfl
        rw [e]
        refine iteT ?_
        have l0 : 0 < ns.length := List.length_pos_iff.mpr hn
        have l1 : (0 : Int) < ((ns.map V.int).length : Int) := by
          rw [List.length_map]
          omega
        have l2 : OkDiv i ((ns.map V.int).length : Int) := divOk l1 (by rw [List.length_map]; omega)
        obtain ⟨c, hc⟩ := atI_mod i l0
        have l3 : OkMod i ((ns.map V.int).length : Int) := ⟨l1⟩
        repeat (walk_at "rd")
        refine ⟨_, _, _, _, rfl, rfl, hS1, hc, ?_⟩
        repeat (walk_at "rd")
        exact ⟨by show 2 ≤ sizeLine; decide, fun t nt => h' t _ _ _ (s1.trans (same_upd nt)) upd_same⟩
    rintro _ H1 ⟨p, c, t, rfl, s1, hp⟩
    have hS1 := s1.seq hS
    refine ⟨p, _, rfl, .inl (.inl hp), rfl, _, _, rfl, _, _, rfl, rfl, ?_⟩
    -- rest = cell - 10 ** 18 if turn < 60 else 0
    dsimp only
    refine sIf_via (fun v H' => ∃ r : Int, v = .int r ∧ H1 = H') (fun Q' h' => ?_) ?_
    · replace h' : ∀ r : Int, Q' (.int r) H1 := fun r => h' _ _ ⟨r, rfl, rfl⟩
      refine ⟨_, rfl, _, _, rfl, rfl, _, rfl, ite2 (fun _ => ?_) (fun _ => h' 0)⟩
      exact ⟨_, rfl, _, _, rfl, rfl, ⟨by decide, by decide, by decide⟩, _, _, rfl, rfl, h' _⟩
    -- the loop
    rintro _ _ ⟨r, rfl, rfl⟩
    have c60 : OkMod t 60 := ⟨by omega⟩
    have t0 := Int.emod_nonneg t (show (60 : Int) ≠ 0 by decide)
    have t1 := Int.emod_lt_of_pos t (show (0 : Int) < 60 by decide)
    repeat (walk_at "rd")
    refine ⟨(by omega), (by omega), for_range (n := (t % 60).toNat) (fun i' σ H' => ∃ (r : Int), ∃ y, σ = [some (.ref a), some (.int i), some (.int c), some (.int t), some (.int r), y, none] ∧ H' = H1) ⟨r, none, rfl, rfl⟩ ?_ ?_⟩
    · rintro j σ H' hj ⟨r, y, rfl, rfl⟩
      have d : OkDiv r 1009 := divOk (by omega) (by omega)
      repeat (walk_at "rd")
      rfl
    rintro σ H' ⟨r, y, rfl, rfl⟩
    have c9 : OkMod r 1009 := ⟨by omega⟩
    refine ⟨_, rfl, _, _, rfl, rfl, _, rfl, ite2 (fun _ => ?_) (fun _ => ?_)⟩
    · repeat (walk_at "rd")
      exact q _ _ s1
    repeat (walk_at "rd")
    exact q _ _ s1
def spTake (K : PySem.W.Frag) : Sp := fun vs H Q _ => ∃ (d s : Addr) (m : Int) (ns : List Int), vs = [.ref d, .int m] ∧ DrawAt K H d s ns ∧ 0 < m ∧ ∀ (r : Int) H', 0 ≤ r → r < m → Keep d H H' → DrawAt K H' d s ns → Q (.int r) H'
theorem ok__law_take {f f1 : Addr} {fd fd1 : FuncData} (T : Nm mg) (C__law_number : Has P w K mg base "_law_number" 1 ["script", "index"] (spNumber K) f1 fd1) (F : Fun K "_law_take" "_law_take" s__law_take f fd) : FnOk P w K mg base CX0 2 f fd ["draw", "many"] (spTake K) := by
  refine F.ok sc__law_take (fun vs H Q E h => ?_) (fun cdv A outer s H vs Q E hr h => ?_)
  · obtain ⟨d, s, m, ns, rfl, _⟩ := h
    rfl
  · obtain ⟨d, s, m, ns, rfl, hD, hm, q⟩ := h
    obtain ⟨k, h1, h3, h4⟩ := id hD
    refine ⟨_, (pss_cons (ps_augS (pv 0) pe_int pget_list pe_int ip_add set_list)
    (pss_one (ps_ret (pe_op op_modA (pe_callTy call_intI (by rfl) T.int (by decide +kernel) (pa_cons (pe_call C__law_number.G (hr.mono (by decide)) (by rfl) C__law_number.g C__law_number.k C__law_number.b .nil pass0 (pa_cons (pe_ix ix_list (pv 0) pe_int (fun _ _ => rfl)) (pa_cons (pe_callTy call_intI (by rfl) T.int (by decide +kernel) (pa_cons (pe_ix ix_list (pv 0) pe_int (fun _ _ => rfl)) pa_nil)) pa_nil))) pa_nil)) (pv 1))))), ?_⟩
    refine ⟨_, rfl, d, _, _, _, rfl, rfl, .inl (.inl h1), rfl, _, _, rfl, rfl, d, _, _, 1, rfl, rfl, h1, rfl, ?_⟩
    have D1 : DrawAt K (upd H d (.lst [.ref s, .int (k + 1)])) d s ns := hD.set
    have K1 : Keep d H (upd H d (.lst [.ref s, .int (k + 1)])) := Keep.upd d H _
    refine ⟨_, rfl, d, _, _, _, rfl, rfl, .inl (.inl upd_same), rfl, _, rfl, d, _, _, _, rfl, rfl, .inl (.inl upd_same), rfl, _, rfl, ?_⟩
    refine ⟨s, k + 1, ns, rfl, K1.seqS h1 h3, h4, fun v H' sm => ?_⟩
    refine ⟨_, rfl, _, rfl, _, _, rfl, rfl, ⟨hm⟩, ?_⟩
    exact q _ _ (Int.emod_nonneg _ (by omega)) (Int.emod_lt_of_pos _ hm) (K1.trans (Keep.of sm)) (D1.same sm)
def spPick (K : PySem.W.Frag) : Sp := fun vs H Q _ => ∃ (d s l : Addr) (ns : List Int) (xs : List V), vs = [.ref d, .ref l] ∧ DrawAt K H d s ns ∧ l ≠ d ∧ SqL K H l xs ∧ 0 < xs.length ∧ ∀ v H', v ∈ xs → Keep d H H' → DrawAt K H' d s ns → Q v H'
theorem atI_in {α : Type} {xs : List α} {r : Int} (h0 : 0 ≤ r) (h1 : r < xs.length) : ∃ v, atI xs r = some v ∧ v ∈ xs := by
  obtain ⟨j, rfl⟩ := Int.eq_ofNat_of_zero_le h0
  have hj : j < xs.length := by omega
  exact ⟨xs[j], atI_nat (List.getElem?_eq_getElem hj), List.getElem_mem hj⟩
theorem ok__law_pick {f f1 : Addr} {fd fd1 : FuncData} (T : Nm mg) (C__law_take : Has P w K mg base "_law_take" 2 ["draw", "many"] (spTake K) f1 fd1) (F : Fun K "_law_pick" "_law_pick" s__law_pick f fd) : FnOk P w K mg base CX0 3 f fd ["draw", "items"] (spPick K) := by
  refine F.ok sc__law_pick (fun vs H Q E h => ?_) (fun cdv A outer s H vs Q E hr h => ?_)
  · obtain ⟨d, s, l, ns, xs, rfl, _⟩ := h
    rfl
  · obtain ⟨d, s, l, ns, xs, rfl, hD, hl, hX, h0, q⟩ := h
    refine ⟨_, (pss_one (ps_ret (pe_ix ix_list (pv 1) (pe_call C__law_take.G (hr.mono (by decide)) (by rfl) C__law_take.g C__law_take.k C__law_take.b .nil pass0 (pa_cons (pv 0) (pa_cons (pe_callB call_lenL (by rfl) T.len (by decide +kernel) (pa_cons (pv 1) pa_nil)) pa_nil))) (fun _ _ => rfl)))), ?_⟩
    refine ⟨_, rfl, _, rfl, _, rfl, l, xs, rfl, hX, ?_⟩
    refine ⟨d, s, _, ns, rfl, hD, by omega, fun r H' r0 r1 kp D' => ?_⟩
    obtain ⟨v, hv, hm⟩ := atI_in r0 r1
    exact ⟨l, xs, r, v, rfl, rfl, kp.seq hl hX, hv, q v H' hm kp D'⟩
def spLong (K : PySem.W.Frag) : Sp := fun vs H Q _ => ∃ (d s : Addr) (n : Int) (ns : List Int), vs = [.ref d, .int n] ∧ DrawAt K H d s ns ∧ 0 ≤ n ∧ n ≤ 1000 ∧ ∀ (r : Int) H', r.natAbs < 10 ^ n.toNat → Keep d H H' → DrawAt K H' d s ns → Q (.int r) H'
theorem ok__law_long {f f1 : Addr} {fd fd1 : FuncData} (T : Nm mg) (C__law_take : Has P w K mg base "_law_take" 2 ["draw", "many"] (spTake K) f1 fd1) (F : Fun K "_law_long" "_law_long" s__law_long f fd) : FnOk P w K mg base CX0 3 f fd ["draw", "figures"] (spLong K) := by
  refine F.ok sc__law_long (fun vs H Q E h => ?_) (fun cdv A outer s H vs Q E hr h => ?_)
  · obtain ⟨d, s, n, ns, rfl, _⟩ := h
    rfl
  · obtain ⟨d, s, n, ns, rfl, hD, n0, n1, q⟩ := h
    refine ⟨_, (pss_cons (ps_set (i := 2) sc__law_long.nd rfl (Or.inl rfl) pe_int)
    (pss_cons (ps_for PassesOwn.never rfl (pi_range1 rfl T.range (pa_cons (pe_call C__law_take.G (hr.mono (by decide)) (by rfl) C__law_take.g C__law_take.k C__law_take.b .nil pass0 (pa_cons (pv 0) (pa_cons (pe_op op_add (pv 1) pe_int) pa_nil))) pa_nil)) (pg_name (i := 3) sc__law_long.nd rfl (Or.inl rfl))
      (pss_one (ps_set (i := 2) sc__law_long.nd rfl (Or.inl rfl) (pe_op op_add (pe_op op_mulA pe_int (pv 2)) (pe_call C__law_take.G (hr.mono (by decide)) (by rfl) C__law_take.g C__law_take.k C__law_take.b .nil pass0 (pa_cons (pv 0) (pa_cons pe_int pa_nil)))))))
    (pss_one (ps_ret (pe_ifExp (pt_cmpR op_eq (pe_call C__law_take.G (hr.mono (by decide)) (by rfl) C__law_take.g C__law_take.k C__law_take.b .nil pass0 (pa_cons (pv 0) (pa_cons pe_int pa_nil))) pe_int (nomark _)) (pv 2) (pe_op op_sub pe_int (pv 2))))))), ?_⟩
    refine ⟨_, rfl, _, rfl, _, _, rfl, rfl, d, s, n + 1, ns, rfl, hD, by omega, fun many H1 m0 m1 K1 D1 => ?_⟩
    refine ⟨_, rfl, by omega, by omega, for_range (n := many.toNat) (fun i σ H' => ∃ (r : Int), ∃ y, σ = [some (.ref d), some (.int n), some (.int r), y] ∧ 0 ≤ r ∧ r.natAbs < 10 ^ i ∧ Keep d H H' ∧ DrawAt K H' d s ns) ⟨0, none, rfl, by omega, by decide, K1, D1⟩ ?_ ?_⟩
    · rintro i σ H2 hi ⟨r, y, rfl, r0, rb, K2, D2⟩
      refine ⟨_, rfl, _, _, rfl, rfl, mulOkL (by omega) (by omega), _, rfl, d, s, 10, ns, rfl, D2, by omega, fun c H3 c0 c1 K3 D3 => ?_⟩
      refine ⟨_, _, rfl, rfl, 10 * r + c, _, rfl, by omega, ?_, K2.trans K3, D3⟩
      rw [Nat.pow_succ]
      omega
    · rintro σ H2 ⟨r, y, rfl, r0, rb, K2, D2⟩
      refine ⟨_, rfl, d, s, 2, ns, rfl, D2, by omega, fun c H3 c0 c1 K3 D3 => ?_⟩
      have hb : r.natAbs < 10 ^ n.toNat := Nat.lt_of_lt_of_le rb (Nat.pow_le_pow_right (by omega) (by omega))
      refine ⟨rfl, _, rfl, ite2 (fun _ => ?_) (fun _ => ?_)⟩
      · exact ⟨_, rfl, q _ _ hb (K2.trans K3) D3⟩
      · exact ⟨_, rfl, _, _, rfl, rfl, q _ _ (by omega) (K2.trans K3) D3⟩
end
end K01
namespace K01
open PySem PySem.Spec PyProof.Rows L2 My
local macro_rules | `(tactic| walk_at "side") => `(tactic| (first
  | assumption
  | (refine OkMod.mk ?_; omega)
  | (refine mulOkL ?_ ?_ <;> omega)
  | (refine mulOkR ?_ ?_ <;> omega)
  | (refine divOk ?_ ?_ <;> omega)))
local macro_rules | `(tactic| walk_at "rd") => `(tactic| (first
  | with_reducible refine ⟨_, rfl, ?_⟩
  | refine ⟨_, rfl, ?_⟩
  | refine ⟨_, _, rfl, rfl, ?_⟩
  | refine And.intro (by walk_at "side") ?_
  | refine ⟨_, _, rfl, asm (by assumption), ?_⟩
  | refine ⟨_, _, rfl, asm ?_⟩))
section
variable {P : Program} {w : World} {K : PySem.W.Frag} {mg : Str → Option Value} {base : Heap}
local macro_rules | `(tactic| walk_at "tk") => `(tactic| refine ⟨_, _, _, _, rfl, asm (by assumption), asm (by omega), fun _ _ _ _ _ _ => ?_⟩)
local macro_rules | `(tactic| walk_at "go") => `(tactic| repeat (first | walk_at "rd" | walk_at "tk"))
/-! ### the drawn rows -/
/-- numbers of at most twelve figures -/
structure BndS (r : LineR) : Prop where
  a1 : -1000000000000 < r.1
  a2 : r.1 < 1000000000000
  b1 : -1000000000000 < r.2.1
  b2 : r.2.1 < 1000000000000
  c1 : -1000000000000 < r.2.2
  c2 : r.2.2 < 1000000000000
theorem BndS.up {r : LineR} (h : BndS r) : Bnd r := ⟨sz2 h.a1 h.a2, sz2 h.b1 h.b2, sz2 h.c1 h.c2⟩
/-- the promise: a new list of rows -/
def spRows (K : PySem.W.Frag) (B : LineR → Prop) (n : Nat) : Sp := fun vs H Q _ => ∃ (d s : Addr) (ns : List Int), vs = [.ref d] ∧ DrawAt K H d s ns ∧
  ∀ (l : Addr) (rs : List LineR) H', H l = none → RowsAt K H' l rs → (∀ r ∈ rs, B r) → rs.length ≤ n → Keep d H H' → DrawAt K H' d s ns → Q (.ref l) H'
/-- the promise of a turn -/
def spTurn (K : PySem.W.Frag) : Sp := fun vs H Q _ => ∃ (d s : Addr) (ns : List Int), vs = [.ref d] ∧ DrawAt K H d s ns ∧
  ∀ (t : Addr) (a b c e : Int) H', H' t = some (.tup [.int a, .int b, .int c, .int e]) → a.natAbs ≤ 1048576 → b.natAbs ≤ 1048576 → c.natAbs ≤ 1048576 → e.natAbs ≤ 1048576 → Keep d H H' → DrawAt K H' d s ns → Q (.ref t) H'
def spTurned (K : PySem.W.Frag) : Sp := fun vs H Q _ => ∃ (v : V) (t : Addr) (r : LineR) (a b c e : Int), vs = [v, .ref t] ∧ RowV K H v r ∧ SqT K H t [.int a, .int b, .int c, .int e] ∧ BndS r ∧ a.natAbs ≤ 1048576 ∧ b.natAbs ≤ 1048576 ∧ c.natAbs ≤ 1048576 ∧ e.natAbs ≤ 1048576 ∧
  ∀ p H', Same H H' → H p = none → RowV K H' (.ref p) (r.1 * a + r.2.1 * c, r.1 * b + r.2.1 * e, r.2.2) → Q (.ref p) H'
theorem ok__law_turned {f : Addr} {fd : FuncData} (T : Nm mg) (F : Fun K "_law_turned" "_law_turned" s__law_turned f fd) : FnOk P w K mg base CX0 1 f fd ["row", "turn"] (spTurned K) := by
  refine F.ok sc__law_turned (fun vs H Q E h => ?_) (fun cdv A outer s H vs Q E hr h => ?_)
  · obtain ⟨v, t, r, a, b, c, e, rfl, _⟩ := h
    rfl
  · obtain ⟨v, t, ⟨x, y, z⟩, a, b, c, e, rfl, ⟨u, rfl, hu⟩, ht, hb, ha, hb', hc, he, q⟩ := h
    obtain ⟨a1, a2, b1, b2, c1, c2⟩ := hb
    dsimp only at a1 a2 b1 b2 c1 c2 hu
    refine ⟨_, (pss_cons (ps_asg (pv 1) (pg_tup rfl (pgs_cons (pg_name (i := 2) sc__law_turned.nd rfl (Or.inl rfl)) (pgs_cons (pg_name (i := 3) sc__law_turned.nd rfl (Or.inl rfl)) (pgs_cons (pg_name (i := 4) sc__law_turned.nd rfl (Or.inl rfl)) (pgs_cons (pg_name (i := 5) sc__law_turned.nd rfl (Or.inl rfl)) pgs_nil))))))
    (pss_one (ps_ret (pe_tup (pa_cons (pe_op op_add (pe_op op_mulA (pe_ix ix_tup (pv 0) pe_int (fun _ _ => rfl)) (pv 2)) (pe_op op_mulA (pe_ix ix_tup (pv 0) pe_int (fun _ _ => rfl)) (pv 4))) (pa_cons (pe_op op_add (pe_op op_mulA (pe_ix ix_tup (pv 0) pe_int (fun _ _ => rfl)) (pv 3)) (pe_op op_mulA (pe_ix ix_tup (pv 0) pe_int (fun _ _ => rfl)) (pv 5))) (pa_cons (pe_ix ix_tup (pv 0) pe_int (fun _ _ => rfl)) pa_nil))))))), ?_⟩
    refine ⟨_, rfl, t, _, rfl, ht, rfl, _, _, rfl, _, _, rfl, _, _, rfl, _, _, rfl, rfl, ?_⟩
    walk_at "go"
    refine ⟨u, _, _, _, rfl, rfl, hu, rfl, ?_⟩
    walk_at "go"
    refine ⟨u, _, _, _, rfl, rfl, hu, rfl, ?_⟩
    walk_at "go"
    refine ⟨u, _, _, _, rfl, rfl, hu, rfl, ?_⟩
    walk_at "go"
    refine ⟨u, _, _, _, rfl, rfl, hu, rfl, ?_⟩
    walk_at "go"
    refine ⟨u, _, _, _, rfl, rfl, hu, rfl, ?_⟩
    refine ⟨by show 3 ≤ sizeLine; decide, fun p np => q p _ (same_upd np) np ⟨p, rfl, .inl (.inl upd_same)⟩⟩
theorem abs_step {t c : Int} {M : Nat} (ht : t.natAbs ≤ 15) (hc : c.natAbs ≤ M) : (t * c).natAbs ≤ 15 * M := by
  rw [Int.natAbs_mul]
  exact Nat.mul_le_mul ht hc
theorem ok__law_turn {f f1 : Addr} {fd fd1 : FuncData} (T : Nm mg) (C__law_take : Has P w K mg base "_law_take" 2 ["draw", "many"] (spTake K) f1 fd1) (F : Fun K "_law_turn" "_law_turn" s__law_turn f fd) : FnOk P w K mg base CX0 3 f fd ["draw"] (spTurn K) := by
  refine F.ok sc__law_turn (fun vs H Q E h => ?_) (fun cdv A outer s H vs Q E hr h => ?_)
  · obtain ⟨d, s, ns, rfl, _⟩ := h
    rfl
  · obtain ⟨d, s, ns, rfl, hD, q⟩ := h
    refine ⟨_, (pss_cons (ps_asg (pe_tup (pa_cons pe_int (pa_cons pe_int (pa_cons pe_int (pa_cons pe_int pa_nil))))) (pg_tup rfl (pgs_cons (pg_name (i := 1) sc__law_turn.nd rfl (Or.inl rfl)) (pgs_cons (pg_name (i := 2) sc__law_turn.nd rfl (Or.inl rfl)) (pgs_cons (pg_name (i := 3) sc__law_turn.nd rfl (Or.inl rfl)) (pgs_cons (pg_name (i := 4) sc__law_turn.nd rfl (Or.inl rfl)) pgs_nil))))))
    (pss_cons (ps_for PassesOwn.never rfl (pi_range1 rfl T.range (pa_cons (pe_call C__law_take.G (hr.mono (by decide)) (by rfl) C__law_take.g C__law_take.k C__law_take.b .nil pass0 (pa_cons (pv 0) (pa_cons pe_int pa_nil))) pa_nil)) (pg_name (i := 5) sc__law_turn.nd rfl (Or.inl rfl))
      (pss_cons (ps_set (i := 6) sc__law_turn.nd rfl (Or.inl rfl) (pe_op op_sub (pe_call C__law_take.G (hr.mono (by decide)) (by rfl) C__law_take.g C__law_take.k C__law_take.b .nil pass0 (pa_cons (pv 0) (pa_cons pe_int pa_nil))) pe_int))
    (pss_one (ps_if (pt_cmpR op_eq (pe_op op_modA (pv 5) pe_int) pe_int (nomark _))
      (pss_one (ps_par (i := 1) (j := 2) (by rfl) sc__law_turn.nd rfl rfl (by decide) rfl rfl (pa_cons (pe_op op_add (pv 1) (pe_op op_mulA (pv 6) (pv 3))) (pa_cons (pe_op op_add (pv 2) (pe_op op_mulA (pv 6) (pv 4))) pa_nil)) (by rfl)))
      (pss_one (ps_par (i := 3) (j := 4) (by rfl) sc__law_turn.nd rfl rfl (by decide) rfl rfl (pa_cons (pe_op op_add (pv 3) (pe_op op_mulA (pv 6) (pv 1))) (pa_cons (pe_op op_add (pv 4) (pe_op op_mulA (pv 6) (pv 2))) pa_nil)) (by rfl)))))))
    (pss_one (ps_ret (pe_ifExp (pt_cmpR op_gt (pe_call C__law_take.G (hr.mono (by decide)) (by rfl) C__law_take.g C__law_take.k C__law_take.b .nil pass0 (pa_cons (pv 0) (pa_cons pe_int pa_nil))) pe_int (nomark _)) (pe_tup (pa_cons (pv 1) (pa_cons (pv 2) (pa_cons (pv 3) (pa_cons (pv 4) pa_nil))))) (pe_tup (pa_cons (pv 3) (pa_cons (pv 4) (pa_cons (pv 1) (pa_cons (pv 2) pa_nil)))))))))), ?_⟩
    refine ⟨by show 4 ≤ sizeLine; decide, fun p np => ?_⟩
    have K0 : Keep d H (upd H p (.tup [.int 1, .int 0, .int 0, .int 1])) := Keep.of (same_upd np)
    have D0 : DrawAt K (upd H p (.tup [.int 1, .int 0, .int 0, .int 1])) d s ns := hD.same (same_upd np)
    refine ⟨p, [.int 1, .int 0, .int 0, .int 1], rfl, .inl (.inl upd_same), rfl, _, _, rfl, _, _, rfl, _, _, rfl, _, _, rfl, rfl, ?_⟩
    refine ⟨_, rfl, d, s, 6, ns, rfl, D0, by decide, fun n H1 n0 n1 K1 D1 => ?_⟩
    refine ⟨_, rfl, by omega, by omega, for_range (n := n.toNat) (fun i σ H' => ∃ a b c e : Int, ∃ y z, σ = [some (.ref d), some (.int a), some (.int b), some (.int c), some (.int e), y, z] ∧ Keep d H H' ∧ DrawAt K H' d s ns ∧ a.natAbs ≤ 16 ^ i ∧ b.natAbs ≤ 16 ^ i ∧ c.natAbs ≤ 16 ^ i ∧ e.natAbs ≤ 16 ^ i)
      ⟨1, 0, 0, 1, none, none, rfl, K0.trans K1, D1, by decide, by decide, by decide, by decide⟩ ?_ ?_⟩
    · rintro i σ H2 hi ⟨a, b, c, e, y, z, rfl, K2, D2, ha, hb, hc, he⟩
      refine ⟨_, rfl, d, s, 31, ns, rfl, D2, by decide, fun r H3 r0 r1 K3 D3 => ?_⟩
      have t15 : (r - 15).natAbs ≤ 15 := by omega
      have p1 := abs_step t15 ha
      have p2 := abs_step t15 hb
      have p3 := abs_step t15 hc
      have p4 := abs_step t15 he
      have m1 : OkMul (r - 15) a := mulOkL (by omega) (by omega)
      have m2 : OkMul (r - 15) b := mulOkL (by omega) (by omega)
      have m3 : OkMul (r - 15) c := mulOkL (by omega) (by omega)
      have m4 : OkMul (r - 15) e := mulOkL (by omega) (by omega)
      have pw : (16 : Nat) ^ (i + 1) = 16 * 16 ^ i := by rw [Nat.pow_succ, Nat.mul_comm]
      have K4 := K2.trans K3
      walk_at "go"
      refine ⟨rfl, _, rfl, ite2 (fun _ => ?_) (fun _ => ?_)⟩
      · walk_at "go"
        exact ⟨_, _, _, _, _, _, rfl, K4, D3, by omega, by omega, by omega, by omega⟩
      · walk_at "go"
        exact ⟨_, _, _, _, _, _, rfl, K4, D3, by omega, by omega, by omega, by omega⟩
    · rintro σ H2 ⟨a, b, c, e, y, z, rfl, K2, D2, ha, hb, hc, he⟩
      have pw : (16 : Nat) ^ n.toNat ≤ 1048576 := Nat.le_trans (Nat.pow_le_pow_right (by decide) (show n.toNat ≤ 5 by omega)) (by decide)
      refine ⟨_, rfl, d, s, 3, ns, rfl, D2, by decide, fun r H3 r0 r1 K3 D3 => ?_⟩
      have K4 := K2.trans K3
      refine ⟨_, _, rfl, rfl, _, rfl, ite2 (fun _ => ?_) (fun _ => ?_)⟩
      · walk_at "go"
        refine ⟨by show 4 ≤ sizeLine; decide, fun p np => q p _ _ _ _ _ upd_same (by omega) (by omega) (by omega) (by omega) (K4.trans (Keep.of (same_upd np))) (D3.same (same_upd np))⟩
      · walk_at "go"
        refine ⟨by show 4 ≤ sizeLine; decide, fun p np => q p _ _ _ _ _ upd_same (by omega) (by omega) (by omega) (by omega) (K4.trans (Keep.of (same_upd np))) (D3.same (same_upd np))⟩
theorem ok__law_small_rows {f f1 : Addr} {fd fd1 : FuncData} (T : Nm mg) (C__law_take : Has P w K mg base "_law_take" 2 ["draw", "many"] (spTake K) f1 fd1) (F : Fun K "_law_small_rows" "_law_small_rows" s__law_small_rows f fd) : FnOk P w K mg base CX0 3 f fd ["draw"] (spRows K BndS 6) := by
  refine F.ok sc__law_small_rows (fun vs H Q E h => ?_) (fun cdv A outer s H vs Q E hr h => ?_)
  · obtain ⟨d, s, ns, rfl, _⟩ := h
    rfl
  · obtain ⟨d, s, ns, rfl, hD, q⟩ := h
    refine ⟨_, (pss_one (ps_ret (pe_lc (own := [("turn", 1)]) (g := gName 1) (by rfl) sc__law_small_rows.nd (pi_range1 rfl T.range (pa_cons (pe_call C__law_take.G (hr.mono (by decide)) (by rfl) C__law_take.g C__law_take.k C__law_take.b .nil pass0 (pa_cons (pv 0) (pa_cons pe_int pa_nil))) pa_nil)) (by exact blkOk_by (N := ["draw", "turn"]) (sc := defScope s__law_small_rows) (by decide +kernel)) (fun _ _ _ _ _ => by exact (pg_name (i := 1) sc__law_small_rows.nd rfl (Or.inl rfl))) (fun _ _ _ _ _ => pts_nil) (fun _ _ _ _ _ => (pe_tup (pa_cons (pe_op op_sub (pe_call C__law_take.G (hr.mono (by decide)) (by rfl) C__law_take.g C__law_take.k C__law_take.b .nil pass0 (pa_cons (pv 0) (pa_cons pe_int pa_nil))) pe_int) (pa_cons (pe_op op_sub (pe_call C__law_take.G (hr.mono (by decide)) (by rfl) C__law_take.g C__law_take.k C__law_take.b .nil pass0 (pa_cons (pv 0) (pa_cons pe_int pa_nil))) pe_int) (pa_cons (pe_op op_sub (pe_call C__law_take.G (hr.mono (by decide)) (by rfl) C__law_take.g C__law_take.k C__law_take.b .nil pass0 (pa_cons (pv 0) (pa_cons pe_int pa_nil))) pe_int) pa_nil)))))))), ?_⟩
    refine ⟨_, rfl, d, s, 7, ns, rfl, hD, by decide, fun n H1 n0 n1 K1 D1 => ?_⟩
    refine ⟨n, rfl, by omega, by omega, fun l nl => lc_range (lo := 0) (n := n.toNat) (fun i H' => ∃ rs, Acc K H d s ns l H' rs ∧ (∀ r ∈ rs, BndS r) ∧ rs.length = i) ⟨[], Acc.start hD K1 D1 nl, List.forall_mem_nil _, rfl⟩ ?_ ?_⟩
    · rintro i H2 hi ⟨rs, A, hb, hl⟩
      refine ⟨rfl, tYes_in ?_⟩
      refine ⟨_, rfl, d, s, 11, ns, rfl, A.dr, by decide, fun a H3 a0 a1 K3 D3 => ?_⟩
      have A3 := A.keep K3 D3
      refine ⟨_, _, rfl, rfl, _, rfl, d, s, 11, ns, rfl, D3, by decide, fun b H4 b0 b1 K4 D4 => ?_⟩
      have A4 := A3.keep K4 D4
      refine ⟨_, _, rfl, rfl, _, rfl, d, s, 30, ns, rfl, D4, by decide, fun c H5 c0 c1 K5 D5 => ?_⟩
      have A5 := A4.keep K5 D5
      refine ⟨_, _, rfl, rfl, by show 3 ≤ sizeLine; decide, fun p np => ?_⟩
      obtain ⟨vs, hv, hr'⟩ := A5.rows
      refine ⟨vs, ?_, ?_, rs ++ [(a - 5, b - 5, c - 9)], A5.push hv np, ?_, ?_⟩
      · exact same_upd np _ _ hv
      · rw [hr'.len]
        exact small1000 (by omega)
      · intro r hr
        rcases List.mem_append.mp hr with h | h
        · exact hb r h
        · rw [List.mem_singleton.mp h]
          constructor <;> (dsimp only; omega)
      · rw [List.length_append, hl]
        rfl
    · rintro H2 ⟨rs, A, hb, hl⟩
      exact q l rs H2 A.new A.rows hb (by omega) A.kp A.dr
theorem bnd_of {a b c : Int} (ha : a.natAbs < 10 ^ 30) (hb : b.natAbs < 10 ^ 30) (hc : c.natAbs < 10 ^ 30) : Bnd (a, b, c) := by
  have h : (10 : Nat) ^ 30 < 2 ^ 200 := by decide +kernel
  exact ⟨Nat.lt_trans ha h, Nat.lt_trans hb h, Nat.lt_trans hc h⟩
theorem ten_le {n : Nat} {i : Int} (hn : n ≤ 30) (h : i.natAbs < 10 ^ n) : i.natAbs < 10 ^ 30 := Nat.lt_of_lt_of_le h (Nat.pow_le_pow_right (by decide) hn)
theorem mem_more {B : LineR → Prop} {rs : List LineR} {r : LineR} (h : ∀ x ∈ rs, B x) (hr : B r) : ∀ x ∈ rs ++ [r], B x := fun x hx => by
  rcases List.mem_append.mp hx with z | z
  · exact h x z
  · rw [List.mem_singleton.mp z]
    exact hr
theorem len_more {rs : List LineR} {r : LineR} {i : Nat} (h : rs.length = i) : (rs ++ [r]).length = i + 1 := by
  rw [List.length_append, h]
  rfl
theorem ok__law_long_rows {f f1 f2 : Addr} {fd fd1 fd2 : FuncData} (T : Nm mg) (C__law_take : Has P w K mg base "_law_take" 2 ["draw", "many"] (spTake K) f1 fd1) (C__law_long : Has P w K mg base "_law_long" 3 ["draw", "figures"] (spLong K) f2 fd2) (F : Fun K "_law_long_rows" "_law_long_rows" s__law_long_rows f fd) : FnOk P w K mg base CX0 4 f fd ["draw"] (spRows K Bnd 6) := by
  refine F.ok sc__law_long_rows (fun vs H Q E h => ?_) (fun cdv A outer s H vs Q E hr h => ?_)
  · obtain ⟨d, s, ns, rfl, _⟩ := h
    rfl
  · obtain ⟨d, s, ns, rfl, hD, q⟩ := h
    refine ⟨_, (pss_one (ps_ret (pe_lc (own := [("turn", 1)]) (g := gName 1) (by rfl) sc__law_long_rows.nd (pi_range1 rfl T.range (pa_cons (pe_op op_add pe_int (pe_call C__law_take.G (hr.mono (by decide)) (by rfl) C__law_take.g C__law_take.k C__law_take.b .nil pass0 (pa_cons (pv 0) (pa_cons pe_int pa_nil)))) pa_nil)) (by exact blkOk_by (N := ["draw", "turn"]) (sc := defScope s__law_long_rows) (by decide +kernel)) (fun _ _ _ _ _ => by exact (pg_name (i := 1) sc__law_long_rows.nd rfl (Or.inl rfl))) (fun _ _ _ _ _ => pts_nil) (fun _ _ _ _ _ => (pe_tup (pa_cons (pe_call C__law_long.G (hr.mono (by decide)) (by rfl) C__law_long.g C__law_long.k C__law_long.b .nil pass0 (pa_cons (pv 0) (pa_cons pe_int pa_nil))) (pa_cons (pe_call C__law_long.G (hr.mono (by decide)) (by rfl) C__law_long.g C__law_long.k C__law_long.b .nil pass0 (pa_cons (pv 0) (pa_cons pe_int pa_nil))) (pa_cons (pe_call C__law_long.G (hr.mono (by decide)) (by rfl) C__law_long.g C__law_long.k C__law_long.b .nil pass0 (pa_cons (pv 0) (pa_cons pe_int pa_nil))) pa_nil)))))))), ?_⟩
    refine ⟨_, rfl, d, s, 5, ns, rfl, hD, by decide, fun n H1 n0 n1 K1 D1 => ?_⟩
    refine ⟨_, _, rfl, rfl, 1 + n, rfl, by omega, by omega, fun l nl => lc_range (lo := 0) (n := (1 + n).toNat) (fun i H' => ∃ rs, Acc K H d s ns l H' rs ∧ (∀ r ∈ rs, Bnd r) ∧ rs.length = i) ⟨[], Acc.start hD K1 D1 nl, List.forall_mem_nil _, rfl⟩ ?_ ?_⟩
    · rintro i H2 hi ⟨rs, A, hb, hl⟩
      refine ⟨rfl, tYes_in ?_⟩
      refine ⟨_, rfl, d, s, 24, ns, rfl, A.dr, by decide, by decide, fun a H3 (a0 : a.natAbs < 10 ^ 24) K3 D3 => ?_⟩
      have A3 := A.keep K3 D3
      refine ⟨_, rfl, d, s, 24, ns, rfl, D3, by decide, by decide, fun b H4 (b0 : b.natAbs < 10 ^ 24) K4 D4 => ?_⟩
      have A4 := A3.keep K4 D4
      refine ⟨_, rfl, d, s, 30, ns, rfl, D4, by decide, by decide, fun c H5 (c0 : c.natAbs < 10 ^ 30) K5 D5 => ?_⟩
      have A5 := A4.keep K5 D5
      refine ⟨by show 3 ≤ sizeLine; decide, fun p np => ?_⟩
      obtain ⟨vs, hv, hr'⟩ := A5.rows
      refine ⟨vs, same_upd np _ _ hv, ?_, rs ++ [(a, b, c)], A5.push hv np, mem_more hb (bnd_of (ten_le (by decide) a0) (ten_le (by decide) b0) c0), len_more hl⟩
      rw [hr'.len]
      exact small1000 (by omega)
    · rintro H2 ⟨rs, A, hb, hl⟩
      exact q l rs H2 A.new A.rows hb (by omega) A.kp A.dr
theorem ok__law_line_rows {f f1 : Addr} {fd fd1 : FuncData} (T : Nm mg) (C__law_take : Has P w K mg base "_law_take" 2 ["draw", "many"] (spTake K) f1 fd1) (F : Fun K "_law_line_rows" "_law_line_rows" s__law_line_rows f fd) : FnOk P w K mg base CX0 3 f fd ["draw"] (spRows K BndS 6) := by
  refine F.ok sc__law_line_rows (fun vs H Q E h => ?_) (fun cdv A outer s H vs Q E hr h => ?_)
  · obtain ⟨d, s, ns, rfl, _⟩ := h
    rfl
  · obtain ⟨d, s, ns, rfl, hD, q⟩ := h
    refine ⟨_, (pss_cons (ps_par3 (i := 1) (j := 2) (l := 3) (by rfl) sc__law_line_rows.nd rfl rfl rfl (by decide) (by decide) (by decide) rfl rfl rfl (pa_cons (pe_op op_sub (pe_call C__law_take.G (hr.mono (by decide)) (by rfl) C__law_take.g C__law_take.k C__law_take.b .nil pass0 (pa_cons (pv 0) (pa_cons pe_int pa_nil))) pe_int) (pa_cons (pe_op op_sub (pe_call C__law_take.G (hr.mono (by decide)) (by rfl) C__law_take.g C__law_take.k C__law_take.b .nil pass0 (pa_cons (pv 0) (pa_cons pe_int pa_nil))) pe_int) (pa_cons (pe_op op_sub (pe_call C__law_take.G (hr.mono (by decide)) (by rfl) C__law_take.g C__law_take.k C__law_take.b .nil pass0 (pa_cons (pv 0) (pa_cons pe_int pa_nil))) pe_int) pa_nil))) (by rfl))
    (pss_cons (ps_set (i := 4) sc__law_line_rows.nd rfl (Or.inl rfl) (pe_lst (pa_cons (pe_tup (pa_cons (pv 1) (pa_cons (pv 2) (pa_cons (pv 3) pa_nil)))) (pa_cons (pe_tup (pa_cons (pe_op op_sub pe_int (pv 1)) (pa_cons (pe_op op_sub pe_int (pv 2)) (pa_cons (pe_op op_sub pe_int (pv 3)) pa_nil)))) pa_nil))))
    (pss_cons (ps_for PassesOwn.never rfl (pi_range1 rfl T.range (pa_cons (pe_call C__law_take.G (hr.mono (by decide)) (by rfl) C__law_take.g C__law_take.k C__law_take.b .nil pass0 (pa_cons (pv 0) (pa_cons pe_int pa_nil))) pa_nil)) (pg_name (i := 5) sc__law_line_rows.nd rfl (Or.inl rfl))
      (pss_one (ps_expr (pe_bm PySem.F.plainAttrs_list PySem.F.slot_list_append PySem.F.type_list_append mt_append (pv 4) (pa_cons (pe_tup (pa_cons (pe_op op_sub (pe_call C__law_take.G (hr.mono (by decide)) (by rfl) C__law_take.g C__law_take.k C__law_take.b .nil pass0 (pa_cons (pv 0) (pa_cons pe_int pa_nil))) pe_int) (pa_cons (pe_op op_sub (pe_call C__law_take.G (hr.mono (by decide)) (by rfl) C__law_take.g C__law_take.k C__law_take.b .nil pass0 (pa_cons (pv 0) (pa_cons pe_int pa_nil))) pe_int) (pa_cons (pe_call C__law_take.G (hr.mono (by decide)) (by rfl) C__law_take.g C__law_take.k C__law_take.b .nil pass0 (pa_cons (pv 0) (pa_cons pe_int pa_nil))) pa_nil)))) pa_nil)))))
    (pss_one (ps_ret (pv 4)))))), ?_⟩
    refine ⟨_, rfl, d, s, 400, ns, rfl, hD, by decide, fun a H1 a0 a1 K1 D1 => ?_⟩
    refine ⟨_, _, rfl, rfl, _, rfl, d, s, 400, ns, rfl, D1, by decide, fun b H2 b0 b1 K2 D2 => ?_⟩
    refine ⟨_, _, rfl, rfl, _, rfl, d, s, 4000, ns, rfl, D2, by decide, fun c H3 c0 c1 K3 D3 => ?_⟩
    have K30 := (K1.trans K2).trans K3
    walk_at "go"
    refine ⟨_, _, _, rfl, ?_⟩
    walk_at "go"
    refine ⟨by show 3 ≤ sizeLine; decide, fun p np => ?_⟩
    walk_at "go"
    refine ⟨by show 3 ≤ sizeLine; decide, fun p' np' => ?_⟩
    refine ⟨by show 2 ≤ sizeLine; decide, fun l nl => ?_⟩
    have S1 := same_upd (o := .tup [.int (a - 200), .int (b - 200), .int (c - 2000)]) np
    have S2 := same_upd (o := .tup [.int (0 - (a - 200)), .int (0 - (b - 200)), .int (0 - (c - 2000))]) np'
    have A0 : Acc K H d s ns l _ [(a - 200, b - 200, c - 2000), (0 - (a - 200), 0 - (b - 200), 0 - (c - 2000))] := Acc.of hD (K30.trans (Keep.of (S1.trans S2))) (D3.same (S1.trans S2)) nl (.cons (RowV.same S2 rowV_new) (.cons rowV_new .nil))
    refine ⟨_, rfl, d, s, 3, ns, rfl, A0.dr, by decide, fun n H4 n0 n1 K4 D4 => ?_⟩
    refine ⟨n, rfl, by omega, by omega, for_range (n := n.toNat) (fun i σ H' => ∃ rs y, σ = [some (.ref d), some (.int (a - 200)), some (.int (b - 200)), some (.int (c - 2000)), some (.ref l), y] ∧ Acc K H d s ns l H' rs ∧ (∀ r ∈ rs, BndS r) ∧ rs.length = 2 + i) ⟨_, none, rfl, A0.keep K4 D4, ?_, rfl⟩ ?_ ?_⟩
    · intro r hr
      rcases List.mem_cons.mp hr with rfl | hr
      · constructor <;> (dsimp only; omega)
      · rw [List.mem_singleton.mp hr]
        constructor <;> (dsimp only; omega)
    · rintro i σ H5 hi ⟨rs, y, rfl, A, hb, hl⟩
      obtain ⟨vs, hv, hr'⟩ := A.rows
      refine ⟨_, rfl, .inl ⟨rfl, _, .inl (.inl hv)⟩, ?_⟩
      refine ⟨_, rfl, d, s, 9, ns, rfl, A.dr, by decide, fun a' H6 a0 a1 K6 D6 => ?_⟩
      have A6 := A.keep K6 D6
      refine ⟨_, _, rfl, rfl, _, rfl, d, s, 9, ns, rfl, D6, by decide, fun b' H7 b0 b1 K7 D7 => ?_⟩
      have A7 := A6.keep K7 D7
      refine ⟨_, _, rfl, rfl, _, rfl, d, s, 99, ns, rfl, D7, by decide, fun c' H8 c0 c1 K8 D8 => ?_⟩
      have A8 := A7.keep K8 D8
      refine ⟨by show 3 ≤ sizeLine; decide, fun p np => ?_⟩
      have hv8 := K8 _ _ A.ne (K7 _ _ A.ne (K6 _ _ A.ne hv))
      refine ⟨l, vs, _, rfl, rfl, same_upd np _ _ hv8, ?_, ?_⟩
      · rw [hr'.len]
        exact small1000 (by omega)
      · refine ⟨_, _, rfl, A8.push hv8 np, mem_more hb ?_, ?_⟩
        · constructor <;> (dsimp only; omega)
        · rw [len_more hl]
          omega
    · rintro σ H5 ⟨rs, y, rfl, A, hb, hl⟩
      exact ⟨_, rfl, q l rs H5 A.new A.rows hb (by omega) A.kp A.dr⟩
end
end K01

namespace K01
open PySem PySem.Spec PyProof.Rows L2 My
local macro_rules | `(tactic| walk_at "side") => `(tactic| (first
  | assumption
  | (refine OkMod.mk ?_; omega)
  | (refine mulOkL ?_ ?_ <;> omega)
  | (refine mulOkR ?_ ?_ <;> omega)
  | (refine divOk ?_ ?_ <;> omega)))
local macro_rules | `(tactic| walk_at "rd") => `(tactic| (first
  | with_reducible refine ⟨_, rfl, ?_⟩
  | refine ⟨_, rfl, ?_⟩
  | refine ⟨_, _, rfl, rfl, ?_⟩
  | refine And.intro (by walk_at "side") ?_
  | refine ⟨_, _, rfl, asm (by assumption), ?_⟩
  | refine ⟨_, _, rfl, asm ?_⟩))
section
variable {P : Program} {w : World} {K : PySem.W.Frag} {mg : Str → Option Value} {base : Heap}
local macro_rules | `(tactic| walk_at "tk") => `(tactic| refine ⟨_, _, _, _, rfl, asm (by assumption), asm (by omega), fun _ _ _ _ _ _ => ?_⟩)
local macro_rules | `(tactic| walk_at "go") => `(tactic| repeat (first | walk_at "rd" | walk_at "tk"))
theorem sSeq_via {ta u : TS} {D : Ends} {σ : L2.St} {H : Hp} (R : L2.St → Hp → Prop) (h : ∀ nx : L2.St → Hp → Prop, (∀ σ' H', R σ' H' → nx σ' H') → ta { D with nx := nx } σ H) (k : ∀ σ' H', R σ' H' → u D σ' H') : tSeq ta u D σ H := h _ k
theorem Acc.made {H H' : Hp} {d s l : Addr} {ns : List Int} {rs : List LineR} (D0 : DrawAt K H d s ns) (n : H l = none) (R : RowsAt K H' l rs) (k : Keep d H H') (D : DrawAt K H' d s ns) : Acc K H d s ns l H' rs := by
  obtain ⟨zs, hd⟩ := D0.lst
  refine ⟨n, fun z => ?_, R, k, D, let ⟨_, _, h, _⟩ := D0; h⟩
  rw [z, hd] at n
  cases n
theorem Acc.up {H H1 H' : Hp} {d s l : Addr} {ns : List Int} {rs : List LineR} (D0 : DrawAt K H d s ns) (k : Keep d H H1) (A : Acc K H1 d s ns l H' rs) : Acc K H d s ns l H' rs := by
  obtain ⟨zs, hd⟩ := D0.lst
  refine ⟨?_, A.ne, A.rows, k.trans A.kp, A.dr, let ⟨_, _, h, _⟩ := D0; h⟩
  cases q : H l with
  | none => rfl
  | some o =>
    have := k _ _ A.ne q
    rw [A.new] at this
    cases this
theorem ok__law_band_rows {f f1 : Addr} {fd fd1 : FuncData} (T : Nm mg) (C__law_take : Has P w K mg base "_law_take" 2 ["draw", "many"] (spTake K) f1 fd1) (F : Fun K "_law_band_rows" "_law_band_rows" s__law_band_rows f fd) : FnOk P w K mg base CX0 3 f fd ["draw"] (spRows K BndS 6) := by
  refine F.ok sc__law_band_rows (fun vs H Q E h => ?_) (fun cdv A outer s H vs Q E hr h => ?_)
  · obtain ⟨d, s, ns, rfl, _⟩ := h
    rfl
  · obtain ⟨d, s, ns, rfl, hD, q⟩ := h
    refine ⟨_, (pss_cons (ps_par (i := 1) (j := 2) (by rfl) sc__law_band_rows.nd rfl rfl (by decide) rfl rfl (pa_cons (pe_op op_add pe_int (pe_call C__law_take.G (hr.mono (by decide)) (by rfl) C__law_take.g C__law_take.k C__law_take.b .nil pass0 (pa_cons (pv 0) (pa_cons pe_int pa_nil)))) (pa_cons (pe_op op_sub (pe_call C__law_take.G (hr.mono (by decide)) (by rfl) C__law_take.g C__law_take.k C__law_take.b .nil pass0 (pa_cons (pv 0) (pa_cons pe_int pa_nil))) pe_int) pa_nil)) (by rfl))
    (pss_cons (ps_set (i := 3) sc__law_band_rows.nd rfl (Or.inl rfl) (pe_op op_add pe_int (pe_call C__law_take.G (hr.mono (by decide)) (by rfl) C__law_take.g C__law_take.k C__law_take.b .nil pass0 (pa_cons (pv 0) (pa_cons (pe_op op_sub (pv 1) pe_int) pa_nil)))))
    (pss_cons (ps_set (i := 4) sc__law_band_rows.nd rfl (Or.inl rfl) (pe_ifExp (pt_cmpR op_eq (pe_call C__law_take.G (hr.mono (by decide)) (by rfl) C__law_take.g C__law_take.k C__law_take.b .nil pass0 (pa_cons (pv 0) (pa_cons pe_int pa_nil))) pe_int (nomark _)) (pe_op op_add (pv 3) (pe_call C__law_take.G (hr.mono (by decide)) (by rfl) C__law_take.g C__law_take.k C__law_take.b .nil pass0 (pa_cons (pv 0) (pa_cons (pe_op op_mulA pe_int (pv 1)) pa_nil)))) (pe_op op_add (pv 3) (pe_call C__law_take.G (hr.mono (by decide)) (by rfl) C__law_take.g C__law_take.k C__law_take.b .nil pass0 (pa_cons (pv 0) (pa_cons (pe_op op_sub (pv 1) (pv 3)) pa_nil))))))
    (pss_cons (ps_set (i := 5) sc__law_band_rows.nd rfl (Or.inl rfl) (pe_lst (pa_cons (pe_tup (pa_cons (pv 1) (pa_cons pe_int (pa_cons (pe_op op_add (pe_op op_mulA (pv 2) (pv 1)) (pv 4)) pa_nil)))) (pa_cons (pe_tup (pa_cons (pe_op op_sub pe_int (pv 1)) (pa_cons pe_int (pa_cons (pe_op op_sub (pe_op op_sub pe_int (pe_op op_mulA (pv 2) (pv 1))) (pv 3)) pa_nil)))) pa_nil))))
    (pss_cons (ps_if (pt_cmpR op_gt (pe_call C__law_take.G (hr.mono (by decide)) (by rfl) C__law_take.g C__law_take.k C__law_take.b .nil pass0 (pa_cons (pv 0) (pa_cons pe_int pa_nil))) pe_int (nomark _))
      (pss_one (ps_expr (pe_bm PySem.F.plainAttrs_list PySem.F.slot_list_append PySem.F.type_list_append mt_append (pv 5) (pa_cons (pe_tup (pa_cons (pe_op op_sub (pe_call C__law_take.G (hr.mono (by decide)) (by rfl) C__law_take.g C__law_take.k C__law_take.b .nil pass0 (pa_cons (pv 0) (pa_cons pe_int pa_nil))) pe_int) (pa_cons (pe_op op_add pe_int (pe_call C__law_take.G (hr.mono (by decide)) (by rfl) C__law_take.g C__law_take.k C__law_take.b .nil pass0 (pa_cons (pv 0) (pa_cons pe_int pa_nil)))) (pa_cons (pe_call C__law_take.G (hr.mono (by decide)) (by rfl) C__law_take.g C__law_take.k C__law_take.b .nil pass0 (pa_cons (pv 0) (pa_cons pe_int pa_nil))) pa_nil)))) pa_nil))))
      pss_nil)
    (pss_cons (ps_if (pt_cmpR op_gt (pe_call C__law_take.G (hr.mono (by decide)) (by rfl) C__law_take.g C__law_take.k C__law_take.b .nil pass0 (pa_cons (pv 0) (pa_cons pe_int pa_nil))) pe_int (nomark _))
      (pss_one (ps_expr (pe_bm PySem.F.plainAttrs_list PySem.F.slot_list_append PySem.F.type_list_append mt_append (pv 5) (pa_cons (pe_tup (pa_cons (pe_op op_sub (pe_call C__law_take.G (hr.mono (by decide)) (by rfl) C__law_take.g C__law_take.k C__law_take.b .nil pass0 (pa_cons (pv 0) (pa_cons pe_int pa_nil))) pe_int) (pa_cons (pe_op op_sub (pe_op op_sub pe_int pe_int) (pe_call C__law_take.G (hr.mono (by decide)) (by rfl) C__law_take.g C__law_take.k C__law_take.b .nil pass0 (pa_cons (pv 0) (pa_cons pe_int pa_nil)))) (pa_cons (pe_call C__law_take.G (hr.mono (by decide)) (by rfl) C__law_take.g C__law_take.k C__law_take.b .nil pass0 (pa_cons (pv 0) (pa_cons pe_int pa_nil))) pa_nil)))) pa_nil))))
      pss_nil)
    (pss_one (ps_ret (pv 5))))))))), ?_⟩
    refine ⟨_, rfl, d, s, 9, ns, rfl, hD, by decide, fun m H1 m0 m1 K1 D1 => ?_⟩
    refine ⟨_, _, rfl, rfl, _, rfl, d, s, 41, ns, rfl, D1, by decide, fun t H2 t0 t1 K2 D2 => ?_⟩
    refine ⟨_, _, rfl, rfl, ?_⟩
    refine ⟨_, _, rfl, ?_⟩
    refine ⟨_, rfl, _, rfl, _, _, rfl, rfl, ?_⟩
    refine ⟨d, s, _, ns, rfl, D2, by omega, fun lo H3 lo0 lo1 K3 D3 => ?_⟩
    refine ⟨_, _, rfl, rfl, ?_⟩
    dsimp only
    refine sIf_via (fun v H' => ∃ h : Int, v = .int h ∧ Keep d H H' ∧ DrawAt K H' d s ns ∧ 0 ≤ h ∧ h ≤ 100) (fun Q' h' => ?_) ?_
    · refine ⟨_, rfl, d, s, 3, ns, rfl, D3, by decide, fun r H4 r0 r1 K4 D4 => ?_⟩
      have K40 := ((K1.trans K2).trans K3).trans K4
      refine ⟨rfl, _, rfl, ite2 (fun _ => ?_) (fun _ => ?_)⟩
      · walk_at "go"
        exact h' _ _ ⟨_, rfl, K40.trans (by assumption), by assumption, by omega, by omega⟩
      · walk_at "go"
        exact h' _ _ ⟨_, rfl, K40.trans (by assumption), by assumption, by omega, by omega⟩
    · rintro v H4 ⟨h, rfl, K4, D4, h0, h1⟩
      have mu : OkMul (t - 20) (2 + m) := mulOkL (by omega) (by omega)
      have mb : ((t - 20) * (2 + m)).natAbs ≤ 20 * 10 := by
        rw [Int.natAbs_mul]
        exact Nat.mul_le_mul (by omega) (by omega)
      walk_at "go"
      refine ⟨by show 3 ≤ sizeLine; decide, fun p np => ?_⟩
      walk_at "go"
      refine ⟨by show 3 ≤ sizeLine; decide, fun p' np' => ?_⟩
      refine ⟨by show 2 ≤ sizeLine; decide, fun l nl => ?_⟩
      have S1 := fun o => same_upd (o := o) np
      have S2 := fun o => same_upd (o := o) np'
      have A0 : Acc K H d s ns l _ [(2 + m, 0, (t - 20) * (2 + m) + h), (0 - (2 + m), 0, 0 - (t - 20) * (2 + m) - (1 + lo))] := Acc.of hD (K4.trans (Keep.of ((S1 _).trans (S2 _)))) (D4.same ((S1 _).trans (S2 _))) nl (.cons (RowV.same (S2 _) rowV_new) (.cons rowV_new .nil))
      have hb0 : ∀ r ∈ [(2 + m, 0, (t - 20) * (2 + m) + h), (0 - (2 + m), 0, 0 - (t - 20) * (2 + m) - (1 + lo))], BndS r := by
        intro r hr
        rcases List.mem_cons.mp hr with rfl | hr
        · constructor <;> (dsimp only; omega)
        · rw [List.mem_singleton.mp hr]
          constructor <;> (dsimp only; omega)
      have hl0 : [(2 + m, (0 : Int), (t - 20) * (2 + m) + h), (0 - (2 + m), 0, 0 - (t - 20) * (2 + m) - (1 + lo))].length ≤ 2 := Nat.le_refl 2
      generalize [(2 + m, (0 : Int), (t - 20) * (2 + m) + h), (0 - (2 + m), 0, 0 - (t - 20) * (2 + m) - (1 + lo))] = rs0 at A0 hb0 hl0
      dsimp only
      refine sSeq_via (fun σ' H' => ∃ rs, σ' = [some (.ref d), some (.int (2 + m)), some (.int (t - 20)), some (.int (1 + lo)), some (.int h), some (.ref l)] ∧ Acc K H d s ns l H' rs ∧ (∀ r ∈ rs, BndS r) ∧ rs.length ≤ 3) (fun nx hn => ?_) ?_
      · refine ⟨_, rfl, d, s, 3, ns, rfl, A0.dr, by decide, fun r5 H5 r50 r51 K5 D5 => ?_⟩
        have A5 := A0.keep K5 D5
        refine ⟨_, _, rfl, rfl, _, rfl, ite2 (fun _ => ?_) (fun _ => hn _ _ ⟨_, rfl, A5, hb0, Nat.le_succ_of_le hl0⟩)⟩
        obtain ⟨vs, hv, hr'⟩ := A5.rows
        refine ⟨_, rfl, .inl ⟨rfl, _, .inl (.inl hv)⟩, ?_⟩
        refine ⟨_, rfl, d, s, 7, ns, rfl, A5.dr, by decide, fun a' H6 a0 a1 K6 D6 => ?_⟩
        have A6 := A5.keep K6 D6
        refine ⟨_, _, rfl, rfl, _, rfl, d, s, 3, ns, rfl, D6, by decide, fun b' H7 b0 b1 K7 D7 => ?_⟩
        have A7 := A6.keep K7 D7
        refine ⟨_, _, rfl, rfl, _, rfl, d, s, 60, ns, rfl, D7, by decide, fun c' H8 c0 c1 K8 D8 => ?_⟩
        have A8 := A7.keep K8 D8
        refine ⟨by show 3 ≤ sizeLine; decide, fun p8 np8 => ?_⟩
        have hv8 := K8 _ _ A5.ne (K7 _ _ A5.ne (K6 _ _ A5.ne hv))
        refine ⟨l, vs, _, rfl, rfl, same_upd np8 _ _ hv8, ?_, ?_⟩
        · rw [hr'.len]
          exact small1000 (by omega)
        · refine hn _ _ ⟨_, rfl, A8.push hv8 np8, mem_more hb0 ?_, ?_⟩
          · constructor <;> (dsimp only; omega)
          · rw [len_more rfl]
            omega
      clear A0 hb0 hl0
      rintro σ' H9 ⟨rs0, rfl, A0, hb0, hl0⟩
      refine sSeq_via (fun σ' H' => ∃ rs, σ' = [some (.ref d), some (.int (2 + m)), some (.int (t - 20)), some (.int (1 + lo)), some (.int h), some (.ref l)] ∧ Acc K H d s ns l H' rs ∧ (∀ r ∈ rs, BndS r) ∧ rs.length ≤ 4) (fun nx hn => ?_) ?_
      · refine ⟨_, rfl, d, s, 3, ns, rfl, A0.dr, by decide, fun r5 H5 r50 r51 K5 D5 => ?_⟩
        have A5 := A0.keep K5 D5
        refine ⟨_, _, rfl, rfl, _, rfl, ite2 (fun _ => ?_) (fun _ => hn _ _ ⟨_, rfl, A5, hb0, Nat.le_succ_of_le hl0⟩)⟩
        obtain ⟨vs, hv, hr'⟩ := A5.rows
        refine ⟨_, rfl, .inl ⟨rfl, _, .inl (.inl hv)⟩, ?_⟩
        refine ⟨_, rfl, d, s, 7, ns, rfl, A5.dr, by decide, fun a' H6 a0 a1 K6 D6 => ?_⟩
        have A6 := A5.keep K6 D6
        refine ⟨_, _, rfl, rfl, _, _, rfl, rfl, _, rfl, d, s, 3, ns, rfl, D6, by decide, fun b' H7 b0 b1 K7 D7 => ?_⟩
        have A7 := A6.keep K7 D7
        refine ⟨_, _, rfl, rfl, _, rfl, d, s, 60, ns, rfl, D7, by decide, fun c' H8 c0 c1 K8 D8 => ?_⟩
        have A8 := A7.keep K8 D8
        refine ⟨by show 3 ≤ sizeLine; decide, fun p8 np8 => ?_⟩
        have hv8 := K8 _ _ A5.ne (K7 _ _ A5.ne (K6 _ _ A5.ne hv))
        refine ⟨l, vs, _, rfl, rfl, same_upd np8 _ _ hv8, ?_, ?_⟩
        · rw [hr'.len]
          exact small1000 (by omega)
        · refine hn _ _ ⟨_, rfl, A8.push hv8 np8, mem_more hb0 ?_, ?_⟩
          · constructor <;> (dsimp only; omega)
          · rw [len_more rfl]
            omega
      rintro σ' H9 ⟨rs1, rfl, A1, hb1, hl1⟩
      exact ⟨_, rfl, q l rs1 H9 A1.new A1.rows hb1 (by omega) A1.kp A1.dr⟩
theorem div_abs (a : Int) {q : Int} (hq : 0 < q) : (a / q).natAbs ≤ a.natAbs := by
  rcases Int.lt_or_le a 0 with h | h
  · have h1 : a ≤ a / q := by
      have := Int.ediv_mul_le a (show q ≠ 0 by omega)
      have e := Int.le_ediv_of_mul_le hq (show a * q ≤ a by
        have := Int.mul_le_mul_of_nonpos_left (Int.le_of_lt h) (show (1 : Int) ≤ q by omega)
        omega)
      exact e
    have h2 : a / q < 0 := Int.ediv_neg_of_neg_of_pos h hq
    omega
  · have h1 : a / q ≤ a := Int.ediv_le_self q h
    have h2 : 0 ≤ a / q := Int.ediv_nonneg h (Int.le_of_lt hq)
    omega
theorem ok__law_cell_rows {f f1 f2 : Addr} {fd fd1 fd2 : FuncData} (T : Nm mg) (C__law_take : Has P w K mg base "_law_take" 2 ["draw", "many"] (spTake K) f1 fd1) (C__law_pick : Has P w K mg base "_law_pick" 3 ["draw", "items"] (spPick K) f2 fd2) (F : Fun K "_law_cell_rows" "_law_cell_rows" s__law_cell_rows f fd) : FnOk P w K mg base CX0 4 f fd ["draw"] (spRows K BndS 6) := by
  refine F.ok sc__law_cell_rows (fun vs H Q E h => ?_) (fun cdv A outer s H vs Q E hr h => ?_)
  · obtain ⟨d, s, ns, rfl, _⟩ := h
    rfl
  · obtain ⟨d, s, ns, rfl, hD, q⟩ := h
    refine ⟨_, (pss_cons (ps_set (i := 1) sc__law_cell_rows.nd rfl (Or.inl rfl) (pe_op op_add pe_int (pe_call C__law_take.G (hr.mono (by decide)) (by rfl) C__law_take.g C__law_take.k C__law_take.b .nil pass0 (pa_cons (pv 0) (pa_cons pe_int pa_nil)))))
    (pss_cons (ps_par3 (i := 2) (j := 3) (l := 4) (by rfl) sc__law_cell_rows.nd rfl rfl rfl (by decide) (by decide) (by decide) rfl rfl rfl (pa_cons (pe_op op_sub (pe_call C__law_take.G (hr.mono (by decide)) (by rfl) C__law_take.g C__law_take.k C__law_take.b .nil pass0 (pa_cons (pv 0) (pa_cons pe_int pa_nil))) pe_int) (pa_cons (pe_op op_sub (pe_call C__law_take.G (hr.mono (by decide)) (by rfl) C__law_take.g C__law_take.k C__law_take.b .nil pass0 (pa_cons (pv 0) (pa_cons pe_int pa_nil))) pe_int) (pa_cons (pe_call C__law_pick.G (hr.mono (by decide)) (by rfl) C__law_pick.g C__law_pick.k C__law_pick.b .nil pass0 (pa_cons (pv 0) (pa_cons (pe_lst (pa_cons pe_int (pa_cons pe_int (pa_cons pe_int pa_nil)))) pa_nil))) pa_nil))) (by rfl))
    (pss_cons (ps_set (i := 5) sc__law_cell_rows.nd rfl (Or.inl rfl) (pe_lst pa_nil))
    (pss_cons (ps_for PassesOwn.never rfl (pi_range1 rfl T.range (pa_cons (pe_op op_add pe_int (pe_call C__law_take.G (hr.mono (by decide)) (by rfl) C__law_take.g C__law_take.k C__law_take.b .nil pass0 (pa_cons (pv 0) (pa_cons pe_int pa_nil)))) pa_nil)) (pg_name (i := 6) sc__law_cell_rows.nd rfl (Or.inl rfl))
      (pss_cons (ps_par (i := 7) (j := 8) (by rfl) sc__law_cell_rows.nd rfl rfl (by decide) rfl rfl (pa_cons (pe_op op_sub (pe_call C__law_take.G (hr.mono (by decide)) (by rfl) C__law_take.g C__law_take.k C__law_take.b .nil pass0 (pa_cons (pv 0) (pa_cons (pe_op op_add (pe_op op_mulA pe_int (pv 4)) pe_int) pa_nil))) (pv 4)) (pa_cons (pe_op op_sub (pe_call C__law_take.G (hr.mono (by decide)) (by rfl) C__law_take.g C__law_take.k C__law_take.b .nil pass0 (pa_cons (pv 0) (pa_cons (pe_op op_add (pe_op op_mulA pe_int (pv 4)) pe_int) pa_nil))) (pv 4)) pa_nil)) (by rfl))
    (pss_one (ps_expr (pe_bm PySem.F.plainAttrs_list PySem.F.slot_list_append PySem.F.type_list_append mt_append (pv 5) (pa_cons (pe_tup (pa_cons (pv 7) (pa_cons (pv 8) (pa_cons (pe_op op_add (pe_op op_fdivA (pe_op op_add (pe_op op_mulA (pv 7) (pv 2)) (pe_op op_mulA (pv 8) (pv 3))) (pv 1)) (pe_call C__law_take.G (hr.mono (by decide)) (by rfl) C__law_take.g C__law_take.k C__law_take.b .nil pass0 (pa_cons (pv 0) (pa_cons (pe_op op_mulA pe_int (pv 4)) pa_nil)))) pa_nil)))) pa_nil))))))
    (pss_one (ps_ret (pv 5))))))), ?_⟩
    refine ⟨_, rfl, d, s, 30, ns, rfl, hD, by decide, fun q0 H1 q00 q01 K1 D1 => ?_⟩
    refine ⟨_, _, rfl, rfl, ?_⟩
    refine ⟨_, rfl, d, s, 2001, ns, rfl, D1, by decide, fun p0 H2 p00 p01 K2 D2 => ?_⟩
    refine ⟨_, _, rfl, rfl, ?_⟩
    refine ⟨_, rfl, d, s, 2001, ns, rfl, D2, by decide, fun r0 H3 r00 r01 K3 D3 => ?_⟩
    refine ⟨_, _, rfl, rfl, ?_⟩
    refine ⟨_, rfl, by show 3 ≤ sizeLine; decide, fun p np => ?_⟩
    have D3' := D3.same (same_upd (o := .lst [.int 9, .int 99, .int 999]) np)
    obtain ⟨zs, hd3⟩ := D3.lst
    refine ⟨d, s, p, ns, _, rfl, D3', fun z => ?_, .inl (.inl upd_same), by decide, fun v H4 hv K4 D4 => ?_⟩
    · rw [z, hd3] at np
      cases np
    have hw : ∃ wd : Int, v = .int wd ∧ 9 ≤ wd ∧ wd ≤ 999 := by
      rcases List.mem_cons.mp hv with rfl | hv
      · exact ⟨9, rfl, by decide, by decide⟩
      rcases List.mem_cons.mp hv with rfl | hv
      · exact ⟨99, rfl, by decide, by decide⟩
      rcases List.mem_cons.mp hv with rfl | hv
      · exact ⟨999, rfl, by decide, by decide⟩
      cases hv
    obtain ⟨wd, rfl, w0, w1⟩ := hw
    have K40 := (((K1.trans K2).trans K3).trans (Keep.of (same_upd (o := .lst [.int 9, .int 99, .int 999]) np))).trans K4
    refine ⟨_, _, _, rfl, ?_⟩
    refine ⟨by show 0 ≤ sizeLine; decide, fun l nl => ?_⟩
    have A0 := Acc.start hD K40 D4 nl
    refine ⟨_, rfl, d, s, 4, ns, rfl, A0.dr, by decide, fun n H5 n0 n1 K5 D5 => ?_⟩
    refine ⟨_, _, rfl, rfl, ?_⟩
    refine ⟨3 + n, rfl, by omega, by omega, for_range (n := (3 + n).toNat) (fun i σ H' => ∃ rs x y z, σ = [some (.ref d), some (.int (1 + q0)), some (.int (p0 - 1000)), some (.int (r0 - 1000)), some (.int wd), some (.ref l), x, y, z] ∧ Acc K H d s ns l H' rs ∧ (∀ r ∈ rs, BndS r) ∧ rs.length = i) ⟨_, none, none, none, rfl, A0.keep K5 D5, List.forall_mem_nil _, rfl⟩ ?_ ?_⟩
    · rintro i σ H6 hi ⟨rs, x, y, z, rfl, A, hb, hl⟩
      have D6 := A.dr
      have m0 : OkMul 2 wd := mulOkL (by omega) (by omega)
      obtain ⟨vs, hv, hr'⟩ := A.rows
      repeat (walk_at "rd")
      refine ⟨d, s, _, ns, rfl, D6, by omega, fun a H7 a0 a1 K7 D7 => ?_⟩
      have A7 := A.keep K7 D7
      repeat (walk_at "rd")
      refine ⟨d, s, _, ns, rfl, D7, by omega, fun b H8 b0 b1 K8 D8 => ?_⟩
      have A8 := A7.keep K8 D8
      have hv8 := K8 _ _ A.ne (K7 _ _ A.ne hv)
      have e1 : ((a - wd) * (p0 - 1000)).natAbs ≤ 999 * 1000 := by
        rw [Int.natAbs_mul]
        exact Nat.mul_le_mul (by omega) (by omega)
      have e2 : ((b - wd) * (r0 - 1000)).natAbs ≤ 999 * 1000 := by
        rw [Int.natAbs_mul]
        exact Nat.mul_le_mul (by omega) (by omega)
      have m1 : OkMul (a - wd) (p0 - 1000) := mulOkL (by omega) (by omega)
      have m2 : OkMul (b - wd) (r0 - 1000) := mulOkL (by omega) (by omega)
      have m3 : OkDiv ((a - wd) * (p0 - 1000) + (b - wd) * (r0 - 1000)) (1 + q0) := divOk (by omega) (by omega)
      have e3 := div_abs ((a - wd) * (p0 - 1000) + (b - wd) * (r0 - 1000)) (q := 1 + q0) (by omega)
      repeat (walk_at "rd")
      refine ⟨.inl ⟨rfl, _, .inl (.inl hv8)⟩, ?_⟩
      repeat (walk_at "rd")
      refine ⟨d, s, _, ns, rfl, D8, by omega, fun c H9 c0 c1 K9 D9 => ?_⟩
      have A9 := A8.keep K9 D9
      refine ⟨_, _, rfl, rfl, by show 3 ≤ sizeLine; decide, fun p9 np9 => ?_⟩
      have hv9 := K9 _ _ A.ne hv8
      refine ⟨l, vs, _, rfl, rfl, same_upd np9 _ _ hv9, ?_, ?_⟩
      · rw [hr'.len]
        exact small1000 (by omega)
      · refine ⟨_, _, _, _, rfl, A9.push hv9 np9, mem_more hb ?_, ?_⟩
        · constructor <;> (dsimp only; omega)
        · rw [len_more rfl]
          omega
    · rintro σ H6 ⟨rs, x, y, z, rfl, A, hb, hl⟩
      exact ⟨_, rfl, q l rs H6 A.new A.rows hb (by omega) A.kp A.dr⟩
end
end K01

namespace K01
open PySem PySem.Spec PyProof.Rows L2 My
local macro_rules | `(tactic| walk_at "side") => `(tactic| (first
  | assumption
  | (refine OkMod.mk ?_; omega)
  | (refine mulOkL ?_ ?_ <;> omega)
  | (refine mulOkR ?_ ?_ <;> omega)
  | (refine divOk ?_ ?_ <;> omega)))
local macro_rules | `(tactic| walk_at "rd") => `(tactic| (first
  | with_reducible refine ⟨_, rfl, ?_⟩
  | refine ⟨_, rfl, ?_⟩
  | refine ⟨_, _, rfl, rfl, ?_⟩
  | refine And.intro (by walk_at "side") ?_
  | refine ⟨_, _, rfl, asm (by assumption), ?_⟩
  | refine ⟨_, _, rfl, asm ?_⟩))
section
variable {P : Program} {w : World} {K : PySem.W.Frag} {mg : Str → Option Value} {base : Heap}
local macro_rules | `(tactic| walk_at "tk") => `(tactic| refine ⟨_, _, _, _, rfl, asm (by assumption), asm (by omega), fun _ _ _ _ _ _ => ?_⟩)
local macro_rules | `(tactic| walk_at "go") => `(tactic| repeat (first | walk_at "rd" | walk_at "tk"))
def cutR (rs : List LineR) (lo hi : Option Int) : List LineR := (rs.drop (HT.sIx rs.length 0 lo)).take (HT.sIx rs.length rs.length hi - HT.sIx rs.length 0 lo)
theorem RowsV.cut {H : Hp} {vs : List V} {rs : List LineR} (h : RowsV K H vs rs) (lo hi : Option Int) : RowsV K H (cutV vs lo hi) (cutR rs lo hi) := by
  unfold cutV cutR
  rw [h.len]
  exact (h.drop _).take _
theorem cutR_mem {rs : List LineR} {lo hi : Option Int} {r : LineR} (h : r ∈ cutR rs lo hi) : r ∈ rs := List.mem_of_mem_drop (List.mem_of_mem_take h)
theorem cutR_len (rs : List LineR) (lo hi : Option Int) : (cutR rs lo hi).length ≤ rs.length := by
  unfold cutR
  rw [List.length_take, List.length_drop]
  omega
theorem all_app {B : LineR → Prop} {rs qs : List LineR} (h : ∀ r ∈ rs, B r) (g : ∀ r ∈ qs, B r) : ∀ r ∈ rs ++ qs, B r := fun r hr => (List.mem_append.mp hr).elim (h r) (g r)
theorem all_cut {B : LineR → Prop} {rs : List LineR} {lo hi : Option Int} (h : ∀ r ∈ rs, B r) : ∀ r ∈ cutR rs lo hi, B r := fun r hr => h r (cutR_mem hr)
theorem turn_sz {x y a c : Int} (x1 : -1000000000000 < x) (x2 : x < 1000000000000) (y1 : -1000000000000 < y) (y2 : y < 1000000000000) (ha : a.natAbs ≤ 1048576) (hc : c.natAbs ≤ 1048576) : Sz2 (x * a + y * c) := by
  have e1 : (x * a).natAbs ≤ 1000000000000 * 1048576 := by
    rw [Int.natAbs_mul]
    exact Nat.mul_le_mul (by omega) ha
  have e2 : (y * c).natAbs ≤ 1000000000000 * 1048576 := by
    rw [Int.natAbs_mul]
    exact Nat.mul_le_mul (by omega) hc
  have h : (1000000000000 * 1048576 + 1000000000000 * 1048576 : Nat) < 2 ^ 200 := by decide +kernel
  unfold Sz2
  omega
theorem turn_bnd {r : LineR} {a b c e : Int} (h : BndS r) (ha : a.natAbs ≤ 1048576) (hb : b.natAbs ≤ 1048576) (hc : c.natAbs ≤ 1048576) (he : e.natAbs ≤ 1048576) : Bnd (r.1 * a + r.2.1 * c, r.1 * b + r.2.1 * e, r.2.2) :=
  ⟨turn_sz h.a1 h.a2 h.b1 h.b2 ha hc, turn_sz h.a1 h.a2 h.b1 h.b2 hb he, sz2 h.c1 h.c2⟩
theorem Acc.pushV {H H' : Hp} {d s l : Addr} {ns : List Int} {rs : List LineR} {v : V} {r : LineR} {vs : List V} (A : Acc K H d s ns l H' rs) (hl : H' l = some (.lst vs)) (hr : RowV K H' v r) : Acc K H d s ns l (upd H' l (.lst (vs ++ [v]))) (rs ++ [r]) := by
  obtain ⟨ws, h1, h2⟩ := A.rows
  have e : ws = vs := by
    rw [h1] at hl
    cases hl
    rfl
  subst e
  refine ⟨A.new, A.ne, ⟨_, upd_same, (h2.keep (Keep.upd l _ _) hl).app (.cons (RowV.keep (Keep.upd l _ _) hl hr) .nil)⟩, fun b' o n e => ?_, ?_, A.sc⟩
  · rw [upd_ne (ne_of_none e A.new)]
    exact A.kp _ _ n e
  · obtain ⟨k, g1, g2, g3⟩ := A.dr
    refine ⟨k, ?_, ?_, g3⟩
    · rw [upd_ne (Ne.symm A.ne)]
      exact g1
    · rcases A.sc with h | h
      · have nsl : s ≠ l := fun z => by
          rw [z] at h
          rcases h with h | ⟨o, h⟩ <;> rw [A.new] at h <;> cases h
        exact (Keep.upd l _ _).seq nsl g2
      · exact .inr h
theorem ok__law_rows {f f1 f2 f3 f4 f5 f6 f7 f8 : Addr} {fd fd1 fd2 fd3 fd4 fd5 fd6 fd7 fd8 : FuncData} (T : Nm mg) (C__law_take : Has P w K mg base "_law_take" 2 ["draw", "many"] (spTake K) f1 fd1)
    (C__law_small_rows : Has P w K mg base "_law_small_rows" 3 ["draw"] (spRows K BndS 6) f2 fd2) (C__law_long_rows : Has P w K mg base "_law_long_rows" 4 ["draw"] (spRows K Bnd 6) f3 fd3)
    (C__law_line_rows : Has P w K mg base "_law_line_rows" 3 ["draw"] (spRows K BndS 6) f4 fd4) (C__law_band_rows : Has P w K mg base "_law_band_rows" 3 ["draw"] (spRows K BndS 6) f5 fd5)
    (C__law_cell_rows : Has P w K mg base "_law_cell_rows" 4 ["draw"] (spRows K BndS 6) f6 fd6) (C__law_turn : Has P w K mg base "_law_turn" 3 ["draw"] (spTurn K) f7 fd7) (C__law_turned : Has P w K mg base "_law_turned" 1 ["row", "turn"] (spTurned K) f8 fd8)
    (F : Fun K "_law_rows" "_law_rows" s__law_rows f fd) : FnOk P w K mg base CX0 5 f fd ["draw"] (spRows K Bnd 24) := by
  refine F.ok sc__law_rows (fun vs H Q E h => ?_) (fun cdv A outer s H vs Q E hr h => ?_)
  · obtain ⟨d, s, ns, rfl, _⟩ := h
    rfl
  · obtain ⟨d, s, ns, rfl, hD, q⟩ := h
    refine ⟨_, (pss_cons (ps_set (i := 1) sc__law_rows.nd rfl (Or.inl rfl) (pe_call C__law_take.G (hr.mono (by decide)) (by rfl) C__law_take.g C__law_take.k C__law_take.b .nil pass0 (pa_cons (pv 0) (pa_cons pe_int pa_nil))))
    (pss_cons (ps_if (pt_cmpR op_lt (pv 1) pe_int (nomark _))
      (pss_one (ps_ret (pe_call C__law_small_rows.G (hr.mono (by decide)) (by rfl) C__law_small_rows.g C__law_small_rows.k C__law_small_rows.b .nil pass0 (pa_cons (pv 0) pa_nil))))
      pss_nil)
    (pss_cons (ps_if (pt_cmpR op_eq (pv 1) pe_int (nomark _))
      (pss_one (ps_ret (pe_call C__law_long_rows.G (hr.mono (by decide)) (by rfl) C__law_long_rows.g C__law_long_rows.k C__law_long_rows.b .nil pass0 (pa_cons (pv 0) pa_nil))))
      pss_nil)
    (pss_cons (ps_if (pt_cmpR op_eq (pv 1) pe_int (nomark _))
      (pss_one (ps_ret (pe_call C__law_line_rows.G (hr.mono (by decide)) (by rfl) C__law_line_rows.g C__law_line_rows.k C__law_line_rows.b .nil pass0 (pa_cons (pv 0) pa_nil))))
      pss_nil)
    (pss_cons (ps_set (i := 2) sc__law_rows.nd rfl (Or.inl rfl) (pe_ifExp (pt_cmpR op_lt (pv 1) pe_int (nomark _)) (pe_call C__law_band_rows.G (hr.mono (by decide)) (by rfl) C__law_band_rows.g C__law_band_rows.k C__law_band_rows.b .nil pass0 (pa_cons (pv 0) pa_nil)) (pe_call C__law_cell_rows.G (hr.mono (by decide)) (by rfl) C__law_cell_rows.g C__law_cell_rows.k C__law_cell_rows.b .nil pass0 (pa_cons (pv 0) pa_nil))))
    (pss_cons (ps_set (i := 3) sc__law_rows.nd rfl (Or.inr rfl) (pe_call C__law_turn.G (hr.mono (by decide)) (by rfl) C__law_turn.g C__law_turn.k C__law_turn.b .nil pass0 (pa_cons (pv 0) pa_nil)))
    (pss_cons (ps_setLc (i := 2) (own := [("row", 5)]) (g := gName 5) (by rfl) sc__law_rows.nd rfl rfl (sw_true rfl rfl rfl (by decide +kernel)) (pi_list (pv 2)) (by exact blkOk_by (N := ["draw", "kind", "rows", "turn", "at", "row"]) (sc := defScope s__law_rows) (by decide +kernel)) (fun _ _ _ _ _ => by exact (pg_name (i := 5) sc__law_rows.nd rfl (Or.inl rfl))) (fun _ _ _ _ _ => pts_nil) (fun _ _ _ _ _ => (pe_call C__law_turned.G (hr.mono (by decide)) (by rfl) C__law_turned.g C__law_turned.k C__law_turned.b .nil pass0 (pa_cons (pv 5) (pa_cons (pv 3) pa_nil)))))
    (pss_cons (ps_if (pt_cmpR op_eq (pe_call C__law_take.G (hr.mono (by decide)) (by rfl) C__law_take.g C__law_take.k C__law_take.b .nil pass0 (pa_cons (pv 0) (pa_cons pe_int pa_nil))) pe_int (nomark _))
      (pss_one (ps_set (i := 2) sc__law_rows.nd rfl (Or.inl rfl) (pe_op op_cat (pv 2) (pe_call C__law_small_rows.G (hr.mono (by decide)) (by rfl) C__law_small_rows.g C__law_small_rows.k C__law_small_rows.b .nil pass0 (pa_cons (pv 0) pa_nil)))))
      pss_nil)
    (pss_cons (ps_set (i := 4) sc__law_rows.nd rfl (Or.inl rfl) (pe_call C__law_take.G (hr.mono (by decide)) (by rfl) C__law_take.g C__law_take.k C__law_take.b .nil pass0 (pa_cons (pv 0) (pa_cons (pe_op op_add (pe_callB call_lenL (by rfl) T.len (by decide +kernel) (pa_cons (pv 2) pa_nil)) pe_int) pa_nil))))
    (pss_one (ps_ret (pe_op op_cat (pe_slice sl_list (pv 2) (po_some (pv 4)) po_none) (pe_slice sl_list (pv 2) po_none (po_some (pv 4))))))))))))))), ?_⟩
    refine ⟨_, rfl, d, s, 9, ns, rfl, hD, by decide, fun k H1 k0 k1 K1 D1 => ?_⟩
    have fin : ∀ l rs H', Acc K H1 d s ns l H' rs → (∀ r ∈ rs, Bnd r) → rs.length ≤ 24 → Q (.ref l) H' := fun l rs H' A hb hl =>
      let A' := Acc.up hD K1 A
      q l rs H' A'.new A'.rows hb hl A'.kp A'.dr
    refine ⟨_, rfl, _, _, rfl, rfl, _, rfl, ite2 (fun _ => ?_) (fun _ => ?_)⟩
    · exact ⟨_, rfl, d, s, ns, rfl, D1, fun l rs H' nl ra hb hl kp D' => fin l rs H' (Acc.made D1 nl ra kp D') (fun r hr => (hb r hr).up) (by omega)⟩
    refine ⟨_, rfl, rfl, _, rfl, ite2 (fun _ => ?_) (fun _ => ?_)⟩
    · exact ⟨_, rfl, d, s, ns, rfl, D1, fun l rs H' nl ra hb hl kp D' => fin l rs H' (Acc.made D1 nl ra kp D') hb (by omega)⟩
    refine ⟨_, rfl, rfl, _, rfl, ite2 (fun _ => ?_) (fun _ => ?_)⟩
    · exact ⟨_, rfl, d, s, ns, rfl, D1, fun l rs H' nl ra hb hl kp D' => fin l rs H' (Acc.made D1 nl ra kp D') (fun r hr => (hb r hr).up) (by omega)⟩
    dsimp only [tNext]
    refine sIf_via (fun v H' => ∃ l rs, v = .ref l ∧ Acc K H1 d s ns l H' rs ∧ (∀ r ∈ rs, BndS r) ∧ rs.length ≤ 6) (fun Q' h' => ?_) ?_
    · refine ⟨_, rfl, _, _, rfl, rfl, _, rfl, ite2 (fun _ => ?_) (fun _ => ?_)⟩
      · exact ⟨_, rfl, d, s, ns, rfl, D1, fun l rs H' nl ra hb hl kp D' => h' _ _ ⟨l, rs, rfl, Acc.made D1 nl ra kp D', hb, hl⟩⟩
      · exact ⟨_, rfl, d, s, ns, rfl, D1, fun l rs H' nl ra hb hl kp D' => h' _ _ ⟨l, rs, rfl, Acc.made D1 nl ra kp D', hb, hl⟩⟩
    · rintro v H2 ⟨l, rs, rfl, A2, hb, hl⟩
      refine ⟨_, rfl, d, s, ns, rfl, A2.dr, fun t a b c e H3 ht ha hbb hc he K3 D3 => ?_⟩
      have A3 := A2.keep K3 D3
      obtain ⟨vs, hv, hr'⟩ := A3.rows
      refine ⟨_, rfl, l, rfl, ⟨vs, .inl (.inl hv)⟩, fun l2 nl2 => lc_list (xs := vs) (fun i H' => ∃ qs, Acc K H1 d s ns l2 H' qs ∧ (∀ r ∈ qs, Bnd r) ∧ qs.length = i ∧ H' l = some (.lst vs) ∧ RowsV K H' vs rs ∧ SqT K H' t [.int a, .int b, .int c, .int e]) ?_ ?_ ?_ ?_⟩
      · have S2 : Same H3 (upd H3 l2 (.lst [])) := same_upd nl2
        refine ⟨[], Acc.start D1 A3.kp A3.dr nl2, List.forall_mem_nil _, rfl, S2 _ _ hv, hr'.same S2, Same.tup S2 (.inl (.inl ht))⟩
      · rintro i H' _ ⟨qs, _, _, _, h, _, _⟩
        exact .inl (.inl h)
      · rintro i x H4 hx ⟨qs, A4, hq, hn, hl4, hr4, ht4⟩
        obtain ⟨r, hri, hrv⟩ := hr4.at hx
        have hbr := hb r (List.mem_of_getElem? hri)
        refine ⟨rfl, tYes_in ?_⟩
        refine ⟨_, rfl, _, rfl, x, t, r, a, b, c, e, rfl, hrv, ht4, hbr, ha, hbb, hc, he, fun p H5 S5 np hp => ?_⟩
        have A5 := A4.keep (Keep.of S5) (A4.dr.same S5)
        obtain ⟨ws, hw, hwr⟩ := A5.rows
        have ki : i < vs.length := (List.getElem?_eq_some_iff.mp hx).1
        have n2 : l ≠ l2 := fun z => by
          rw [z, nl2] at hv
          cases hv
        refine ⟨ws, hw, ?_, qs ++ [_], Acc.pushV A5 hw hp, mem_more hq (turn_bnd hbr ha hbb hc he), len_more hn, ?_, ?_, ?_⟩
        · rw [hwr.len]
          exact small1000 (by have := hr'.len; omega)
        · rw [upd_ne n2]
          exact S5 _ _ hl4
        · exact (hr4.same S5).keep (Keep.upd l2 _ _) hw
        · exact (Keep.upd l2 _ _).tupD hw (Same.tup S5 ht4)
      · rintro H4 ⟨qs, A4, hq, hn, hl4, hr4, ht4⟩
        have hq6 : qs.length ≤ 6 := by
          rw [hn, hr'.len]
          exact hl
        clear ht4 hr4 hl4 hn
        dsimp only [gName]
        refine sSeq_via (fun σ' H' => ∃ l3 qs, σ' = [some (.ref d), some (.int k), some (.ref l3), some (.ref t), none, none] ∧ Acc K H1 d s ns l3 H' qs ∧ (∀ r ∈ qs, Bnd r) ∧ qs.length ≤ 12) (fun nx hx => ?_) ?_
        · refine ⟨_, rfl, d, s, 5, ns, rfl, A4.dr, by decide, fun r5 H5 r50 r51 K5 D5 => ?_⟩
          have A5 := A4.keep K5 D5
          refine ⟨rfl, _, rfl, ite2 (fun _ => ?_) (fun _ => hx _ _ ⟨l2, qs, rfl, A5, hq, by omega⟩)⟩
          refine ⟨_, rfl, _, rfl, d, s, ns, rfl, D5, fun l5 rs5 H6 nl5 ra5 hb5 hl5 K6 D6 => ?_⟩
          have A6 := A5.keep K6 D6
          obtain ⟨ws, hw, hwr⟩ := A6.rows
          obtain ⟨zs, hz, hzr⟩ := ra5
          refine ⟨l2, l5, ws, zs, rfl, rfl, hw, hz, ?_, fun p np => ?_⟩
          · rw [hwr.len, hzr.len]
            exact Nat.le_of_lt (small1000 (by omega))
          · exact hx _ _ ⟨p, _, rfl, Acc.of D1 A6.kp A6.dr np (hwr.app hzr), all_app hq (fun r hr => (hb5 r hr).up), by rw [List.length_append]; omega⟩
        · rintro σ' H5 ⟨l3, qs3, rfl, A5, hq5, hn5⟩
          obtain ⟨vs5, hv5, hr5⟩ := A5.rows
          refine ⟨_, rfl, _, rfl, l3, vs5, rfl, .inl (.inl hv5), _, _, rfl, rfl, d, s, _, ns, rfl, A5.dr, by omega, fun g H6 g0 g1 K6 D6 => ?_⟩
          have A6 := A5.keep K6 D6
          have hv6 := K6 _ _ A5.ne hv5
          have hr6 : RowsV K H6 vs5 qs3 := hr5.keep K6 A5.dr.lst.choose_spec
          refine ⟨_, rfl, _, rfl, g, rfl, l3, vs5, rfl, .inl (.inl hv6), fun p np => ?_⟩
          have S7 : Same H6 (upd H6 p (.lst (cutV vs5 (some g) none))) := same_upd np
          refine ⟨_, rfl, _, rfl, g, rfl, l3, vs5, rfl, .inl (.inl (S7 _ _ hv6)), fun p2 np2 => ?_⟩
          have S8 : Same (upd H6 p (.lst (cutV vs5 (some g) none))) (upd (upd H6 p (.lst (cutV vs5 (some g) none))) p2 (.lst (cutV vs5 none (some g)))) := same_upd np2
          have hr8 := (hr6.same S7).same S8
          refine ⟨p, p2, _, _, rfl, rfl, S8 _ _ upd_same, upd_same, ?_, fun p3 np3 => ?_⟩
          · have h1 := cutV_length vs5 (some g) none
            have h2 := cutV_length vs5 none (some g)
            have h3 := hr5.len
            exact Nat.le_of_lt (small1000 (by omega))
          · have S9 := (S7.trans S8).trans (same_upd (o := .lst (cutV vs5 (some g) none ++ cutV vs5 none (some g))) np3)
            have A9 := Acc.of D1 (A6.kp.trans (Keep.of (S7.trans S8))) (D6.same (S7.trans S8)) np3 ((RowsV.cut hr8 (some g) none).app (RowsV.cut hr8 none (some g)))
            refine fin p3 _ _ A9 (all_app (all_cut hq5) (all_cut hq5)) ?_
            have h1 := cutR_len qs3 (some g) none
            have h2 := cutR_len qs3 none (some g)
            rw [List.length_append]
            omega
end
end K01

namespace K01
open PySem PySem.Spec PyProof.Rows L2 My
local macro_rules | `(tactic| walk_at "side") => `(tactic| (first
  | assumption
  | (refine OkMod.mk ?_; omega)
  | (refine mulOkL ?_ ?_ <;> omega)
  | (refine mulOkR ?_ ?_ <;> omega)
  | (refine divOk ?_ ?_ <;> omega)))
local macro_rules | `(tactic| walk_at "rd") => `(tactic| (first
  | with_reducible refine ⟨_, rfl, ?_⟩
  | refine ⟨_, rfl, ?_⟩
  | refine ⟨_, _, rfl, rfl, ?_⟩
  | refine And.intro (by walk_at "side") ?_
  | refine ⟨_, _, rfl, asm (by assumption), ?_⟩
  | refine ⟨_, _, rfl, asm ?_⟩))
section
variable {P : Program} {w : World} {K : PySem.W.Frag} {mg : Str → Option Value} {base : Heap}

/-! ### is_number, is_line_row -/
def numV : V → Option Bool
  | .int _ => some true
  | .bl _ => some false
  | .non => some false
  | .str _ => some false
  | _ => none
def spIsNum : Sp := fun vs H Q _ => ∃ v b, vs = [v] ∧ numV v = some b ∧ Q (.bl b) H
theorem ok_is_number {f : Addr} {fd : FuncData} (T : Nm mg) (F : Fun K "is_number" "is_number" s_is_number f fd) : FnOk P w K mg base CX0 1 f fd ["value"] spIsNum := by
  refine F.ok sc_is_number (fun vs H Q E h => ?_) (fun cdv A outer s H vs Q E hr h => ?_)
  · obtain ⟨v, b, rfl, _⟩ := h
    rfl
  · obtain ⟨v, b, rfl, hv, q⟩ := h
    refine ⟨_, (pss_one (ps_ret (pe_and (pe_callB call_isi (by rfl) T.isinstance (by decide +kernel) (pa_cons (pv 0) (pa_cons (pe_ty (n := "int") (by rfl) T.int (by decide +kernel)) pa_nil))) (pe_one (pe_not (pe_callB call_isi (by rfl) T.isinstance (by decide +kernel) (pa_cons (pv 0) (pa_cons (pe_ty (n := "bool") (by rfl) T.bool (by decide +kernel)) pa_nil)))))))), ?_⟩
    cases v with
    | int i =>
      cases hv
      refine ⟨_, rfl, _, _, _, _, _, rfl, .ty _, .base (.int _), kit_ty (by decide +kernel), true, rfl, iteT ?_⟩
      exact ⟨_, rfl, _, _, _, _, _, rfl, .ty _, .base (.int _), kit_ty (by decide +kernel), false, rfl, q⟩
    | bl i =>
      cases hv
      refine ⟨_, rfl, _, _, _, _, _, rfl, .ty _, .base (.bl _), kit_ty (by decide +kernel), true, rfl, iteT ?_⟩
      exact ⟨_, rfl, _, _, _, _, _, rfl, .ty _, .base (.bl _), kit_ty (by decide +kernel), true, rfl, q⟩
    | non =>
      cases hv
      exact ⟨_, rfl, _, _, _, _, _, rfl, .ty _, .base .non, kit_ty (by decide +kernel), false, rfl, iteF q⟩
    | str i =>
      cases hv
      exact ⟨_, rfl, _, _, _, _, _, rfl, .ty _, .base (.str _), kit_ty (by decide +kernel), false, rfl, iteF q⟩
    | _ => cases hv
theorem tyT {H : Hp} {a : Addr} {xs : List V} (h : SqT K H a xs) : TyX K H (.ref a) (.type "tuple") := by
  rcases h with (h | ⟨o, h⟩) | ⟨o, its, n, h, c, _⟩
  · exact .base (.tup h)
  · exact .fTuple h
  · exact .kTuple h c
theorem call_lenT {X : Cx} : CallR X (.builtin "len") (fun xs H Q => ∃ p ys, xs = [.ref p] ∧ SqT X.K H p ys ∧ Q (.int ys.length) H) := fun pins s σ H xs us Q I r ⟨p, ys, e, h, q⟩ => call_len_seq pins s σ H xs us Q I r ⟨p, ys, e, .inr h, q⟩
/-- not a row of three numbers -/
def NotRow (K : PySem.W.Frag) (H : Hp) (v : V) : Prop :=
  (∃ t, TyX K H v t ∧ PySem.W.kitOne K t (.type "tuple") = some false) ∨ (∃ a xs, v = .ref a ∧ SqT K H a xs ∧ xs.length ≠ 3) ∨
    ∃ a x y z i j k, v = .ref a ∧ SqT K H a [x, y, z] ∧ numV x = some i ∧ numV y = some j ∧ numV z = some k ∧ (i && (j && k)) = false
def LineB (K : PySem.W.Frag) (H : Hp) (v : V) : Bool → Prop
  | true => ∃ r, RowV K H v r
  | false => NotRow K H v
def spLine (K : PySem.W.Frag) : Sp := fun vs H Q _ => ∃ v b, vs = [v] ∧ LineB K H v b ∧ Q (.bl b) H
theorem ok_is_line_row {f f1 : Addr} {fd fd1 : FuncData} (T : Nm mg) (C_is_number : Has P w K mg base "is_number" 1 ["value"] spIsNum f1 fd1) (F : Fun K "is_line_row" "is_line_row" s_is_line_row f fd) : FnOk P w K mg base CX0 2 f fd ["row"] (spLine K) := by
  refine F.ok sc_is_line_row (fun vs H Q E h => ?_) (fun cdv A outer s H vs Q E hr h => ?_)
  · obtain ⟨v, b, rfl, _⟩ := h
    rfl
  · obtain ⟨v, b, rfl, hv, q⟩ := h
    refine ⟨_, (pss_cons (ps_if (PW.pt (pw_or (pt_not (pt_val (pe_callB call_isi (by rfl) T.isinstance (by decide +kernel) (pa_cons (pv 0) (pa_cons (pe_ty (n := "tuple") (by rfl) T.tuple (by decide +kernel)) pa_nil))))) (pw_or1 (pt_cmpR op_ne (pe_callB call_lenT (by rfl) T.len (by decide +kernel) (pa_cons (pv 0) pa_nil)) pe_int (nomark _)))))
      (pss_one (ps_ret pe_bl))
      pss_nil)
    (pss_one (ps_ret (pe_and (pe_call C_is_number.G (hr.mono (by decide)) (by rfl) C_is_number.g C_is_number.k C_is_number.b .nil pass0 (pa_cons (pe_ix ix_tup (pv 0) pe_int (fun _ _ => rfl)) pa_nil)) (pe_and (pe_call C_is_number.G (hr.mono (by decide)) (by rfl) C_is_number.g C_is_number.k C_is_number.b .nil pass0 (pa_cons (pe_ix ix_tup (pv 0) pe_int (fun _ _ => rfl)) pa_nil)) (pe_one (pe_call C_is_number.G (hr.mono (by decide)) (by rfl) C_is_number.g C_is_number.k C_is_number.b .nil pass0 (pa_cons (pe_ix ix_tup (pv 0) pe_int (fun _ _ => rfl)) pa_nil)))))))), ?_⟩
    have hv' : (b = false ∧ ∃ t, TyX K H v t ∧ PySem.W.kitOne K t (.type "tuple") = some false) ∨ (b = false ∧ ∃ a xs, v = .ref a ∧ SqT K H a xs ∧ xs.length ≠ 3) ∨
        ∃ a x y z i j k, v = .ref a ∧ SqT K H a [x, y, z] ∧ numV x = some i ∧ numV y = some j ∧ numV z = some k ∧ (i && (j && k)) = b := by
      cases b with
      | true =>
        obtain ⟨r, a, e, h⟩ := hv
        exact .inr (.inr ⟨a, _, _, _, true, true, true, e, h, rfl, rfl, rfl, rfl⟩)
      | false =>
        rcases hv with h | h | h
        · exact .inl ⟨rfl, h⟩
        · exact .inr (.inl ⟨rfl, h⟩)
        · exact .inr (.inr h)
    rcases hv' with ⟨rfl, t, ty, kt⟩ | ⟨rfl, a, xs, rfl, hx, n3⟩ | ⟨a, x, y, z, i, j, k, rfl, hx, hi, hj, hk, rfl⟩
    · exact ⟨_, rfl, _, _, _, _, _, rfl, .ty _, ty, kt, false, rfl, iteT q⟩
    · refine ⟨_, rfl, _, _, _, _, _, rfl, .ty _, tyT hx, kit_ty (by decide +kernel), true, rfl, iteF ?_⟩
      refine ⟨_, rfl, a, xs, rfl, hx, rfl, _, rfl, ?_⟩
      have e : (!decide (V.int (xs.length : Int) = V.int 3)) = true := by
        rw [dec_int]
        simp
        omega
      rw [e]
      exact iteT q
    · refine ⟨_, rfl, _, _, _, _, _, rfl, .ty _, tyT hx, kit_ty (by decide +kernel), true, rfl, iteF ?_⟩
      refine ⟨_, rfl, a, _, rfl, hx, rfl, _, rfl, ?_⟩
      refine iteF ?_
      refine ⟨_, rfl, a, _, 0, x, rfl, rfl, hx, rfl, x, i, rfl, hi, i, rfl, ?_⟩
      cases i with
      | false => exact iteF q
      | true =>
        refine iteT ⟨_, rfl, a, _, 1, y, rfl, rfl, hx, rfl, y, j, rfl, hj, j, rfl, ?_⟩
        cases j with
        | false => exact iteF q
        | true => exact iteT ⟨_, rfl, a, _, 2, z, rfl, rfl, hx, rfl, z, k, rfl, hk, q⟩
/-! ### line_rows -/
theorem pi_or {X : Cx} {tg iter : Expr} {wi wj : TI} (h1 : PI X tg iter wi) (h2 : PI X tg iter wj) : PI X tg iter (fun σ H R => wi σ H R ∨ wj σ H R) := ⟨fun pins s σ H R I h => h.elim (h1.run pins s σ H R I) (h2.run pins s σ H R I)⟩
theorem walkT {a : Addr} {xs : List V} : Walk (IteT K a) xs.length (fun H => SqT K H a xs) (YPair (fun i => some (.int (i : Nat))) (fun i => xs[i]?)) where
  goes := fun j _ lt hh => ⟨xs, xs[j], hh, List.getElem?_eq_getElem lt⟩
  stops := fun _ hh => ⟨xs, hh, Nat.le_refl xs.length⟩
  yields := fun j H0 z H1 _ hh yy => by
    obtain ⟨T, c, e1, nT, e2, cc⟩ := yy
    exact ⟨T, _, c, e1, nT, e2, rfl, cc xs hh⟩
theorem tyx_same {H H' : Hp} {v : V} {t : Value} (e : Same H H') (h : TyX K H v t) : TyX K H' v t := by
  cases h with
  | base b =>
    refine .base ?_
    cases b with
    | non => exact .non
    | bl x => exact .bl x
    | int x => exact .int x
    | str x => exact .str x
    | flt x => exact .flt x
    | lst q => exact .lst (e _ _ q)
    | frz q => exact .frz (e _ _ q)
    | tup q => exact .tup (e _ _ q)
    | dK q => exact .dK (e _ _ q)
    | dT q => exact .dT (e _ _ q)
    | ins q h1 h2 h3 h4 h5 => exact .ins (e _ _ q) h1 h2 h3 h4 h5
  | byt b => exact .byt b
  | set q => exact .set (e _ _ q)
  | kList q c => exact .kList q c
  | kTuple q c => exact .kTuple q c
  | kDict q c => exact .kDict q c
  | fTuple q => exact .fTuple (e _ _ q)
  | fDict q => exact .fDict (e _ _ q)
theorem NotRow.same {H H' : Hp} {v : V} (e : Same H H') (h : NotRow K H v) : NotRow K H' v := by
  rcases h with ⟨t, h, k⟩ | ⟨a, xs, h1, h2, h3⟩ | ⟨a, x, y, z, i, j, k, h1, h2, h3⟩
  · exact .inl ⟨t, tyx_same e h, k⟩
  · exact .inr (.inl ⟨a, xs, h1, Same.tup e h2, h3⟩)
  · exact .inr (.inr ⟨a, x, y, z, i, j, k, h1, Same.tup e h2, h3⟩)
/-- the items of a list or a tuple -/
def SqA (K : PySem.W.Frag) (H : Hp) (a : Addr) (xs : List V) : Prop := SqL K H a xs ∨ SqT K H a xs
theorem SqA.same {H H' : Hp} {a : Addr} {xs : List V} (e : Same H H') (h : SqA K H a xs) : SqA K H' a xs := h.imp e.seq (Same.tup e)
def spLineRows (K : PySem.W.Frag) (CB : Addr) : Sp := fun vs H Q E => ∃ x, vs = [x] ∧
  ((∃ t, TyX K H x t ∧ PySem.W.kitAny K t [.type "list", .type "tuple"] = some false ∧ ∀ d H', Same H H' → H' d = some (.xd [(("number" : Str), .non)]) → E (.ref CB) (some d) H') ∨
  ∃ a xs rs, x = .ref a ∧ SqA K H a xs ∧ RowsV K H (xs.take rs.length) rs ∧ rs.length ≤ xs.length ∧
    (rs.length = xs.length → ∀ p H', Same H H' → SqT K H' p xs → RowsV K H' xs rs → Q (.ref p) H') ∧
    (rs.length < xs.length → (∃ y, xs[rs.length]? = some y ∧ NotRow K H y) ∧ ∀ d H', Same H H' → H' d = some (.xd [(("number" : Str), .int rs.length)]) → E (.ref CB) (some d) H'))
theorem list_or {H : Hp} {a : Addr} {xs : List V} (h : SqA K H a xs) : ∃ t, TyX K H (.ref a) t ∧ PySem.W.kitAny K t [.type "list", .type "tuple"] = some true := by
  rcases h with h | h
  · refine ⟨.type "list", ?_, kitAny_cons (b := true) (kit_ty (by decide +kernel)) (fun z => Bool.noConfusion z) fun _ => rfl⟩
    rcases h with (h | ⟨o, h⟩) | ⟨o, its, n, h, c, _⟩
    · exact .base (.lst h)
    · exact .base (.frz h)
    · exact .kList h c
  · exact ⟨.type "tuple", tyT h, kitAny_cons (b := false) (kit_ty (by decide +kernel)) (fun _ => kitAny_cons (b := true) (kit_ty (by decide +kernel)) (fun z => Bool.noConfusion z) fun _ => rfl) fun z => Bool.noConfusion z⟩
theorem ok_line_rows {f f1 CB fI cda cc : Addr} {fd fd1 : FuncData} (T : Nm mg) (B : Xc.Own P K mg "BadRegion" "number" CB fI cda cc) (C_is_line_row : Has P w K mg base "is_line_row" 2 ["row"] (spLine K) f1 fd1) (F : Fun K "line_rows" "line_rows" s_line_rows f fd) : FnOk P w K mg base (L2.CX P w) 4 f fd ["rows"] (spLineRows K CB) := by
  refine F.okX sc_line_rows (fun vs H Q E h => ?_) (fun cdv A outer s H vs Q E hr h => ?_)
  · obtain ⟨x, rfl, _⟩ := h
    rfl
  · obtain ⟨x, rfl, h⟩ := h
    refine ⟨_, (pss_cons (ps_if (pt_not (pt_val (pe_callB call_isiT (by rfl) T.isinstance (by decide +kernel) (pa_cons (pv 0) (pa_cons (pe_tup (pa_cons (pe_ty (n := "list") (by rfl) T.list (by decide +kernel)) (pa_cons (pe_ty (n := "tuple") (by rfl) T.tuple (by decide +kernel)) pa_nil))) pa_nil)))))
      (pss_one (ps_raiseX rfl B Xc.fld_number hr (takes_of rfl rfl rfl rfl) (pa_cons pe_non pa_nil) (by rfl) (by decide)))
      pss_nil)
    (pss_cons (ps_for (passes_of rfl) rfl (pi_or (pi_enum (by rfl) T.enumerate (pa_cons (pv 0) pa_nil)) (pi_enumT (by rfl) T.enumerate (pa_cons (pv 0) pa_nil))) (pg_tup rfl (pgs_cons (pg_name (i := 1) sc_line_rows.nd rfl (Or.inl rfl)) (pgs_cons (pg_name (i := 2) sc_line_rows.nd rfl (Or.inl rfl)) pgs_nil)))
      (pss_one (ps_if (pt_not (pt_val (pe_call C_is_line_row.G (hr.mono (by decide)) (by rfl) C_is_line_row.g C_is_line_row.k C_is_line_row.b .nil pass0 (pa_cons (pv 2) pa_nil))))
      (pss_one (ps_raiseX rfl B Xc.fld_number hr (takes_of rfl rfl rfl rfl) (pa_cons (pv 1) pa_nil) (by rfl) (by decide)))
      pss_nil)))
    (pss_one (ps_ret (pe_callTy call_tuple_of (by rfl) T.tuple (by decide +kernel) (pa_cons (pv 0) pa_nil)))))), ?_⟩
    rcases h with ⟨t, ty, kt, q⟩ | ⟨a, xs, rs, rfl, hx, hr', hl, q1, q2⟩
    · refine ⟨_, rfl, by show 2 ≤ sizeLine; decide, fun p np => ?_⟩
      refine ⟨_, p, _, t, _, false, rfl, upd_same, .cons (.ty _) (.cons (.ty _) .nil), tyx_same (same_upd np) ty, kt, false, rfl, iteT ?_⟩
      exact ⟨_, rfl, fun d nd => q d _ ((same_upd np).trans (same_upd nd)) upd_same⟩
    · obtain ⟨t, ty, kt⟩ := list_or hx
      refine ⟨_, rfl, by show 2 ≤ sizeLine; decide, fun p np => ?_⟩
      refine ⟨_, p, _, t, _, true, rfl, upd_same, .cons (.ty _) (.cons (.ty _) .nil), tyx_same (same_upd np) ty, kt, true, rfl, iteF ?_⟩
      have S0 : Same H (upd H p (.tup [.ty "list", .ty "tuple"])) := same_upd np
      rcases hx with hx | hx
      · refine .inl ⟨_, rfl, a, xs, rfl, Same.seq S0 hx, for_it (walk_enum (xs := xs)) (fun i σ H' => i ≤ rs.length ∧ ∃ u v, σ = [some (.ref a), u, v] ∧ Same H H') ⟨Nat.zero_le _, none, none, rfl, S0⟩ ?_ ?_ ?_⟩
        · rintro i σ H' _ ⟨_, _, _, _, S⟩
          exact Same.seq S hx
        · rintro i x σ H' H2 hi ⟨hin, u, v, rfl, S⟩ ⟨T', y, x', rfl, nT, rfl, e1, e2⟩
          cases e1
          have S2 := S.trans (same_upd (o := .tup [.int (i : Nat), x']) nT)
          refine ⟨T', _, rfl, .inl (.inl upd_same), rfl, _, _, rfl, _, _, rfl, rfl, ?_⟩
          by_cases hlt : i < rs.length
          · have e3 : (xs.take rs.length)[i]? = some x' := by
              rw [List.getElem?_take_of_lt hlt]
              exact e2
            obtain ⟨r, _, hrow⟩ := hr'.at e3
            exact ⟨_, rfl, x', true, rfl, ⟨r, RowV.same S2 hrow⟩, true, rfl, iteF ⟨by omega, _, _, rfl, S2⟩⟩
          · have hi2 : i = rs.length := by omega
            subst hi2
            obtain ⟨⟨y, hy, hn⟩, q⟩ := q2 hi
            have ey : y = x' := Option.some.inj (hy.symm.trans e2)
            subst ey
            exact ⟨_, rfl, y, false, rfl, NotRow.same S2 hn, false, rfl, iteT ⟨_, rfl, _, rfl, fun d nd => q d _ (S2.trans (same_upd nd)) upd_same⟩⟩
        · rintro σ H' ⟨hin, u, v, rfl, S⟩
          have e : rs.length = xs.length := by omega
          have hrw : RowsV K H xs rs := by
            rw [e, List.take_length] at hr'
            exact hr'
          exact ⟨_, rfl, a, xs, rfl, .inl ⟨S.seq hx, fun l nl => q1 e l _ (S.trans (same_upd nl)) (.inl (.inl upd_same)) (hrw.same (S.trans (same_upd nl)))⟩⟩
      · refine .inr ⟨_, rfl, a, xs, rfl, Same.tup S0 hx, for_it (walkT (xs := xs)) (fun i σ H' => i ≤ rs.length ∧ ∃ u v, σ = [some (.ref a), u, v] ∧ Same H H') ⟨Nat.zero_le _, none, none, rfl, S0⟩ ?_ ?_ ?_⟩
        · rintro i σ H' _ ⟨_, _, _, _, S⟩
          exact Same.tup S hx
        · rintro i x σ H' H2 hi ⟨hin, u, v, rfl, S⟩ ⟨T', y, x', rfl, nT, rfl, e1, e2⟩
          cases e1
          have S2 := S.trans (same_upd (o := .tup [.int (i : Nat), x']) nT)
          refine ⟨T', _, rfl, .inl (.inl upd_same), rfl, _, _, rfl, _, _, rfl, rfl, ?_⟩
          by_cases hlt : i < rs.length
          · have e3 : (xs.take rs.length)[i]? = some x' := by
              rw [List.getElem?_take_of_lt hlt]
              exact e2
            obtain ⟨r, _, hrow⟩ := hr'.at e3
            exact ⟨_, rfl, x', true, rfl, ⟨r, RowV.same S2 hrow⟩, true, rfl, iteF ⟨by omega, _, _, rfl, S2⟩⟩
          · have hi2 : i = rs.length := by omega
            subst hi2
            obtain ⟨⟨y, hy, hn⟩, q⟩ := q2 hi
            have ey : y = x' := Option.some.inj (hy.symm.trans e2)
            subst ey
            exact ⟨_, rfl, y, false, rfl, NotRow.same S2 hn, false, rfl, iteT ⟨_, rfl, _, rfl, fun d nd => q d _ (S2.trans (same_upd nd)) upd_same⟩⟩
        · rintro σ H' ⟨hin, u, v, rfl, S⟩
          have e : rs.length = xs.length := by omega
          have hrw : RowsV K H xs rs := by
            rw [e, List.take_length] at hr'
            exact hr'
          exact ⟨_, rfl, a, xs, rfl, .inr ⟨Same.tup S hx, q1 e a _ S (Same.tup S hx) (hrw.same S)⟩⟩
end
end K01

namespace K01
open PySem PySem.Spec PyProof.Rows L2 My
local macro_rules | `(tactic| walk_at "side") => `(tactic| (first
  | assumption
  | (refine OkMod.mk ?_; omega)
  | (refine mulOkL ?_ ?_ <;> omega)
  | (refine mulOkR ?_ ?_ <;> omega)
  | (refine divOk ?_ ?_ <;> omega)))
local macro_rules | `(tactic| walk_at "rd") => `(tactic| (first
  | with_reducible refine ⟨_, rfl, ?_⟩
  | refine ⟨_, rfl, ?_⟩
  | refine ⟨_, _, rfl, rfl, ?_⟩
  | refine And.intro (by walk_at "side") ?_
  | refine ⟨_, _, rfl, asm (by assumption), ?_⟩
  | refine ⟨_, _, rfl, asm ?_⟩))
section
variable {P : Program} {w : World} {K : PySem.W.Frag} {mg : Str → Option Value} {base : Heap}

/-- as Has, of a def that may raise -/
structure HasX (P : Program) (w : World) (K : PySem.W.Frag) (mg : Str → Option Value) (base : Heap) (x : Str) (k : Nat) (ps : List Str) (sp : Sp) (f : Addr) (fd : FuncData) : Prop where
  G : FnOk P w K mg base (L2.CX P w) k f fd ps sp
  g : mg x = some (.ref f)
  k : PySem.W.keepIn K (.ref f) = true
  b : Binds K fd ps []
theorem keepI_tup {x a C dx : Addr} {fs : List (Str × V)} {H H' : Hp} {xs : List V} (e : Keep x H H') (hx : H x = some (.ins C dx fs)) (h : SqT K H a xs) : SqT K H' a xs := by
  have ne : ∀ o, H a = some o → (∀ c d f, o ≠ .ins c d f) → a ≠ x := fun o ho hn z => by
    rw [z, hx] at ho
    exact hn _ _ _ (Option.some.inj ho).symm
  rcases h with (h | ⟨o, h⟩) | h
  · exact .inl (.inl (e _ _ (ne _ h fun _ _ _ z => nomatch z) h))
  · exact .inl (.inr ⟨o, e _ _ (ne _ h fun _ _ _ z => nomatch z) h⟩)
  · exact .inr h
theorem keepI_rows {x C dx : Addr} {fs : List (Str × V)} {H H' : Hp} {vs : List V} {rs : List LineR} (e : Keep x H H') (hx : H x = some (.ins C dx fs)) (h : RowsV K H vs rs) : RowsV K H' vs rs := h.map fun _ _ ⟨a, ea, ht⟩ => ⟨a, ea, keepI_tup e hx ht⟩
/-! ### rows as data -/
def rowD (r : LineR) : PyData := .tuple [.int r.1, .int r.2.1, .int r.2.2]
theorem RowV.dp {H : Hp} {v : V} {r : LineR} (h : RowV K H v r) : Dp K H v (rowD r) := by
  obtain ⟨a, rfl, h⟩ := h
  exact .tup h (.cons (.int _) (.cons (.int _) (.cons (.int _) .nil)))
theorem RowsV.dp {H : Hp} {vs : List V} {rs : List LineR} : RowsV K H vs rs → DpAll K H vs (rs.map rowD)
  | .nil => .nil
  | .cons h t => .cons (RowV.dp h) (RowsV.dp t)
theorem lay_rows (rs : List LineR) : PyData.canLayAll0 (rs.map rowD) = true := by
  induction rs with
  | nil => rfl
  | cons r rs ih => exact ih
theorem dep_rows (rs : List LineR) : PyData.depthAll (rs.map rowD) ≤ 1 := by
  induction rs with
  | nil => exact Nat.zero_le _
  | cons r rs ih => exact Nat.max_le.mpr ⟨Nat.le_refl 1, ih⟩
theorem shp_tup (rs : List LineR) : SeqAt.shaped (.tuple (rs.map rowD)) = true := Bool.and_eq_true_iff.mpr ⟨lay_rows rs, decide_eq_true (Nat.le_trans (Nat.succ_le_succ (dep_rows rs)) (by decide))⟩
theorem shp_lst (rs : List LineR) : SeqAt.shaped (.list (rs.map rowD)) = true := Bool.and_eq_true_iff.mpr ⟨lay_rows rs, decide_eq_true (Nat.le_trans (Nat.succ_le_succ (dep_rows rs)) (by decide))⟩
theorem eqv_row (r q : LineR) : PyData.eqv (rowD r) (rowD q) = decide (r = q) := by
  obtain ⟨a, b, c⟩ := r
  obtain ⟨x, y, z⟩ := q
  show ((a == x) && ((b == y) && ((c == z) && true))) = _
  rw [Bool.eq_iff_iff]
  simp
theorem eqv_rows : ∀ (rs qs : List LineR), PyData.eqvAll (rs.map rowD) (qs.map rowD) = decide (rs = qs)
  | [], [] => rfl
  | [], _ :: _ => rfl
  | _ :: _, [] => rfl
  | r :: rs, q :: qs => by
    show (PyData.eqv (rowD r) (rowD q) && PyData.eqvAll (rs.map rowD) (qs.map rowD)) = _
    rw [eqv_row, eqv_rows rs qs, Bool.eq_iff_iff]
    simp
/-! ### Region -/
structure RegC (K : PySem.W.Frag) (mg : Str → Option Value) (C : Addr) : Prop where
  g : mg "Region" = some (.ref C)
  cl : Cls K C
  nr : NoAttr K C "rows"
  ha : PySem.W.findIn K (.ref C) "__class__" = some (some (.builtin "object.__class__"))
  hn : PySem.W.specialIn K (.builtin "object.__class__") "__get__" = some (some (.builtin "getset_descriptor.__get__"))
  ht : PySem.W.takesIn K (.builtin "object.__class__") = some true
  hm : PySem.W.mroIn K C (.type "object") = some true
  own : PySem.W.kitOne K (.ref C) (.ref C) = some true
  nl : PySem.W.kitOne K (.type "list") (.ref C) = some false
  ni : PySem.W.kitOne K (.type "int") (.ref C) = some false
/-- a Region of rows -/
def RegAt (K : PySem.W.Frag) (H : Hp) (C x : Addr) (rs : List LineR) : Prop := ∃ dx t xs, H x = some (.ins C dx [(("rows" : Str), .ref t)]) ∧ SqT K H t xs ∧ RowsV K H xs rs
theorem RegAt.same {H H' : Hp} {C x : Addr} {rs : List LineR} (e : Same H H') : RegAt K H C x rs → RegAt K H' C x rs := fun ⟨dx, t, xs, h, ht, hr⟩ => ⟨dx, t, xs, e _ _ h, Same.tup e ht, hr.same e⟩
def spInitR (K : PySem.W.Frag) (C CB : Addr) : Sp := fun vs H Q E => ∃ x dx arg, vs = [.ref x, arg] ∧ H x = some (.ins C dx []) ∧ spLineRows K CB [arg] H (fun v H' => H' x = some (.ins C dx []) → Q .non (upd H' x (.ins C dx [(("rows" : Str), v)]))) E
theorem lineRows_keep {CB : Addr} {vs : List V} {H : Hp} {Q : VK} {E : XK} (h : spLineRows K CB vs H Q E) : spLineRows K CB vs H (fun v H' => Same H H' ∧ Q v H') E := by
  obtain ⟨x, e, h⟩ := h
  refine ⟨x, e, h.imp id ?_⟩
  rintro ⟨a, xs, rs, h1, h2, h3, h4, h5, h6⟩
  exact ⟨a, xs, rs, h1, h2, h3, h4, fun e p H' S hp hr => ⟨S, h5 e p H' S hp hr⟩, h6⟩
theorem ok_init {f f1 C CB : Addr} {fd fd1 : FuncData} (R : RegC K mg C) (C_line_rows : HasX P w K mg base "line_rows" 4 ["rows"] (spLineRows K CB) f1 fd1) (F : Fun K "__init__" "Region.__init__" s_Region___init__ f fd) : FnOk P w K mg base (L2.CX P w) 5 f fd ["self", "rows"] (spInitR K C CB) := by
  refine F.okX sc_Region___init__ (fun vs H Q E h => ?_) (fun cdv A outer s H vs Q E hr h => ?_)
  · obtain ⟨x, dx, arg, rfl, _⟩ := h
    rfl
  · obtain ⟨x, dx, arg, rfl, hx, h⟩ := h
    refine ⟨_, (pss_one (ps_fld (pv 0) (pe_call C_line_rows.G (hr.mono (by decide)) (by rfl) C_line_rows.g C_line_rows.k C_line_rows.b .nil (passO (takes_of rfl rfl rfl rfl)) (pa_cons (pv 1) pa_nil)) rfl)), ?_⟩
    refine ⟨_, rfl, ?_⟩
    have z := lineRows_keep h
    obtain ⟨y, e, z⟩ := z
    cases e
    refine ⟨_, rfl, z.imp id ?_⟩
    rintro ⟨a, xs, rs, h1, h2, h3, h4, h5, h6⟩
    refine ⟨a, xs, rs, h1, h2, h3, h4, fun e p H' S hp hr => ?_, h6⟩
    have hx' := S _ _ hx
    exact ⟨_, rfl, x, C, dx, [], rfl, hx', R.cl, R.nr, by show 0 < 1000; decide, (h5 e p H' S hp hr).2 hx'⟩
/-- what a new Region asks -/
theorem make_ok {C CB a : Addr} {H : Hp} {xs : List V} {rs : List LineR} {Q : VK} {E : XK} (ha : SqA K H a xs) (hr : RowsV K H xs rs) (q : ∀ x H', Same H H' → RegAt K H' C x rs → Q (.ref x) H') :
    ∀ x dx, H x = none → H dx = none → dx ≠ x → spInitR K C CB [.ref x, .ref a] (upd (upd H dx (.own x)) x (.ins C dx [])) (fun v H2 => v = .non ∧ Q (.ref x) H2) E := fun x dx nx nd ne => by
  have S1 : Same H (upd H dx (.own x)) := same_upd nd
  have nx' : upd H dx (.own x) x = none := by
    rw [upd_ne (Ne.symm ne)]
    exact nx
  have S2 : Same H (upd (upd H dx (.own x)) x (.ins C dx [])) := S1.trans (same_upd nx')
  refine ⟨x, dx, _, rfl, upd_same, _, rfl, .inr ⟨a, xs, rs, rfl, ha.same S2, ?_, Nat.le_of_eq hr.len.symm, fun _ p H' S hp hr' hx => ⟨rfl, ?_⟩, fun z => absurd hr.len (by omega)⟩⟩
  · rw [← hr.len, List.take_length]
    exact hr.same S2
  · have S3 : Keep x H' (upd H' x (.ins C dx [(("rows" : Str), .ref p)])) := Keep.upd x H' _
    refine q x _ (fun b o e => ?_) ⟨dx, p, xs, upd_same, ?_, ?_⟩
    · have nb : b ≠ x := fun z => by
        rw [z, nx] at e
        cases e
      exact S3 _ _ nb (S _ _ (S2 _ _ e))
    · exact keepI_tup S3 hx hp
    · exact keepI_rows S3 hx hr'
/-! ### has -/
def hasR (rs : List LineR) (x y : Int) : Bool := rs.all fun r => decide (r.1 * x + r.2.1 * y ≤ r.2.2)
def spHas (K : PySem.W.Frag) (C : Addr) : Sp := fun vs H Q _ => ∃ (p : Addr) (x y : Int) (rs : List LineR), vs = [.ref p, .int x, .int y] ∧ RegAt K H C p rs ∧ (∀ r ∈ rs, Sz2 r.1 ∧ Sz2 r.2.1) ∧ Sz2 x ∧ Sz2 y ∧ Q (.bl (hasR rs x y)) H
theorem mul2 {i j : Int} (h1 : Sz2 i) (h2 : Sz2 j) : OkMul i j := mulOk h1 h2 (by decide) (by decide) (by decide)
theorem ok_has {f C : Addr} {fd : FuncData} (R : RegC K mg C) (F : Fun K "has" "Region.has" s_Region_has f fd) : FnOk P w K mg base CX0 1 f fd ["self", "x", "y"] (spHas K C) := by
  refine F.ok sc_Region_has (fun vs H Q E h => ?_) (fun cdv A outer s H vs Q E hr h => ?_)
  · obtain ⟨p, x, y, rs, rfl, _⟩ := h
    rfl
  · obtain ⟨p, x, y, rs, rfl, ⟨dx, t, xs, hp, ht, hrs⟩, hb, hx, hy, q⟩ := h
    refine ⟨_, (pss_cons (ps_for PassesOwn.never rfl (pi_tup (pe_fld (pv 0) rfl)) (pg_tup rfl (pgs_cons (pg_name (i := 3) sc_Region_has.nd rfl (Or.inl rfl)) (pgs_cons (pg_name (i := 4) sc_Region_has.nd rfl (Or.inl rfl)) (pgs_cons (pg_name (i := 5) sc_Region_has.nd rfl (Or.inl rfl)) pgs_nil))))
      (pss_one (ps_if (pt_cmpR op_gt (pe_op op_add (pe_op op_mulA (pv 3) (pv 1)) (pe_op op_mulA (pv 4) (pv 2))) (pv 5) (nomark _))
      (pss_one (ps_ret pe_bl))
      pss_nil)))
    (pss_one (ps_ret pe_bl))), ?_⟩
    refine ⟨_, rfl, p, C, dx, _, _, rfl, hp, R.cl, R.nr, rfl, t, rfl, ⟨xs, ht⟩, for_it (walk_tup (xs := xs)) (fun i σ H' => H' = H ∧ hasR (rs.take i) x y = true ∧ ∃ a b c, σ = [some (.ref p), some (.int x), some (.int y), a, b, c]) ⟨rfl, rfl, none, none, none, rfl⟩ ?_ ?_ ?_⟩
    · rintro i σ H' _ ⟨rfl, _⟩
      exact ht
    · rintro i v σ H' H2 hi ⟨rfl, hok, a, b, c, rfl⟩ ⟨rfl, hv⟩
      obtain ⟨⟨ra, rb, rc⟩, hri, u, rfl, hu⟩ := hrs.at hv
      obtain ⟨b1, b2⟩ := hb _ (List.mem_of_getElem? hri)
      dsimp only at b1 b2 hu
      refine ⟨u, _, rfl, hu, rfl, _, _, rfl, _, _, rfl, _, _, rfl, rfl, ?_⟩
      refine ⟨_, rfl, _, rfl, _, _, rfl, rfl, mul2 b1 hx, ?_⟩
      refine ⟨_, rfl, _, rfl, _, _, rfl, rfl, mul2 b2 hy, ?_⟩
      refine ⟨_, _, rfl, rfl, _, rfl, _, _, rfl, rfl, _, rfl, ?_⟩
      have e1 : rs.take (i + 1) = rs.take i ++ [(ra, rb, rc)] := by
        rw [List.take_add_one, hri]
        rfl
      have e2 : hasR (rs.take (i + 1)) x y = decide (ra * x + rb * y ≤ rc) := by
        unfold hasR at hok ⊢
        rw [e1, List.all_append, hok]
        simp
      by_cases hc : rc < ra * x + rb * y
      · rw [decide_eq_true hc]
        refine iteT ?_
        have e3 : hasR rs x y = false := by
          unfold hasR
          rw [List.all_eq_false]
          exact ⟨_, List.mem_of_getElem? hri, by simp; omega⟩
        rw [e3] at q
        exact q
      · rw [decide_eq_false hc]
        refine iteF ⟨rfl, ?_, _, _, _, rfl⟩
        rw [e2]
        exact decide_eq_true (by omega)
    · rintro σ H' ⟨rfl, hok, a, b, c, rfl⟩
      rw [hrs.len, List.take_length] at hok
      rw [hok] at q
      exact q
/-! ### ==, with_rows -/
def spEq (K : PySem.W.Frag) (C : Addr) : Sp := fun vs H Q _ => ∃ (p : Addr) (y : V) (rs : List LineR), vs = [.ref p, y] ∧ RegAt K H C p rs ∧
  ((∃ z qs, y = .ref z ∧ RegAt K H C z qs ∧ Q (.bl (decide (rs = qs))) H) ∨ ((∃ t, TyX K H y t ∧ PySem.W.kitOne K t (.ref C) = some false) ∧ Q (.bl false) H))
theorem ok_eq {f C : Addr} {fd : FuncData} (T : Nm mg) (R : RegC K mg C) (F : Fun K "__eq__" "Region.__eq__" s_Region___eq__ f fd) : FnOk P w K mg base CX0 1 f fd ["self", "other"] (spEq K C) := by
  refine F.ok sc_Region___eq__ (fun vs H Q E h => ?_) (fun cdv A outer s H vs Q E hr h => ?_)
  · obtain ⟨p, y, rs, rfl, _⟩ := h
    rfl
  · obtain ⟨p, y, rs, rfl, ⟨dx, t, xs, hp, ht, hrs⟩, h⟩ := h
    refine ⟨_, (pss_one (ps_ret (pe_and (pe_callB call_isi (by rfl) T.isinstance (by decide +kernel) (pa_cons (pv 1) (pa_cons (pe_glob (v := .ref C) rfl R.g rfl) pa_nil))) (pe_one (pe_cmpR (op_eqD hr.units) (pe_fld (pv 0) rfl) (pe_fld (pv 1) rfl) (nomark _)))))), ?_⟩
    rcases h with ⟨z, qs, rfl, ⟨dz, tz, zs, hz, htz, hqs⟩, q⟩ | ⟨⟨ty, hy, hk⟩, q⟩
    · refine ⟨_, rfl, _, _, _, _, _, rfl, .own C, .base (.ins hz R.cl R.ha R.hn R.ht R.hm), R.own, true, rfl, iteT ?_⟩
      refine ⟨_, rfl, p, C, dx, _, _, rfl, hp, R.cl, R.nr, rfl, _, rfl, z, C, dz, _, _, rfl, hz, R.cl, R.nr, rfl, ?_⟩
      refine ⟨_, _, .tup ht (RowsV.dp hrs), .tup htz (RowsV.dp hqs), shp_tup rs, shp_tup qs, ?_⟩
      show Q (.bl (PyData.eqvAll (rs.map rowD) (qs.map rowD))) H
      rw [eqv_rows]
      exact q
    · exact ⟨_, rfl, _, _, _, _, _, rfl, .own C, hy, hk, false, rfl, iteF q⟩
def spWith (K : PySem.W.Frag) (C : Addr) : Sp := fun vs H Q _ => ∃ (p a : Addr) (xs : List V) (rs qs : List LineR), vs = [.ref p, .ref a] ∧ RegAt K H C p rs ∧ SqA K H a xs ∧ RowsV K H xs qs ∧ rs.length + qs.length ≤ 100 ∧
  ∀ z H', Same H H' → RegAt K H' C z (rs ++ qs) → Q (.ref z) H'
/-- Region(..), as a def calls it -/
structure MkX (P : Program) (w : World) (K : PySem.W.Frag) (mg : Str → Option Value) (base : Heap) (x : Str) (k : Nat) (ps : List Str) (sp : Sp) (C f : Addr) (fd : FuncData) : Prop where
  M : Mk K C f
  G : FnOk P w K mg base (L2.CX P w) k f fd ps sp
  g : mg x = some (.ref C)
  b : Binds K fd ps []
theorem small100 {n : Nat} (h : n ≤ 100) : n ≤ sizeLine := Nat.le_trans h (by show 100 ≤ sizeLine; decide)
theorem ok_with {f f1 f2 C CB : Addr} {fd fd1 fd2 : FuncData} (R : RegC K mg C) (C_Region : MkX P w K mg base "Region" 5 ["self", "rows"] (spInitR K C CB) C f1 fd1) (C_line_rows : HasX P w K mg base "line_rows" 4 ["rows"] (spLineRows K CB) f2 fd2) (F : Fun K "with_rows" "Region.with_rows" s_Region_with_rows f fd) : FnOk P w K mg base CX0 7 f fd ["self", "rows"] (spWith K C) := by
  refine F.ok sc_Region_with_rows (fun vs H Q E h => ?_) (fun cdv A outer s H vs Q E hr h => ?_)
  · obtain ⟨p, a, xs, rs, qs, rfl, _⟩ := h
    rfl
  · obtain ⟨p, a, xs, rs, qs, rfl, ⟨dx, t, ts, hp, ht, hrs⟩, ha, hqs, hl, q⟩ := h
    refine ⟨_, (pss_one (ps_ret (pe_make C_Region.M C_Region.G (hr.mono (by decide)) (by rfl) C_Region.g C_Region.b .nil passL (pa_cons (pe_op op_catA (pe_fld (pv 0) rfl) (pe_call C_line_rows.G (hr.mono (by decide)) (by rfl) C_line_rows.g C_line_rows.k C_line_rows.b .nil passL (pa_cons (pv 1) pa_nil))) pa_nil)))), ?_⟩
    refine ⟨_, rfl, p, C, dx, _, _, rfl, hp, R.cl, R.nr, rfl, _, rfl, _, rfl, .inr ⟨a, xs, qs, rfl, ha, ?_, Nat.le_of_eq hqs.len.symm, fun _ p2 H2 S2 hp2 hr2 => ?_, fun z => absurd hqs.len (by omega)⟩⟩
    · rw [← hqs.len, List.take_length]
      exact hqs
    · have ht2 := Same.tup S2 ht
      have hrs2 := hrs.same S2
      have l1 := hrs.len
      have l2 := hqs.len
      refine ⟨t, p2, ts, xs, rfl, rfl, ht2, hp2, small100 (by omega), fun e => ?_, fun _ e => ?_, fun _ _ p3 np3 => ?_⟩
      · subst e
        cases hrs2
        exact make_ok (.inr hp2) hr2 fun z H3 S3 hz => q z H3 (S2.trans S3) hz
      · subst e
        cases hr2
        refine make_ok (.inr ht2) hrs2 fun z H3 S3 hz => q z H3 (S2.trans S3) ?_
        rw [List.append_nil]
        exact hz
      · have S4 : Same H2 (upd H2 p3 (.tup (ts ++ xs))) := same_upd np3
        exact make_ok (.inr (.inl (.inl upd_same))) ((hrs2.same S4).app (hr2.same S4)) fun z H3 S3 hz => q z H3 ((S2.trans S4).trans S3) hz
/-! ### _law_refused -/
def RefV (K : PySem.W.Frag) (H : Hp) (arg n : V) : Prop :=
  (∃ a xs rs, arg = .ref a ∧ SqA K H a xs ∧ RowsV K H xs rs ∧ n = .str "none") ∨ (∃ t, TyX K H arg t ∧ PySem.W.kitAny K t [.type "list", .type "tuple"] = some false ∧ n = .non) ∨
    ∃ a xs rs, arg = .ref a ∧ SqA K H a xs ∧ RowsV K H (xs.take rs.length) rs ∧ (∃ y, xs[rs.length]? = some y ∧ NotRow K H y) ∧ n = .int rs.length
def spRefused (K : PySem.W.Frag) : Sp := fun vs H Q _ => ∃ arg n, vs = [arg] ∧ RefV K H arg n ∧ ∀ H', Same H H' → Q n H'
theorem len2 {σ : L2.St} (h : σ.length = 2) : ∃ x y, σ = [x, y] := by
  match σ, h with
  | [x, y], _ => exact ⟨x, y, rfl⟩
def tRefS (K : PySem.W.Frag) (CB CP : Addr) : Addr → Value → Option Addr → TS := fun a cls d => tRet (tIf (tAnd (tB (tCB (rIsX K CB a cls d) (tCons (tVar 1) (tCons (tC (.ref CP)) tNil)))) (tB (tCB (rIsX K CB a cls d) (tCons (tVar 1) (tCons (tC (.ty "ValueError")) tNil))))) (tXf a cls d CB "number" (tVar 1)) (tC (.str "other")))
theorem ok_refused {f f1 C CB CP fI cda cc : Addr} {fd fd1 : FuncData} (T : Nm mg) (B : Xc.Own P K mg "BadRegion" "number" CB fI cda cc) (EC : ExcC K CB) (gP : mg "PlaneError" = some (.ref CP)) (k1 : PySem.W.kitOne K (.ref CB) (.ref CP) = some true) (k2 : PySem.W.kitOne K (.ref CB) (.type "ValueError") = some true)
    (C_Region : MkX P w K mg base "Region" 5 ["self", "rows"] (spInitR K C CB) C f1 fd1) (F : Fun K "_law_refused" "_law_refused" s__law_refused f fd) : FnOk P w K mg base CX0 8 f fd ["rows"] (spRefused K) := by
  refine F.ok sc__law_refused (fun vs H Q E h => ?_) (fun cdv A outer s H vs Q E hr h => ?_)
  · obtain ⟨arg, n, rfl, _⟩ := h
    rfl
  · obtain ⟨arg, n, rfl, h, q⟩ := h
    refine ⟨_, (pss_cons (ps_try_as (i := 1) (tb := fun W => tDrop (tMake C (spInitR K C CB) [] (fun cls d H => ∀ σ : L2.St, σ.length = 2 → W cls d σ H) (tCons (tVar 0) tNil)))
      (ts := tRefS K CB CP)
      (Wout := fun _ _ _ _ => False) rfl rfl sc__law_refused.nd rfl rfl ⟨rfl, by decide, Or.inl B.gC⟩ takes0
      (fun W pn xe tk _ => pss_one (ps_expr (by exact (pe_make C_Region.M C_Region.G (hr.mono (by decide)) rfl C_Region.g C_Region.b .nil (passN tk) (pa_cons (pv 0) pa_nil)))))
      (fun a oe cls d pn hz hf => pss_one (ps_ret (by exact (pe_ifExp (PW.pt (pw_and (pt_val (pe_callB (call_isX EC hz hf) rfl T.isinstance (by decide +kernel) (pa_cons (pv 1) (pa_cons (pe_glob (v := .ref CP) rfl gP rfl) pa_nil)))) (pw_and1 (pt_val (pe_callB (call_isX EC hz hf) rfl T.isinstance (by decide +kernel) (pa_cons (pv 1) (pa_cons (pe_ty (n := "ValueError") rfl T.valueError (by decide +kernel)) pa_nil))))))) (pe_xf ⟨B.ga, B.gg, B.exC, B.hdC⟩ B.noN hz hf (pv 1)) pe_str)))))
    (pss_one (ps_ret pe_str))), ?_⟩
    refine ⟨_, rfl, fun x dx nx nd ne => ?_⟩
    have S1 : Same H (upd H dx (.own x)) := same_upd nd
    have nx' : upd H dx (.own x) x = none := by
      rw [upd_ne (Ne.symm ne)]
      exact nx
    have S2 : Same H (upd (upd H dx (.own x)) x (.ins C dx [])) := S1.trans (same_upd nx')
    have out : ∀ (D : Ends), D.rt = Q → ∀ d H', Same H H' → H' d = some (.xd [(("number" : Str), n)]) → ∀ σ : L2.St, σ.length = 2 → wAs K (.ref CB) 1 (tRefS K CB CP) (fun _ _ _ _ => False) D (.ref CB) (some d) σ H' := fun D hD d H' S hd σ hσ => by
      obtain ⟨x0, y0, rfl⟩ := len2 hσ
      refine ⟨true, B.te, fun _ a _ => ?_, fun z => Bool.noConfusion z⟩
      subst hD
      refine ⟨_, rfl, rfl, d, _, _, _, true, rfl, hd, rfl, .own CP, k1, true, rfl, iteT ?_⟩
      refine ⟨_, rfl, rfl, d, _, _, _, true, rfl, hd, rfl, .ty _, k2, true, rfl, iteT ?_⟩
      exact ⟨_, rfl, rfl, rfl, d, _, n, rfl, hd, rfl, q H' S⟩
    rcases h with ⟨a, xs, rs, rfl, ha, hrs, rfl⟩ | ⟨t, ty, kt, rfl⟩ | ⟨a, xs, rs, rfl, ha, hrs, ⟨y, hy, hn⟩, rfl⟩
    · exact make_ok (Q := fun _ H3 => Q (.str "none") H3) ha hrs (fun z H3 S3 _ => q H3 S3) x dx nx nd ne
    · exact ⟨x, dx, arg, rfl, upd_same, arg, rfl, .inl ⟨t, tyx_same S2 ty, kt, fun d H' S hd => out _ rfl d H' (S2.trans S) hd⟩⟩
    · have lt : rs.length < xs.length := (List.getElem?_eq_some_iff.mp hy).1
      exact ⟨x, dx, _, rfl, upd_same, _, rfl, .inr ⟨a, xs, rs, rfl, ha.same S2, hrs.same S2, Nat.le_of_lt lt, fun e => absurd e (by omega), fun _ => ⟨⟨y, hy, NotRow.same S2 hn⟩, fun d H' S hd => out _ rfl d H' (S2.trans S) hd⟩⟩⟩
end
end K01

namespace K01
open PySem PySem.Spec PyProof.Rows L2 My
local macro_rules | `(tactic| walk_at "side") => `(tactic| (first
  | assumption
  | (refine OkMod.mk ?_; omega)
  | (refine mulOkL ?_ ?_ <;> omega)
  | (refine mulOkR ?_ ?_ <;> omega)
  | (refine divOk ?_ ?_ <;> omega)))
local macro_rules | `(tactic| walk_at "rd") => `(tactic| (first
  | with_reducible refine ⟨_, rfl, ?_⟩
  | refine ⟨_, rfl, ?_⟩
  | refine ⟨_, _, rfl, rfl, ?_⟩
  | refine And.intro (by walk_at "side") ?_
  | refine ⟨_, _, rfl, asm (by assumption), ?_⟩
  | refine ⟨_, _, rfl, asm ?_⟩))
section
variable {P : Program} {w : World} {K : PySem.W.Frag} {mg : Str → Option Value} {base : Heap}
local macro_rules | `(tactic| walk_at "tk") => `(tactic| refine ⟨_, _, _, _, rfl, asm (by assumption), asm (by omega), fun _ _ _ _ _ _ => ?_⟩)
local macro_rules | `(tactic| walk_at "go") => `(tactic| repeat (first | walk_at "rd" | walk_at "tk"))
structure EqX (P : Program) (w : World) (K : PySem.W.Frag) (mg : Str → Option Value) (base : Heap) (C f : Addr) (fd : FuncData) : Prop where
  M : EqC K C f
  G : FnOk P w K mg base CX0 1 f fd ["self", "other"] (spEq K C)
  b : Binds K fd ["self", "other"] []
  nl : PySem.W.notFirst K C (.type "list") = true
  ni : PySem.W.notFirst K C (.type "int") = true
structure MethX (P : Program) (w : World) (K : PySem.W.Frag) (mg : Str → Option Value) (base : Heap) (C : Addr) (m : Str) (k : Nat) (ps : List Str) (sp : Sp) (f : Addr) (fd : FuncData) : Prop where
  c : Cls K C
  m : Meth K C m f
  G : FnOk P w K mg base CX0 k f fd ps sp
  b : Binds K fd ps []
theorem make_at {C CB a x dx : Addr} {H : Hp} {xs : List V} {rs : List LineR} {Z : VK} {E : XK} (nx : H x = none) (nd : H dx = none) (ne : dx ≠ x) (ha : SqA K H a xs) (hr : RowsV K H xs rs) (q : ∀ H', Same H H' → RegAt K H' C x rs → Z .non H') :
    spInitR K C CB [.ref x, .ref a] (upd (upd H dx (.own x)) x (.ins C dx [])) Z E := by
  have z := make_ok (CB := CB) (C := C) (E := E) (Q := fun v H' => ∀ y, v = .ref y → RegAt K H' C y rs ∧ Same H H') ha hr (fun z H' S hz y ey => by cases ey; exact ⟨hz, S⟩) x dx nx nd ne
  obtain ⟨x', dx', arg, e, h1, arg', e2, z⟩ := z
  cases e
  cases e2
  refine ⟨_, _, _, rfl, h1, _, rfl, z.imp id ?_⟩
  rintro ⟨a', xs', rs', h1, h2, h3, h4, h5, h6⟩
  exact ⟨a', xs', rs', h1, h2, h3, h4, fun e p H' S hp hr hx => let y := h5 e p H' S hp hr hx; q _ (y.2 _ rfl).2 (y.2 _ rfl).1, h6⟩
/-- what stands while the law goes on -/
structure Sc (K : PySem.W.Frag) (H : Hp) (d s : Addr) (ns : List Int) (C lr ll x y : Addr) (rs qs : List LineR) : Prop where
  dr : DrawAt K H d s ns
  r : RowsAt K H lr rs
  l : RowsAt K H ll qs
  nr : lr ≠ d
  nl : ll ≠ d
  rx : RegAt K H C x rs
  ry : RegAt K H C y qs
theorem rowsAt_same {H H' : Hp} {l : Addr} {rs : List LineR} (e : Same H H') : RowsAt K H l rs → RowsAt K H' l rs := fun ⟨vs, h, hr⟩ => ⟨vs, e _ _ h, hr.same e⟩
theorem rowsAt_keep {H H' : Hp} {d l : Addr} {zs : List V} {rs : List LineR} (e : Keep d H H') (hd : H d = some (.lst zs)) (n : l ≠ d) : RowsAt K H l rs → RowsAt K H' l rs := fun ⟨vs, h, hr⟩ => ⟨vs, e _ _ n h, hr.keep e hd⟩
theorem regAt_keep {H H' : Hp} {C d x : Addr} {zs : List V} {rs : List LineR} (e : Keep d H H') (hd : H d = some (.lst zs)) : RegAt K H C x rs → RegAt K H' C x rs := fun ⟨dx, t, xs, h, ht, hr⟩ =>
  ⟨dx, t, xs, e _ _ (fun z => by rw [z, hd] at h; cases h) h, e.tupD hd ht, hr.keep e hd⟩
section
variable {H H' : Hp} {d s C lr ll x y : Addr} {ns : List Int} {rs qs : List LineR}
theorem Sc.same (z : Sc K H d s ns C lr ll x y rs qs) (e : Same H H') : Sc K H' d s ns C lr ll x y rs qs := ⟨z.dr.same e, rowsAt_same e z.r, rowsAt_same e z.l, z.nr, z.nl, z.rx.same e, z.ry.same e⟩
theorem Sc.keep (z : Sc K H d s ns C lr ll x y rs qs) (e : Keep d H H') (D : DrawAt K H' d s ns) : Sc K H' d s ns C lr ll x y rs qs := by
  obtain ⟨zs, hd⟩ := z.dr.lst
  exact ⟨D, rowsAt_keep e hd z.nr z.r, rowsAt_keep e hd z.nl z.l, z.nr, z.nl, regAt_keep e hd z.rx, regAt_keep e hd z.ry⟩
end
def spLaw (K : PySem.W.Frag) : Sp := fun vs H Q _ => ∃ (a : Addr) (ns : List Int), vs = [.ref a] ∧ SqL K H a (ns.map V.int) ∧ ns.length ≤ 63 ∧ ∀ H', Q (.bl true) H'

section
variable {H H' H2 H7 : Hp} {d s C x y a b lg : Addr} {ns : List Int} {rs qs : List LineR} {Q : VK} {X : Cx}
theorem drawAt_other (D2 : DrawAt K H2 d s ns) (D7 : DrawAt K H7 d s ns) (ng : H2 lg = none) (e : Keep lg H7 H') : DrawAt K H' d s ns := by
  obtain ⟨k2, h2, q2, l2⟩ := D2
  obtain ⟨k7, h7, q7, _⟩ := D7
  have nd : d ≠ lg := fun z => by
    rw [z, ng] at h2
    cases h2
  refine ⟨k7, e _ _ nd h7, ?_, l2⟩
  rcases q2 with q | q
  · have na : s ≠ lg := fun z => by
      rw [z] at q
      rcases q with q | ⟨o, q⟩ <;> rw [ng] at q <;> cases q
    exact e.seq na q7
  · exact .inr q
theorem dpT {t : Addr} {vs : List V} (ht : SqT K H t vs) (h : RowsV K H vs rs) : Dp K H (.ref t) (.tuple (rs.map rowD)) := .tup ht (RowsV.dp h)
theorem dpL {t : Addr} {vs : List V} (ht : SqL K H t vs) (h : RowsV K H vs rs) : Dp K H (.ref t) (.list (rs.map rowD)) := .lst ht (RowsV.dp h)
theorem neT {t u : Addr} {vs us : List V} (ht : SqT K H t vs) (h : RowsV K H vs rs) (hu : SqT K H u us) (h' : RowsV K H us qs) (q : Q (.bl (!decide (rs = qs))) H) : rNeD K (.ref t) (.ref u) H Q := by
  refine ⟨_, _, dpT ht h, dpT hu h', shp_tup rs, shp_tup qs, ?_⟩
  show Q (.bl (!PyData.eqvAll (rs.map rowD) (qs.map rowD))) H
  rw [eqv_rows]
  exact q
theorem eqL {t u : Addr} {vs us : List V} (ht : SqL K H t vs) (h : RowsV K H vs rs) (hu : SqL K H u us) (h' : RowsV K H us qs) (q : Q (.bl (decide (rs = qs))) H) : rEqD K (.ref t) (.ref u) H Q := by
  refine ⟨_, _, dpL ht h, dpL hu h', shp_lst rs, shp_lst qs, ?_⟩
  show Q (.bl (PyData.eqvAll (rs.map rowD) (qs.map rowD))) H
  rw [eqv_rows]
  exact q
theorem neL {t u : Addr} {vs us : List V} (ht : SqL K H t vs) (h : RowsV K H vs rs) (hu : SqL K H u us) (h' : RowsV K H us qs) (q : Q (.bl (!decide (rs = qs))) H) : rNeD K (.ref t) (.ref u) H Q := by
  refine ⟨_, _, dpL ht h, dpL hu h', shp_lst rs, shp_lst qs, ?_⟩
  show Q (.bl (!PyData.eqvAll (rs.map rowD) (qs.map rowD))) H
  rw [eqv_rows]
  exact q
theorem eqR {E : XK} (rx : RegAt K H C x rs) (ry : RegAt K H C y qs) (q : Q (.bl (decide (rs = qs))) H) : rEqI K C (spEq K C) E (.ref x) (.ref y) H Q := by
  obtain ⟨dx, t, xs, h1, _⟩ := id rx
  obtain ⟨dy, u, ys, h2, _⟩ := id ry
  exact ⟨x, dx, _, rfl, h1, .ins h2, x, _, rs, rfl, rx, .inl ⟨y, qs, rfl, ry, _, rfl, q⟩⟩
theorem neR {E : XK} (rx : RegAt K H C x rs) (ry : RegAt K H C y qs) (q : Q (.bl (!decide (rs = qs))) H) : rNeI K C (spEq K C) E (.ref x) (.ref y) H Q := by
  obtain ⟨dx, t, xs, h1, _⟩ := id rx
  obtain ⟨dy, u, ys, h2, _⟩ := id ry
  exact ⟨x, dx, _, y, dy, _, rfl, h1, rfl, h2, x, _, rs, rfl, rx, .inl ⟨y, qs, rfl, ry, _, rfl, q⟩⟩
theorem eqRL {E : XK} {l : Addr} {vs : List V} (R : RegC K mg C) (n : PySem.W.notFirst K C (.type "list") = true) (rx : RegAt K H C x rs) (hl : H l = some (.lst vs)) (q : Q (.bl false) H) : rEqI K C (spEq K C) E (.ref x) (.ref l) H Q := by
  obtain ⟨dx, t, xs, h1, _⟩ := id rx
  exact ⟨x, dx, _, rfl, h1, .lst hl n, x, _, rs, rfl, rx, .inr ⟨⟨.type "list", .base (.lst hl), R.nl⟩, _, rfl, q⟩⟩
theorem eqRI {E : XK} {i : Int} (R : RegC K mg C) (n : PySem.W.notFirst K C (.type "int") = true) (rx : RegAt K H C x rs) (q : Q (.bl false) H) : rEqI K C (spEq K C) E (.ref x) (.int i) H Q := by
  obtain ⟨dx, t, xs, h1, _⟩ := id rx
  exact ⟨x, dx, _, rfl, h1, .int i n, x, _, rs, rfl, rx, .inr ⟨⟨.type "int", .base (.int i), R.ni⟩, _, rfl, q⟩⟩
theorem neB {b : Bool} (q : Q (.bl false) H) : rNe (.bl b) (.bl b) H Q := ⟨rfl, by
  rw [decide_eq_true rfl]
  exact q⟩
theorem dec_self {α : Type} [DecidableEq α] (z : α) : (!decide (z = z)) = false := by rw [decide_eq_true rfl] <;> rfl
theorem pick3 {v : V} (h : v ∈ [V.int 1, V.int 2, V.int 30]) : ∃ n : Int, v = .int n ∧ 0 ≤ n ∧ n ≤ 30 := by
  rcases List.mem_cons.mp h with rfl | h
  · exact ⟨1, rfl, by decide, by decide⟩
  rcases List.mem_cons.mp h with rfl | h
  · exact ⟨2, rfl, by decide, by decide⟩
  rcases List.mem_cons.mp h with rfl | h
  · exact ⟨30, rfl, by decide, by decide⟩
  cases h
theorem sz_ten {i n : Int} (h0 : 0 ≤ n) (h1 : n ≤ 30) (h : i.natAbs < 10 ^ n.toNat) : Sz2 i := by
  have e : (10 : Nat) ^ 30 < 2 ^ 200 := by decide +kernel
  exact Nat.lt_trans (ten_le (by omega) h) e
theorem same_over {Hb : Hp} {o : HO} {D : Addr} (e : Same Hb H') (n : Hb D = none) : Same Hb (upd H' D o) := fun b z q => by
  rw [upd_ne (ne_of_none q n)]
  exact e _ _ q
def rowB (X Y : Int) (r : LineR) : Bool := decide (r.1 * X + r.2.1 * Y ≤ r.2.2)
theorem has_all (rs : List LineR) (X Y : Int) : (rs.map (rowB X Y)).all id = hasR rs X Y := by
  rw [List.all_map]
  rfl
theorem Sc.pick {rs' qs' : List LineR} {lr ll : Addr} {o : HO} {p : Addr} (z : Sc K H d s ns C lr ll x y rs' qs') (np : H p = none) : p ≠ d := fun e => by
  obtain ⟨zs, hd⟩ := z.dr.lst
  rw [e, hd] at np
  cases np
theorem edge_has (a b X Y : Int) : hasR [(a, b, a * X + b * Y), (0 - a, 0 - b, 0 - a * X - b * Y)] X Y = true := by
  unfold hasR
  rw [List.all_eq_true]
  intro r hr
  rcases List.mem_cons.mp hr with rfl | hr
  · exact decide_eq_true (Int.le_refl _)
  · rw [List.mem_singleton.mp hr]
    refine decide_eq_true ?_
    show (0 - a) * X + (0 - b) * Y ≤ 0 - a * X - b * Y
    rw [Int.sub_mul, Int.sub_mul, Int.zero_mul, Int.zero_mul]
    omega
theorem edge_no (a b X Y : Int) : hasR ([(a, b, a * X + b * Y), (0 - a, 0 - b, 0 - a * X - b * Y)] ++ [(a, b, a * X + b * Y - 1)]) X Y = false := by
  unfold hasR
  rw [List.all_eq_false]
  refine ⟨(a, b, a * X + b * Y - 1), by simp, ?_⟩
  rw [decide_eq_true_iff]
  show ¬ (a * X + b * Y ≤ a * X + b * Y - 1)
  omega
theorem edge_sz {a b X Y : Int} (ha : Sz2 a) (hb : Sz2 b) : ∀ r ∈ ([(a, b, a * X + b * Y), (0 - a, 0 - b, 0 - a * X - b * Y)] ++ [(a, b, a * X + b * Y - 1)] : List LineR), Sz2 r.1 ∧ Sz2 r.2.1 := by
  have na : Sz2 (0 - a) := by
    unfold Sz2 at ha ⊢
    omega
  have nb : Sz2 (0 - b) := by
    unfold Sz2 at hb ⊢
    omega
  intro r hr
  simp only [List.cons_append, List.nil_append, List.mem_cons, List.not_mem_nil, or_false] at hr
  rcases hr with rfl | rfl | rfl
  · exact ⟨ha, hb⟩
  · exact ⟨na, nb⟩
  · exact ⟨ha, hb⟩
theorem edge_sz2 {a b X Y : Int} (ha : Sz2 a) (hb : Sz2 b) : ∀ r ∈ ([(a, b, a * X + b * Y), (0 - a, 0 - b, 0 - a * X - b * Y)] : List LineR), Sz2 r.1 ∧ Sz2 r.2.1 := fun r hr => edge_sz (X := X) (Y := Y) ha hb r (List.mem_append_left _ hr)
theorem sz_small {i : Int} (h1 : -1000 < i) (h2 : i < 1000) : Sz2 i := sz2 (by omega) (by omega)
theorem sz_p50 : Sz2 ((10 : Int) ^ (50 : Int).toNat) := by
  show ((10 : Int) ^ (50 : Int).toNat).natAbs < 2 ^ 200
  decide +kernel
theorem bad_at {A B D : List V} {v : V} {n : Nat} (h : A.length = n) : (((A ++ [v]) ++ B) ++ D)[n]? = some v ∧ (((A ++ [v]) ++ B) ++ D).take n = A := by
  subst h
  refine ⟨?_, ?_⟩
  · rw [List.append_assoc, List.append_assoc, List.getElem?_append_right (Nat.le_refl _), Nat.sub_self]
    rfl
  · rw [List.append_assoc, List.append_assoc, List.take_left]
theorem cut_len {rs : List LineR} {g : Int} (h0 : 0 ≤ g) (h1 : g ≤ rs.length) : ((cutR rs none (some g)).length : Int) = g := by
  obtain ⟨k, rfl⟩ := Int.eq_ofNat_of_zero_le h0
  have e : HT.sIx rs.length rs.length (some (k : Int)) = min k rs.length := HT.sIx_nat _ _ k
  unfold cutR
  rw [List.length_take, List.length_drop, e, HT.sIx_none]
  omega
theorem neI {i j : Int} (e : i = j) (q : Q (.bl false) H) : rNe (.int i) (.int j) H Q := by
  subst e
  refine ⟨rfl, ?_⟩
  rw [decide_eq_true rfl]
  exact q
theorem neS {i : Str} (q : Q (.bl false) H) : rNe (.str i) (.str i) H Q := by
  refine ⟨rfl, ?_⟩
  rw [decide_eq_true rfl]
  exact q
theorem not_seq {t : String} (h1 : kitB t "list" = some false) (h2 : kitB t "tuple" = some false) : PySem.W.kitAny K (.type t) [.type "list", .type "tuple"] = some false :=
  kitAny_cons (b := false) (kit_ty h1) (fun _ => kitAny_cons (b := false) (kit_ty h2) (fun _ => kitAny_nil) fun z => Bool.noConfusion z) fun z => Bool.noConfusion z
theorem cut1 (rs : List LineR) : rs ++ cutR rs none (some 1) = rs → rs = [] := fun e => by
  have e2 : (rs ++ cutR rs none (some 1)).length = rs.length := congrArg List.length e
  rw [List.length_append] at e2
  cases rs with
  | nil => rfl
  | cons r rs =>
    exfalso
    have z : (cutR (r :: rs) none (some 1)).length = 1 := by
      have q : HT.sIx (r :: rs).length (r :: rs).length (some 1) = min 1 (r :: rs).length := HT.sIx_nat _ _ 1
      unfold cutR
      rw [List.length_take, List.length_drop, q, HT.sIx_none, List.length_cons]
      omega
    omega
end
end
end K01
namespace K01
open PySem PySem.Spec PyProof.Rows L2 My
local macro_rules | `(tactic| walk_at "side") => `(tactic| (first
  | assumption
  | (refine OkMod.mk ?_; omega)
  | (refine mulOkL ?_ ?_ <;> omega)
  | (refine mulOkR ?_ ?_ <;> omega)
  | (refine divOk ?_ ?_ <;> omega)))
local macro_rules | `(tactic| walk_at "rd") => `(tactic| (first
  | with_reducible refine ⟨_, rfl, ?_⟩
  | refine ⟨_, rfl, ?_⟩
  | refine ⟨_, _, rfl, rfl, ?_⟩
  | refine And.intro (by walk_at "side") ?_
  | refine ⟨_, _, rfl, asm (by assumption), ?_⟩
  | refine ⟨_, _, rfl, asm ?_⟩))
section
variable {P : Program} {w : World} {K : PySem.W.Frag} {mg : Str → Option Value} {base : Heap}
local macro_rules | `(tactic| walk_at "tk") => `(tactic| refine ⟨_, _, _, _, rfl, asm (by assumption), asm (by omega), fun _ _ _ _ _ _ => ?_⟩)
local macro_rules | `(tactic| walk_at "go") => `(tactic| repeat (first | walk_at "rd" | walk_at "tk"))
theorem ok_law {f f1 f2 f3 f4 f5 f6 f7 f8 f9 C CB : Addr} {fd fd1 fd2 fd3 fd4 fd5 fd6 fd7 fd8 fd9 : FuncData} (T : Nm mg) (R : RegC K mg C) (C__law_take : Has P w K mg base "_law_take" 2 ["draw", "many"] (spTake K) f1 fd1) (C__law_pick : Has P w K mg base "_law_pick" 3 ["draw", "items"] (spPick K) f2 fd2)
    (C__law_long : Has P w K mg base "_law_long" 3 ["draw", "figures"] (spLong K) f3 fd3) (C__law_rows : Has P w K mg base "_law_rows" 5 ["draw"] (spRows K Bnd 24) f4 fd4) (C_Region : MkX P w K mg base "Region" 5 ["self", "rows"] (spInitR K C CB) C f5 fd5)
    (Q1 : EqX P w K mg base C f6 fd6) (C_Region_has : MethX P w K mg base C "has" 1 ["self", "x", "y"] (spHas K C) f7 fd7) (C_Region_with_rows : MethX P w K mg base C "with_rows" 7 ["self", "rows"] (spWith K C) f8 fd8) (C__law_refused : Has P w K mg base "_law_refused" 8 ["rows"] (spRefused K) f9 fd9)
    (F : Fun K "law" "law" s_law f fd) : FnOk P w K mg base CX0 12 f fd ["script"] (spLaw K) := by
  refine F.ok sc_law (fun vs H Q E h => ?_) (fun cdv A outer s H vs Q E hr h => ?_)
  · obtain ⟨a, ns, rfl, _⟩ := h
    rfl
  · obtain ⟨a, ns, rfl, hS, hl, q⟩ := h
    refine ⟨_, (pss_cons (ps_set (i := 1) sc_law.nd rfl (Or.inl rfl) (pe_lst (pa_cons (pv 0) (pa_cons pe_int pa_nil))))
    (pss_cons (ps_par (i := 2) (j := 3) (by rfl) sc_law.nd rfl rfl (by decide) rfl rfl (pa_cons (pe_call C__law_rows.G (hr.mono (by decide)) (by rfl) C__law_rows.g C__law_rows.k C__law_rows.b .nil pass0 (pa_cons (pv 1) pa_nil)) (pa_cons (pe_call C__law_rows.G (hr.mono (by decide)) (by rfl) C__law_rows.g C__law_rows.k C__law_rows.b .nil pass0 (pa_cons (pv 1) pa_nil)) pa_nil)) (by rfl))
    (pss_cons (ps_set (i := 4) sc_law.nd rfl (Or.inl rfl) (pe_callTy call_list_of (by rfl) T.list (by decide +kernel) (pa_cons (pv 2) pa_nil)))
    (pss_cons (ps_par (i := 5) (j := 6) (by rfl) sc_law.nd rfl rfl (by decide) rfl rfl (pa_cons (pe_make C_Region.M C_Region.G (hr.mono (by decide)) (by rfl) C_Region.g C_Region.b .nil passL (pa_cons (pv 4) pa_nil)) (pa_cons (pe_make C_Region.M C_Region.G (hr.mono (by decide)) (by rfl) C_Region.g C_Region.b .nil passL (pa_cons (pe_callTy call_tuple_of (by rfl) T.tuple (by decide +kernel) (pa_cons (pv 3) pa_nil)) pa_nil)) pa_nil)) (by rfl))
    (pss_cons (ps_expr (pe_bm PySem.F.plainAttrs_list PySem.F.slot_list_append PySem.F.type_list_append mt_append (pv 4) (pa_cons (pe_tup (pa_cons pe_int (pa_cons pe_int (pa_cons (pe_un un_neg pe_int) pa_nil)))) pa_nil)))
    (pss_cons (ps_if (PW.pt (pw_or (pt_cmpR (op_neD hr.units) (pe_fld (pv 5) rfl) (pe_callTy call_tuple_of (by rfl) T.tuple (by decide +kernel) (pa_cons (pv 2) pa_nil)) (nomark _)) (pw_or (pt_cmpR op_ne (pe_cmpR (op_eqI Q1.M Q1.G Q1.b pass0 (hr.mono (by decide))) (pv 5) (pv 6) (nomark _)) (pe_cmpR (op_eqD hr.units) (pv 2) (pv 3) (nomark _)) (nomark _)) (pw_or (pt_cmpR (op_neI Q1.M Q1.G Q1.b pass0 (hr.mono (by decide))) (pv 5) (pe_make C_Region.M C_Region.G (hr.mono (by decide)) (by rfl) C_Region.g C_Region.b .nil passL (pa_cons (pv 2) pa_nil)) (nomark _)) (pw_or (pt_cmpR (op_eqI Q1.M Q1.G Q1.b pass0 (hr.mono (by decide))) (pv 5) (pv 2) (nomark _)) (pw_or1 (pt_cmpR (op_eqI Q1.M Q1.G Q1.b pass0 (hr.mono (by decide))) (pv 5) pe_int (nomark _))))))))
      (pss_one (ps_ret pe_bl))
      pss_nil)
    (pss_cons (ps_if (PW.pt (pw_or (pt_cmpR op_ne (pe_cmpR (op_eqI Q1.M Q1.G Q1.b pass0 (hr.mono (by decide))) (pe_make C_Region.M C_Region.G (hr.mono (by decide)) (by rfl) C_Region.g C_Region.b .nil passL (pa_cons (pe_revL (pv 2)) pa_nil)) (pv 5) (nomark _)) (pe_cmpR (op_eqD hr.units) (pe_revL (pv 2)) (pv 2) (nomark _)) (nomark _)) (pw_or1 (PW.pt (pw_and (pt_cmpR (op_eqI Q1.M Q1.G Q1.b pass0 (hr.mono (by decide))) (pe_make C_Region.M C_Region.G (hr.mono (by decide)) (by rfl) C_Region.g C_Region.b .nil passL (pa_cons (pe_op op_cat (pv 2) (pe_slice sl_list (pv 2) po_none (po_some pe_int))) pa_nil)) (pv 5) (nomark _)) (pw_and1 (pt_cmpR (op_neD hr.units) (pv 2) (pe_lst pa_nil) (nomark _))))))))
      (pss_one (ps_ret pe_bl))
      pss_nil)
    (pss_cons (ps_for PassesOwn.never rfl (pi_range1 rfl T.range (pa_cons pe_int pa_nil)) (pg_name (i := 7) sc_law.nd rfl (Or.inl rfl))
      (pss_cons (ps_asg (pe_tup (pa_cons (pe_call C__law_long.G (hr.mono (by decide)) (by rfl) C__law_long.g C__law_long.k C__law_long.b .nil pass0 (pa_cons (pv 1) (pa_cons (pe_call C__law_pick.G (hr.mono (by decide)) (by rfl) C__law_pick.g C__law_pick.k C__law_pick.b .nil pass0 (pa_cons (pv 1) (pa_cons (pe_lst (pa_cons pe_int (pa_cons pe_int (pa_cons pe_int pa_nil)))) pa_nil))) pa_nil))) (pa_cons (pe_call C__law_long.G (hr.mono (by decide)) (by rfl) C__law_long.g C__law_long.k C__law_long.b .nil pass0 (pa_cons (pv 1) (pa_cons (pe_call C__law_pick.G (hr.mono (by decide)) (by rfl) C__law_pick.g C__law_pick.k C__law_pick.b .nil pass0 (pa_cons (pv 1) (pa_cons (pe_lst (pa_cons pe_int (pa_cons pe_int (pa_cons pe_int pa_nil)))) pa_nil))) pa_nil))) pa_nil))) (pg_tup rfl (pgs_cons (pg_name (i := 8) sc_law.nd rfl (Or.inr rfl)) (pgs_cons (pg_name (i := 9) sc_law.nd rfl (Or.inr rfl)) pgs_nil))))
    (pss_one (ps_if (pt_cmpR op_ne (pe_meth (pv 5) C_Region_has.c C_Region_has.m C_Region_has.G (hr.mono (by decide)) C_Region_has.b .nil pass0 (pa_cons (pv 8) (pa_cons (pv 9) pa_nil))) (pe_callB (cr_all rfl) (by rfl) T.all (by decide +kernel) (pa_cons (pe_lc (own := [("a", 11), ("b", 12), ("c", 13)]) (g := gTup K 3 (gCons (gName 11) (gCons (gName 12) (gCons (gName 13) (gNil))))) (by rfl) sc_law.nd (pi_list (pv 2)) (by exact blkOk_by (N := ["script", "draw", "rows", "late", "given", "region", "other", "turn", "x", "y", "row", "a", "b", "c", "edge", "at", "bad", "one"]) (sc := defScope s_law) (by decide +kernel)) (fun _ _ _ _ _ => by exact (pg_tup rfl (pgs_cons (pg_name (i := 11) sc_law.nd rfl (Or.inl rfl)) (pgs_cons (pg_name (i := 12) sc_law.nd rfl (Or.inl rfl)) (pgs_cons (pg_name (i := 13) sc_law.nd rfl (Or.inl rfl)) pgs_nil))))) (fun _ _ _ _ _ => pts_nil) (fun _ _ _ _ _ => (pe_cmpR op_le (pe_op op_add (pe_op op_mulA (pv 11) (pv 8)) (pe_op op_mulA (pv 12) (pv 9))) (pv 13) (nomark _)))) pa_nil)) (nomark _))
      (pss_one (ps_ret pe_bl))
      pss_nil))))
    (pss_cons (ps_for PassesOwn.never rfl (pi_list (pe_slice sl_list (pv 2) po_none (po_some pe_int))) (pg_name (i := 10) sc_law.nd rfl (Or.inl rfl))
      (pss_cons (ps_asg (pv 10) (pg_tup rfl (pgs_cons (pg_name (i := 11) sc_law.nd rfl (Or.inl rfl)) (pgs_cons (pg_name (i := 12) sc_law.nd rfl (Or.inl rfl)) (pgs_cons (pg_name (i := 13) sc_law.nd rfl (Or.inl rfl)) pgs_nil)))))
    (pss_cons (ps_asg (pe_tup (pa_cons (pe_op op_sub (pe_call C__law_take.G (hr.mono (by decide)) (by rfl) C__law_take.g C__law_take.k C__law_take.b .nil pass0 (pa_cons (pv 1) (pa_cons pe_int pa_nil))) pe_int) (pa_cons (pe_op op_sub (pe_call C__law_take.G (hr.mono (by decide)) (by rfl) C__law_take.g C__law_take.k C__law_take.b .nil pass0 (pa_cons (pv 1) (pa_cons pe_int pa_nil))) pe_int) pa_nil))) (pg_tup rfl (pgs_cons (pg_name (i := 8) sc_law.nd rfl (Or.inr rfl)) (pgs_cons (pg_name (i := 9) sc_law.nd rfl (Or.inr rfl)) pgs_nil))))
    (pss_cons (ps_set (i := 14) sc_law.nd rfl (Or.inl rfl) (pe_lst (pa_cons (pe_tup (pa_cons (pv 11) (pa_cons (pv 12) (pa_cons (pe_op op_add (pe_op op_mulA (pv 11) (pv 8)) (pe_op op_mulA (pv 12) (pv 9))) pa_nil)))) (pa_cons (pe_tup (pa_cons (pe_op op_sub pe_int (pv 11)) (pa_cons (pe_op op_sub pe_int (pv 12)) (pa_cons (pe_op op_sub (pe_op op_sub pe_int (pe_op op_mulA (pv 11) (pv 8))) (pe_op op_mulA (pv 12) (pv 9))) pa_nil)))) pa_nil))))
    (pss_one (ps_if (PW.pt (pw_or (pt_not (pt_val (pe_meth (pe_make C_Region.M C_Region.G (hr.mono (by decide)) (by rfl) C_Region.g C_Region.b .nil passL (pa_cons (pv 14) pa_nil)) C_Region_has.c C_Region_has.m C_Region_has.G (hr.mono (by decide)) C_Region_has.b .nil pass0 (pa_cons (pv 8) (pa_cons (pv 9) pa_nil))))) (pw_or1 (pt_val (pe_meth (pe_make C_Region.M C_Region.G (hr.mono (by decide)) (by rfl) C_Region.g C_Region.b .nil passL (pa_cons (pe_op op_cat (pv 14) (pe_lst (pa_cons (pe_tup (pa_cons (pv 11) (pa_cons (pv 12) (pa_cons (pe_op op_sub (pe_op op_add (pe_op op_mulA (pv 11) (pv 8)) (pe_op op_mulA (pv 12) (pv 9))) pe_int) pa_nil)))) pa_nil))) pa_nil)) C_Region_has.c C_Region_has.m C_Region_has.G (hr.mono (by decide)) C_Region_has.b .nil pass0 (pa_cons (pv 8) (pa_cons (pv 9) pa_nil)))))))
      (pss_one (ps_ret pe_bl))
      pss_nil))))))
    (pss_cons (ps_if (PW.pt (pw_or (pt_cmpR (op_neI Q1.M Q1.G Q1.b pass0 (hr.mono (by decide))) (pe_meth (pv 5) C_Region_with_rows.c C_Region_with_rows.m C_Region_with_rows.G (hr.mono (by decide)) C_Region_with_rows.b .nil pass0 (pa_cons (pv 3) pa_nil)) (pe_make C_Region.M C_Region.G (hr.mono (by decide)) (by rfl) C_Region.g C_Region.b .nil passL (pa_cons (pe_op op_cat (pv 2) (pv 3)) pa_nil)) (nomark _)) (pw_or (pt_cmpR (op_neD hr.units) (pe_fld (pe_meth (pv 5) C_Region_with_rows.c C_Region_with_rows.m C_Region_with_rows.G (hr.mono (by decide)) C_Region_with_rows.b .nil pass0 (pa_cons (pe_callTy call_tuple_of (by rfl) T.tuple (by decide +kernel) (pa_cons (pv 3) pa_nil)) pa_nil)) rfl) (pe_callTy call_tuple_of (by rfl) T.tuple (by decide +kernel) (pa_cons (pe_op op_cat (pv 2) (pv 3)) pa_nil)) (nomark _)) (pw_or1 (pt_cmpR (op_neD hr.units) (pe_fld (pv 5) rfl) (pe_callTy call_tuple_of (by rfl) T.tuple (by decide +kernel) (pa_cons (pv 2) pa_nil)) (nomark _))))))
      (pss_one (ps_ret pe_bl))
      pss_nil)
    (pss_cons (ps_if (PW.pt (pw_or (pt_not (pt_val (pe_meth (pe_make C_Region.M C_Region.G (hr.mono (by decide)) (by rfl) C_Region.g C_Region.b .nil passL (pa_cons (pe_lst pa_nil) pa_nil)) C_Region_has.c C_Region_has.m C_Region_has.G (hr.mono (by decide)) C_Region_has.b .nil pass0 (pa_cons (pe_op op_pow pe_int pe_int) (pa_cons (pe_un un_neg pe_int) pa_nil))))) (pw_or1 (pt_cmpR (op_neD hr.units) (pe_fld (pe_make C_Region.M C_Region.G (hr.mono (by decide)) (by rfl) C_Region.g C_Region.b .nil passL (pa_cons (pe_tup pa_nil) pa_nil)) rfl) (pe_tup pa_nil) (nomark _)))))
      (pss_one (ps_ret pe_bl))
      pss_nil)
    (pss_cons (ps_par (i := 15) (j := 16) (by rfl) sc_law.nd rfl rfl (by decide) rfl rfl (pa_cons (pe_call C__law_take.G (hr.mono (by decide)) (by rfl) C__law_take.g C__law_take.k C__law_take.b .nil pass0 (pa_cons (pv 1) (pa_cons (pe_op op_add (pe_callB call_lenL (by rfl) T.len (by decide +kernel) (pa_cons (pv 2) pa_nil)) pe_int) pa_nil))) (pa_cons (pe_call C__law_pick.G (hr.mono (by decide)) (by rfl) C__law_pick.g C__law_pick.k C__law_pick.b .nil pass0 (pa_cons (pv 1) (pa_cons (pe_lst (pa_cons (pe_tup (pa_cons pe_int (pa_cons pe_int pa_nil))) (pa_cons (pe_tup (pa_cons pe_int (pa_cons pe_int (pa_cons pe_int (pa_cons pe_int pa_nil))))) (pa_cons (pe_lst (pa_cons pe_int (pa_cons pe_int (pa_cons pe_int pa_nil)))) (pa_cons pe_non (pa_cons pe_int (pa_cons (pe_tup (pa_cons pe_int (pa_cons pe_int (pa_cons pe_str pa_nil)))) (pa_cons (pe_tup (pa_cons pe_bl (pa_cons pe_int (pa_cons pe_int pa_nil)))) (pa_cons (pe_tup (pa_cons pe_int (pa_cons pe_non (pa_cons pe_int pa_nil)))) (pa_cons (pe_tup (pa_cons pe_int (pa_cons pe_int (pa_cons pe_bl pa_nil)))) pa_nil)))))))))) pa_nil))) pa_nil)) (by rfl))
    (pss_cons (ps_if (PW.pt (pw_or (pt_cmpR op_ne (pe_call C__law_refused.G (hr.mono (by decide)) (by rfl) C__law_refused.g C__law_refused.k C__law_refused.b .nil pass0 (pa_cons (pe_op op_cat (pe_op op_cat (pe_op op_cat (pe_slice sl_list (pv 2) po_none (po_some (pv 15))) (pe_lst (pa_cons (pv 16) pa_nil))) (pe_slice sl_list (pv 2) (po_some (pv 15)) po_none)) (pe_lst (pa_cons pe_non pa_nil))) pa_nil)) (pv 15) (nomark _)) (pw_or1 (pt_cmpR op_ne (pe_call C__law_refused.G (hr.mono (by decide)) (by rfl) C__law_refused.g C__law_refused.k C__law_refused.b .nil pass0 (pa_cons (pv 2) pa_nil)) pe_str (nomark _)))))
      (pss_one (ps_ret pe_bl))
      pss_nil)
    (pss_one (ps_ret (pe_cmpR (op_eqD hr.units) (pe_lc (own := [("one", 17)]) (g := gName 17) (by rfl) sc_law.nd (pi_tup (pe_tup (pa_cons pe_non (pa_cons pe_int (pa_cons pe_str (pa_cons pe_dnewK pa_nil)))))) (by exact blkOk_by (N := ["script", "draw", "rows", "late", "given", "region", "other", "turn", "x", "y", "row", "a", "b", "c", "edge", "at", "bad", "one"]) (sc := defScope s_law) (by decide +kernel)) (fun _ _ _ _ _ => by exact (pg_name (i := 17) sc_law.nd rfl (Or.inl rfl))) (fun _ _ _ _ _ => pts_nil) (fun _ _ _ _ _ => (pe_call C__law_refused.G (hr.mono (by decide)) (by rfl) C__law_refused.g C__law_refused.k C__law_refused.b .nil pass0 (pa_cons (pv 17) pa_nil)))) (pe_op op_rep (pe_lst (pa_cons pe_non pa_nil)) pe_int) (nomark _))))))))))))))))), ?_⟩
    refine ⟨_, rfl, by show 2 ≤ sizeLine; decide, fun d nd => ?_⟩
    have D0 : DrawAt K (upd H d (.lst [.ref a, .int 0])) d a ns := ⟨0, upd_same, Same.seq (same_upd nd) hS, hl⟩
    refine ⟨_, rfl, d, a, ns, rfl, D0, fun lr rs H1 nr R1 hb hn K1 D1 => ?_⟩
    refine ⟨_, rfl, d, a, ns, rfl, D1, fun ll qs H2 nl R2 hb2 hn2 K2 D2 => ?_⟩
    have lrd : lr ≠ d := fun z => by rw [z, upd_same] at nr; cases nr
    obtain ⟨zs1, hd1⟩ := D1.lst
    have lld : ll ≠ d := fun z => by rw [z, hd1] at nl; cases nl
    have R12 := rowsAt_keep K2 hd1 lrd R1
    obtain ⟨vs, hv, hvr⟩ := R12
    obtain ⟨us, hu, hur⟩ := R2
    refine ⟨_, _, rfl, ?_⟩
    refine ⟨_, rfl, lr, vs, rfl, .inl (.inl (.inl hv)), fun lg ng => ?_⟩
    have S3 : Same H2 (upd H2 lg (.lst vs)) := same_upd ng
    have ngl : lg ≠ lr := fun z => by rw [z, hv] at ng; cases ng
    have ngl2 : lg ≠ ll := fun z => by rw [z, hu] at ng; cases ng
    refine ⟨_, rfl, fun x dx nx ndx nex => make_at nx ndx nex (.inl (.inl (.inl upd_same))) (hvr.same S3) fun H4 S4 rx => ⟨rfl, ?_⟩⟩
    refine ⟨_, rfl, ll, us, rfl, .inl ⟨.inl (.inl (S4 _ _ (S3 _ _ hu))), fun lt nt => ?_⟩⟩
    have S5 : Same H4 (upd H4 lt (.tup us)) := same_upd nt
    have S35 := S3.trans (S4.trans S5)
    refine fun y dy ny ndy ney => make_at ny ndy ney (.inr (.inl (.inl upd_same))) (hur.same S35) fun H6 S6 ry => ⟨rfl, ?_⟩
    have S36 := S35.trans S6
    have hg6 : upd H2 lg (.lst vs) lg = some (.lst vs) := upd_same
    have hg : H6 lg = some (.lst vs) := (S4.trans (S5.trans S6)) _ _ hg6
    refine ⟨_, _, rfl, ?_⟩
    refine ⟨_, rfl, .inl ⟨rfl, _, .inl (.inl hg)⟩, ?_⟩
    refine ⟨_, rfl, by show 3 ≤ sizeLine; decide, fun p np => ?_⟩
    have S7 : Same H6 (upd H6 p (.tup [.int 0, .int 0, .int (-1)])) := same_upd np
    have lenv := hvr.len
    refine ⟨lg, vs, _, rfl, rfl, S7 _ _ hg, small1000 (by omega), ?_⟩
    have K8 := Keep.upd lg (upd H6 p (.tup [.int 0, .int 0, .int (-1)])) (.lst (vs ++ [.ref p]))
    have S37 := S36.trans S7
    have nlg : ∀ {b : Addr} {o : HO}, H2 b = some o → b ≠ lg := fun e z => by rw [z, ng] at e; cases e
    generalize hH8 : upd (upd H6 p (.tup [.int 0, .int 0, .int (-1)])) lg (.lst (vs ++ [.ref p])) = H8 at K8
    have sc : Sc K H8 d a ns C lr ll x y rs qs :=
      ⟨drawAt_other D2 (D2.same S37) ng K8, ⟨vs, K8 _ _ (nlg hv) (S37 _ _ hv), (hvr.same S37).keep K8 (S7 _ _ hg)⟩, ⟨us, K8 _ _ (nlg hu) (S37 _ _ hu), (hur.same S37).keep K8 (S7 _ _ hg)⟩, lrd, lld,
        regAt_keep K8 (S7 _ _ hg) (rx.same (S5.trans (S6.trans S7))), regAt_keep K8 (S7 _ _ hg) (ry.same S7)⟩
    clear hH8 K8 S37 hg hg6 np S7 S36 S35 S6 S5 S4 S3 hv hu hvr hur rx ry nx ndx nex ny ndy ney ngl ngl2 D0 D1 D2 K1 K2 R1 hd1 nr nl ng nt
    -- the first test
    obtain ⟨vs, hv, hvr⟩ := id sc.r
    obtain ⟨us, hu, hur⟩ := id sc.l
    obtain ⟨ox, t, ts, hx, ht, htr⟩ := id sc.rx
    refine ⟨_, rfl, x, C, ox, _, _, rfl, hx, R.cl, R.nr, rfl, _, rfl, lr, vs, rfl, .inl ⟨.inl (.inl hv), fun p np => ?_⟩⟩
    have S1 : Same H8 (upd H8 p (.tup vs)) := same_upd np
    refine neT (Same.tup S1 ht) (htr.same S1) (.inl (.inl upd_same)) (hvr.same S1) ?_
    rw [dec_self]
    refine ⟨_, rfl, iteF ?_⟩
    have sc1 := sc.same S1
    refine ⟨_, rfl, _, rfl, eqR sc1.rx sc1.ry ?_⟩
    refine ⟨_, rfl, _, rfl, eqL (.inl (.inl (S1 _ _ hv))) (hvr.same S1) (.inl (.inl (S1 _ _ hu))) (hur.same S1) ?_⟩
    refine neB ⟨_, rfl, iteF ?_⟩
    refine ⟨_, rfl, _, rfl, fun z dz nz ndz nez => make_at nz ndz nez (.inl (.inl (.inl (S1 _ _ hv)))) (hvr.same S1) fun H9 S9 rz => ⟨rfl, ?_⟩⟩
    have sc9 := sc1.same S9
    refine neR sc9.rx rz ?_
    rw [dec_self]
    refine ⟨_, rfl, iteF ?_⟩
    refine ⟨_, rfl, _, rfl, eqRL R Q1.nl sc9.rx (S9 _ _ (S1 _ _ hv)) ?_⟩
    refine ⟨_, rfl, iteF ?_⟩
    refine ⟨_, rfl, ?_⟩
    dsimp only [tC]
    refine eqRI R Q1.ni sc9.rx ?_
    refine ⟨_, rfl, iteF ?_⟩
    -- the second test
    dsimp only [tNext]
    refine sSeq_via (fun σ' H' => σ' = [some (.ref a), some (.ref d), some (.ref lr), some (.ref ll), some (.ref lg), some (.ref x), some (.ref y), none, none, none, none, none, none, none, none, none, none, none] ∧ Sc K H' d a ns C lr ll x y rs qs) (fun nx hnx => ?_) ?_
    · clear hv hvr hu hur hx ht htr np
      obtain ⟨vs, hv, hvr⟩ := id sc9.r
      refine ⟨_, rfl, lr, vs, rfl, .inl (.inl hv), fun p2 np2 => ?_⟩
      have S10 : Same H9 (upd H9 p2 (.lst vs.reverse)) := same_upd np2
      refine fun z2 dz2 nz2 ndz2 nez2 => make_at nz2 ndz2 nez2 (.inl (.inl (.inl upd_same))) (hvr.rev.same S10) fun H11 S11 rz2 => ⟨rfl, ?_⟩
      have sc11 := (sc9.same S10).same S11
      refine ⟨_, rfl, eqR rz2 sc11.rx ?_⟩
      have hv11 := S11 _ _ (S10 _ _ hv)
      refine ⟨_, rfl, lr, vs, rfl, .inl (.inl hv11), fun p3 np3 => ?_⟩
      have S12 : Same H11 (upd H11 p3 (.lst vs.reverse)) := same_upd np3
      have hvr12 := ((hvr.same S10).same S11).same S12
      refine ⟨_, rfl, eqL (.inl (.inl upd_same)) hvr12.rev (.inl (.inl (S12 _ _ hv11))) hvr12 ?_⟩
      refine neB ⟨_, rfl, iteF ?_⟩
      have sc12 := sc11.same S12
      have hv12 := S12 _ _ hv11
      refine ⟨_, rfl, _, rfl, 1, rfl, lr, vs, rfl, .inl (.inl hv12), fun p4 np4 => ?_⟩
      have S13 : Same H11 (upd (upd H11 p3 (.lst vs.reverse)) p4 (.lst (cutV vs none (some 1)))) := S12.trans (same_upd np4)
      have S34 : Same (upd H11 p3 (.lst vs.reverse)) (upd (upd H11 p3 (.lst vs.reverse)) p4 (.lst (cutV vs none (some 1)))) := same_upd np4
      have hvr13 := hvr12.same S34
      have cl := cutV_length vs none (some 1)
      have lv := hvr.len
      refine ⟨lr, p4, vs, _, rfl, rfl, S34 _ _ hv12, upd_same, Nat.le_of_lt (small1000 (by omega)), fun p5 np5 => ?_⟩
      have S45 := same_upd (o := .lst (vs ++ cutV vs none (some 1))) np5
      refine fun z3 dz3 nz3 ndz3 nez3 => make_at nz3 ndz3 nez3 (.inl (.inl (.inl upd_same))) ((hvr13.same S45).app (RowsV.cut (hvr13.same S45) none (some 1))) fun H14 S14 rz3 => ⟨rfl, ?_⟩
      have sc14 := ((sc12.same S34).same S45).same S14
      have hv14 := S14 _ _ (S45 _ _ (S34 _ _ hv12))
      have hvr14 := (hvr13.same S45).same S14
      refine ⟨_, rfl, eqR rz3 sc14.rx ?_⟩
      refine ⟨_, rfl, ite2 (fun c => ?_) (fun _ => ?_)⟩
      · have e0 := cut1 rs (of_decide_eq_true c)
        subst e0
        cases hvr14
        refine ⟨_, rfl, by show 0 ≤ sizeLine; decide, fun p6 np6 => ?_⟩
        have S15 := same_upd (o := .lst []) np6
        refine neL (rs := []) (qs := []) (.inl (.inl (S15 _ _ hv14))) .nil (.inl (.inl upd_same)) .nil ?_
        exact ⟨_, rfl, iteF (hnx _ _ ⟨rfl, sc14.same S15⟩)⟩
      · exact hnx _ _ ⟨rfl, sc14⟩
    · rintro σ' H1 ⟨rfl, sc1⟩
      clear sc9 hvr hv sc
      have hbm : ∀ r ∈ rs, Sz2 r.1 ∧ Sz2 r.2.1 := fun r hr => ⟨(hb r hr).a, (hb r hr).b⟩
      refine ⟨8, rfl, by decide, by decide, for_range (n := 8) (fun _ σ H' => ∃ v7 v8 v9, σ = [some (.ref a), some (.ref d), some (.ref lr), some (.ref ll), some (.ref lg), some (.ref x), some (.ref y), v7, v8, v9, none, none, none, none, none, none, none, none] ∧ Sc K H' d a ns C lr ll x y rs qs) ⟨none, none, none, rfl, sc1⟩ ?_ ?_⟩
      · rintro i σ H2 _ ⟨v7, v8, v9, rfl, sc2⟩
        refine ⟨_, rfl, _, rfl, by show 3 ≤ sizeLine; decide, fun p np => ?_⟩
        refine ⟨d, a, p, ns, _, rfl, sc2.dr.same (same_upd np), sc2.pick (o := .own 0) np, .inl (.inl upd_same), by decide, fun v H3 hv K3 D3 => ?_⟩
        obtain ⟨n1, rfl, n10, n11⟩ := pick3 hv
        have sc3 := (sc2.same (same_upd np)).keep K3 D3
        refine ⟨d, a, n1, ns, rfl, D3, n10, by omega, fun X H4 hX K4 D4 => ?_⟩
        have sc4 := sc3.keep K4 D4
        refine ⟨_, rfl, _, rfl, by show 3 ≤ sizeLine; decide, fun p2 np2 => ?_⟩
        refine ⟨d, a, p2, ns, _, rfl, sc4.dr.same (same_upd np2), sc4.pick (o := .own 0) np2, .inl (.inl upd_same), by decide, fun v' H5 hv' K5 D5 => ?_⟩
        obtain ⟨n2, rfl, n20, n21⟩ := pick3 hv'
        have sc5 := (sc4.same (same_upd np2)).keep K5 D5
        refine ⟨d, a, n2, ns, rfl, D5, n20, by omega, fun Y H6 hY K6 D6 => ?_⟩
        have sc6 := sc5.keep K6 D6
        refine ⟨by show 2 ≤ sizeLine; decide, fun p3 np3 => ?_⟩
        have sc7 := sc6.same (same_upd (o := .tup [.int X, .int Y]) np3)
        refine ⟨p3, _, rfl, .inl (.inl upd_same), rfl, _, _, rfl, _, _, rfl, rfl, ?_⟩
        have zX := sz_ten n10 n11 hX
        have zY := sz_ten n20 n21 hY
        obtain ⟨vs, hv, hvr⟩ := id sc7.r
        obtain ⟨ox, t, ts, hx, ht, htr⟩ := id sc7.rx
        refine ⟨_, rfl, x, ox, _, rfl, hx, rfl, _, rfl, _, rfl, x, X, Y, rs, rfl, sc7.rx, hbm, zX, zY, ?_⟩
        generalize hHb : upd H6 p3 (.tup [.int X, .int Y]) = Hb at *
        refine ⟨_, rfl, lr, rfl, ⟨vs, .inl (.inl hv)⟩, fun L nL => lc_list (xs := vs) (fun i H' => Same Hb H' ∧ H' L = some (.lst (((rs.take i).map (rowB X Y)).map V.bl))) ⟨same_upd nL, upd_same⟩ (fun i H' _ z => .inl (.inl (z.1 _ _ hv))) ?_ ?_⟩
        · rintro j v0 H8 hj ⟨S8, hL⟩
          obtain ⟨⟨ra, rb, rc⟩, hri, u, rfl, hu⟩ := hvr.at hj
          obtain ⟨b1, b2⟩ := hbm _ (List.mem_of_getElem? hri)
          dsimp only at b1 b2 hu
          refine ⟨u, _, rfl, Same.tup S8 hu, rfl, _, _, rfl, _, _, rfl, _, _, rfl, rfl, rfl, tYes_in ?_⟩
          refine ⟨_, rfl, _, rfl, _, _, rfl, rfl, mul2 b1 zX, ?_⟩
          refine ⟨_, rfl, _, rfl, _, _, rfl, rfl, mul2 b2 zY, ?_⟩
          refine ⟨_, _, rfl, rfl, _, rfl, _, _, rfl, rfl, _, hL, ?_, same_over S8 nL, ?_⟩
          · rw [List.length_map, List.length_map, List.length_take]
            exact small1000 (by omega)
          · rw [upd_same, List.take_add_one, hri, List.map_append, List.map_append]
            rfl
        · rintro H8 ⟨S8, hL⟩
          rw [hvr.len, List.take_length] at hL
          refine ⟨L, rs.map (rowB X Y), rfl, .inl (.inl hL), ?_⟩
          rw [has_all]
          refine neB ⟨_, rfl, iteF ?_⟩
          exact ⟨_, _, _, rfl, sc7.same S8⟩
      · rintro σ H2 ⟨v7, v8, v9, rfl, sc2⟩
        obtain ⟨vs, hv, hvr⟩ := id sc2.r
        refine ⟨_, rfl, 4, rfl, lr, vs, rfl, .inl (.inl hv), fun p np => ?_⟩
        have S3 := same_upd (o := .lst (cutV vs none (some 4))) np
        have pd := sc2.pick (o := .own 0) np
        have hcut := RowsV.cut (hvr.same S3) none (some 4)
        have hbc : ∀ r ∈ cutR rs none (some 4), Sz2 r.1 ∧ Sz2 r.2.1 := fun r hr => hbm r (cutR_mem hr)
        generalize hcv : cutV vs none (some 4) = ws at *
        generalize hcr : cutR rs none (some 4) = ps at *
        refine ⟨p, rfl, ⟨ws, .inl (.inl upd_same)⟩, for_list (xs := ws) (fun _ σ H' => ∃ v7 v8 v9 v10 v11 v12 v13 v14, σ = [some (.ref a), some (.ref d), some (.ref lr), some (.ref ll), some (.ref lg), some (.ref x), some (.ref y), v7, v8, v9, v10, v11, v12, v13, v14, none, none, none] ∧ Sc K H' d a ns C lr ll x y rs qs ∧ H' p = some (.lst ws) ∧ RowsV K H' ws ps)
          ⟨v7, v8, v9, none, none, none, none, none, rfl, sc2.same S3, upd_same, hcut⟩ ?_ ?_ ?_⟩
        · rintro i σ H' _ ⟨_, _, _, _, _, _, _, _, _, _, h, _⟩
          exact .inl (.inl h)
        · rintro i v σ H4 hi ⟨v7, v8, v9, v10, v11, v12, v13, v14, rfl, sc4, hp4, hr4⟩
          obtain ⟨⟨ra, rb, rc⟩, hri, u, rfl, hu⟩ := hr4.at hi
          obtain ⟨b1, b2⟩ := hbc _ (List.mem_of_getElem? hri)
          dsimp only at b1 b2 hu
          refine ⟨_, rfl, u, _, rfl, hu, rfl, _, _, rfl, _, _, rfl, _, _, rfl, rfl, ?_⟩
          refine ⟨_, rfl, d, a, 99, ns, rfl, sc4.dr, by decide, fun X H5 x0 x1 K5 D5 => ?_⟩
          obtain ⟨zs4, hd4⟩ := sc4.dr.lst
          have sc5 := sc4.keep K5 D5
          have hp5 := K5 _ _ pd hp4
          have hr5 := hr4.keep K5 hd4
          refine ⟨_, _, rfl, rfl, _, rfl, d, a, 99, ns, rfl, D5, by decide, fun Y H6 y0 y1 K6 D6 => ?_⟩
          obtain ⟨zs5, hd5⟩ := D5.lst
          have sc6 := sc5.keep K6 D6
          have hp6 := K6 _ _ pd hp5
          have hr6 := hr5.keep K6 hd5
          refine ⟨_, _, rfl, rfl, by show 2 ≤ sizeLine; decide, fun p3 np3 => ?_⟩
          refine ⟨p3, _, rfl, .inl (.inl upd_same), rfl, _, _, rfl, _, _, rfl, rfl, ?_⟩
          have S7 := same_upd (o := .tup [.int (X - 50), .int (Y - 50)]) np3
          have sc7 := sc6.same S7
          have hp7 := S7 _ _ hp6
          have hr7 := hr6.same S7
          have m1 : OkMul ra (X - 50) := mulOkR (by omega) (by omega)
          have m2 : OkMul rb (Y - 50) := mulOkR (by omega) (by omega)
          repeat (walk_at "rd")
          refine ⟨by show 3 ≤ sizeLine; decide, fun p4 np4 => ?_⟩
          repeat (walk_at "rd")
          refine ⟨by show 3 ≤ sizeLine; decide, fun p5 np5 => ?_⟩
          refine ⟨by show 2 ≤ sizeLine; decide, fun e ne => ?_⟩
          have S8 := same_upd (o := .tup [.int ra, .int rb, .int (ra * (X - 50) + rb * (Y - 50))]) np4
          have S9 := same_upd (o := .tup [.int (0 - ra), .int (0 - rb), .int (0 - ra * (X - 50) - rb * (Y - 50))]) np5
          have S10 := same_upd (o := .lst [.ref p4, .ref p5]) ne
          have er := (RowsV.cons (RowV.same S9 (rowV_new (K := K) (p := p4) (a := ra) (b := rb) (c := ra * (X - 50) + rb * (Y - 50)))) (.cons (rowV_new (K := K) (p := p5) (a := 0 - ra) (b := 0 - rb) (c := 0 - ra * (X - 50) - rb * (Y - 50))) .nil)).same S10
          have S8a := S8.trans (S9.trans S10)
          have sc10 := sc7.same S8a
          have hp10 := S8a _ _ hp7
          have hr10 := hr7.same S8a
          generalize hH10 : upd (upd (upd _ p4 _) p5 _) e _ = H10 at *
          have he10 : H10 e = some (.lst [.ref p4, .ref p5]) := by
            rw [← hH10]
            exact upd_same
          clear hH10
          have zX : Sz2 (X - 50) := sz_small (by omega) (by omega)
          have zY : Sz2 (Y - 50) := sz_small (by omega) (by omega)
          refine ⟨_, rfl, fun z dz nz ndz nez => make_at nz ndz nez (.inl (.inl (.inl he10))) er fun H11 S11 rz => ⟨rfl, ?_⟩⟩
          obtain ⟨oz, tz, tsz, hz, _⟩ := id rz
          refine ⟨z, oz, _, rfl, hz, rfl, _, rfl, _, rfl, z, _, _, _, rfl, rz, edge_sz2 b1 b2, zX, zY, ?_⟩
          rw [edge_has]
          refine ⟨true, rfl, iteF ?_⟩
          refine ⟨_, rfl, ?_⟩
          repeat (walk_at "rd")
          refine ⟨by show 3 ≤ sizeLine; decide, fun p6 np6 => ?_⟩
          refine ⟨by show 1 ≤ sizeLine; decide, fun p7 np7 => ?_⟩
          have S12 := same_upd (o := .tup [.int ra, .int rb, .int (ra * (X - 50) + rb * (Y - 50) - 1)]) np6
          have S13 := same_upd (o := .lst [.ref p6]) np7
          have S23 := S12.trans S13
          refine ⟨e, p7, _, _, rfl, rfl, S23 _ _ (S11 _ _ he10), upd_same, by show 2 + 1 ≤ sizeLine; decide, fun p8 np8 => ?_⟩
          have S14 := same_upd (o := .lst ([.ref p4, .ref p5] ++ [.ref p6])) np8
          have er2 := ((er.same S11).same (S23.trans S14)).app (.cons (RowV.same (S13.trans S14) (rowV_new (K := K) (p := p6) (a := ra) (b := rb) (c := ra * (X - 50) + rb * (Y - 50) - 1))) .nil)
          refine fun z2 dz2 nz2 ndz2 nez2 => make_at nz2 ndz2 nez2 (.inl (.inl (.inl upd_same))) er2 fun H15 S15 rz2 => ⟨rfl, ?_⟩
          obtain ⟨oz2, tz2, tsz2, hz2, _⟩ := id rz2
          refine ⟨z2, oz2, _, rfl, hz2, rfl, _, rfl, _, rfl, z2, _, _, _, rfl, rz2, edge_sz b1 b2, zX, zY, ?_⟩
          rw [edge_no]
          refine ⟨false, rfl, iteF ?_⟩
          have Send := S11.trans ((S23.trans S14).trans S15)
          exact ⟨_, _, _, _, _, _, _, _, rfl, sc10.same Send, Send _ _ hp10, hr10.same Send⟩
        · rintro σ H4 ⟨v7, v8, v9, v10, v11, v12, v13, v14, rfl, sc4, hp4, hr4⟩
          clear hp4 hr4 hcut hbc S3 hv hvr
          obtain ⟨vs, hv, hvr⟩ := id sc4.r
          obtain ⟨us, hu, hur⟩ := id sc4.l
          obtain ⟨ox, t, ts, hx, ht, htr⟩ := id sc4.rx
          have lv := hvr.len
          have lu := hur.len
          refine ⟨_, rfl, x, ox, _, rfl, hx, rfl, _, rfl, x, ll, us, rs, qs, rfl, sc4.rx, .inl (.inl (.inl hu)), hur, by omega, fun z1 H5 S5 rz1 => ?_⟩
          refine ⟨_, rfl, _, rfl, lr, ll, vs, us, rfl, rfl, S5 _ _ hv, S5 _ _ hu, Nat.le_of_lt (small1000 (by omega)), fun p1 np1 => ?_⟩
          have S6 := same_upd (o := .lst (vs ++ us)) np1
          have S56 := S5.trans S6
          refine fun z2 dz2 nz2 ndz2 nez2 => make_at nz2 ndz2 nez2 (.inl (.inl (.inl upd_same))) ((hvr.same S56).app (hur.same S56)) fun H7 S7 rz2 => ⟨rfl, ?_⟩
          refine neR (rz1.same (S6.trans S7)) rz2 ?_
          rw [dec_self]
          refine ⟨_, rfl, iteF ?_⟩
          have S57 := S56.trans S7
          have sc7 := sc4.same S57
          refine ⟨_, rfl, x, ox, _, rfl, S57 _ _ hx, rfl, _, rfl, ll, us, rfl, .inl ⟨.inl (.inl (S57 _ _ hu)), fun lt nt => ?_⟩⟩
          have S8 := same_upd (o := .tup us) nt
          have S58 := S57.trans S8
          refine ⟨x, lt, us, rs, qs, rfl, sc7.rx.same S8, .inr (.inl (.inl upd_same)), hur.same S58, by omega, fun z3 H9 S9 rz3 => ?_⟩
          have S59 := S58.trans S9
          obtain ⟨oz, tz, tsz, hz, htz, hrz⟩ := id rz3
          refine ⟨z3, C, oz, _, _, rfl, hz, R.cl, R.nr, rfl, ?_⟩
          refine ⟨_, rfl, _, rfl, lr, ll, vs, us, rfl, rfl, S59 _ _ hv, S59 _ _ hu, Nat.le_of_lt (small1000 (by omega)), fun p2 np2 => ?_⟩
          have S10 := same_upd (o := .lst (vs ++ us)) np2
          refine ⟨p2, _, rfl, .inl ⟨.inl (.inl upd_same), fun l2 nl2 => ?_⟩⟩
          have S11 := same_upd (o := .tup (vs ++ us)) nl2
          have Sv := (S59.trans S10).trans S11
          refine neT (Same.tup (S10.trans S11) htz) (hrz.same (S10.trans S11)) (.inl (.inl upd_same)) ((hvr.same Sv).app (hur.same Sv)) ?_
          rw [dec_self]
          refine ⟨_, rfl, iteF ?_⟩
          refine ⟨_, rfl, x, C, ox, _, _, rfl, Sv _ _ hx, R.cl, R.nr, rfl, _, rfl, lr, vs, rfl, .inl ⟨.inl (.inl (Sv _ _ hv)), fun p3 np3 => ?_⟩⟩
          have S12 := same_upd (o := .tup vs) np3
          have Sw := Sv.trans S12
          refine neT (Same.tup Sw ht) (htr.same Sw) (.inl (.inl upd_same)) (hvr.same Sw) ?_
          rw [dec_self]
          refine ⟨_, rfl, iteF ?_⟩
          have sc13 := sc4.same Sw
          -- no rows
          refine ⟨by show 0 ≤ sizeLine; decide, fun p4 np4 => ?_⟩
          have S14 := same_upd (o := .lst []) np4
          refine fun z4 dz4 nz4 ndz4 nez4 => make_at (rs := []) nz4 ndz4 nez4 (.inl (.inl (.inl upd_same))) .nil fun H15 S15 rz4 => ⟨rfl, ?_⟩
          obtain ⟨oz4, tz4, tsz4, hz4, _⟩ := id rz4
          refine ⟨z4, oz4, _, rfl, hz4, rfl, _, _, rfl, rfl, ⟨by decide, by decide, by decide⟩, _, rfl, ?_⟩
          refine ⟨z4, _, _, [], rfl, rz4, List.forall_mem_nil _, sz_p50, sz_small (by decide) (by decide), ?_⟩
          refine ⟨true, rfl, iteF ?_⟩
          refine ⟨by show 0 ≤ sizeLine; decide, fun p5 np5 => ?_⟩
          have S16 := same_upd (o := .tup []) np5
          refine fun z6 dz6 nz6 ndz6 nez6 => make_at (rs := []) nz6 ndz6 nez6 (.inr (.inl (.inl upd_same))) .nil fun H17 S17 rz6 => ⟨rfl, ?_⟩
          obtain ⟨oz6, tz6, tsz6, hz6, htz6, hrz6⟩ := id rz6
          refine ⟨z6, C, oz6, _, _, rfl, hz6, R.cl, R.nr, rfl, ?_⟩
          refine ⟨by show 0 ≤ sizeLine; decide, fun p6 np6 => ?_⟩
          have S18 := same_upd (o := .tup []) np6
          refine neT (rs := []) (qs := []) (Same.tup S18 htz6) (hrz6.same S18) (.inl (.inl upd_same)) .nil ?_
          refine ⟨_, rfl, iteF ?_⟩
          have Sx := S14.trans (S15.trans (S16.trans (S17.trans S18)))
          have sc18 := sc13.same Sx
          have hv18 := Sx _ _ (Sw _ _ hv)
          have hvr18 := (hvr.same Sw).same Sx
          clear sc13 sc7 sc4 Sv Sw hx ht htr hz htz hrz hz4 rz4 hz6 htz6 hrz6 rz6 rz3 rz1 rz2
          -- the bad rows
          refine ⟨_, rfl, _, rfl, lr, vs, rfl, .inl (.inl hv18), _, _, rfl, rfl, d, a, _, ns, rfl, sc18.dr, by omega, fun g H20 g0 g1 K20 D20 => ?_⟩
          have sc20 := sc18.keep K20 D20
          refine ⟨_, rfl, ?_⟩
          repeat (walk_at "rd")
          refine ⟨by show 2 ≤ sizeLine; decide, fun q1 nq1 => ?_⟩
          have Uq1 := same_upd (o := .tup [.int 1, .int 2]) nq1
          have dq1 := sc20.pick (o := .own 0) nq1
          have scq1 := sc20.same Uq1
          refine ⟨by show 4 ≤ sizeLine; decide, fun q2 nq2 => ?_⟩
          have Uq2 := same_upd (o := .tup [.int 1, .int 2, .int 3, .int 4]) nq2
          have dq2 := scq1.pick (o := .own 0) nq2
          have scq2 := scq1.same Uq2
          refine ⟨by show 3 ≤ sizeLine; decide, fun q3 nq3 => ?_⟩
          have Uq3 := same_upd (o := .lst [.int 1, .int 2, .int 3]) nq3
          have dq3 := scq2.pick (o := .own 0) nq3
          have scq3 := scq2.same Uq3
          refine ⟨by show 3 ≤ sizeLine; decide, fun q4 nq4 => ?_⟩
          have Uq4 := same_upd (o := .tup [.int 1, .int 2, .str "3"]) nq4
          have dq4 := scq3.pick (o := .own 0) nq4
          have scq4 := scq3.same Uq4
          refine ⟨by show 3 ≤ sizeLine; decide, fun q5 nq5 => ?_⟩
          have Uq5 := same_upd (o := .tup [.bl true, .int 1, .int 1]) nq5
          have dq5 := scq4.pick (o := .own 0) nq5
          have scq5 := scq4.same Uq5
          refine ⟨by show 3 ≤ sizeLine; decide, fun q6 nq6 => ?_⟩
          have Uq6 := same_upd (o := .tup [.int 1, .non, .int 1]) nq6
          have dq6 := scq5.pick (o := .own 0) nq6
          have scq6 := scq5.same Uq6
          refine ⟨by show 3 ≤ sizeLine; decide, fun q7 nq7 => ?_⟩
          have Uq7 := same_upd (o := .tup [.int 0, .int 0, .bl false]) nq7
          have dq7 := scq6.pick (o := .own 0) nq7
          have scq7 := scq6.same Uq7
          refine ⟨by show 9 ≤ sizeLine; decide, fun ql nql => ?_⟩
          have Uql := same_upd (o := .lst [.ref q1, .ref q2, .ref q3, .non, .int 7, .ref q4, .ref q5, .ref q6, .ref q7]) nql
          have dql := scq7.pick (o := .own 0) nql
          have scql := scq7.same Uql
          refine ⟨d, a, ql, ns, _, rfl, scql.dr, dql, .inl (.inl upd_same), Nat.succ_pos _, fun bad H30 hbad K30 D30 => ?_⟩
          have f1 : H30 q1 = some (.tup [.int 1, .int 2]) := K30 _ _ dq1 (Uql _ _ (Uq7 _ _ (Uq6 _ _ (Uq5 _ _ (Uq4 _ _ (Uq3 _ _ (Uq2 _ _ upd_same)))))))
          have f2 : H30 q2 = some (.tup [.int 1, .int 2, .int 3, .int 4]) := K30 _ _ dq2 (Uql _ _ (Uq7 _ _ (Uq6 _ _ (Uq5 _ _ (Uq4 _ _ (Uq3 _ _ upd_same))))))
          have f3 : H30 q3 = some (.lst [.int 1, .int 2, .int 3]) := K30 _ _ dq3 (Uql _ _ (Uq7 _ _ (Uq6 _ _ (Uq5 _ _ (Uq4 _ _ upd_same)))))
          have f4 : H30 q4 = some (.tup [.int 1, .int 2, .str "3"]) := K30 _ _ dq4 (Uql _ _ (Uq7 _ _ (Uq6 _ _ (Uq5 _ _ upd_same))))
          have f5 : H30 q5 = some (.tup [.bl true, .int 1, .int 1]) := K30 _ _ dq5 (Uql _ _ (Uq7 _ _ (Uq6 _ _ upd_same)))
          have f6 : H30 q6 = some (.tup [.int 1, .non, .int 1]) := K30 _ _ dq6 (Uql _ _ (Uq7 _ _ upd_same))
          have f7 : H30 q7 = some (.tup [.int 0, .int 0, .bl false]) := K30 _ _ dq7 (Uql _ _ upd_same)
          have sc30 := scql.keep K30 D30
          have hbadN : NotRow K H30 bad := by
            rcases List.mem_cons.mp hbad with rfl | hbad
            · exact .inr (.inl ⟨q1, _, rfl, .inl (.inl f1), by decide⟩)
            rcases List.mem_cons.mp hbad with rfl | hbad
            · exact .inr (.inl ⟨q2, _, rfl, .inl (.inl f2), by decide⟩)
            rcases List.mem_cons.mp hbad with rfl | hbad
            · exact .inl ⟨.type "list", .base (.lst f3), kit_ty (by decide +kernel)⟩
            rcases List.mem_cons.mp hbad with rfl | hbad
            · exact .inl ⟨.type "NoneType", .base .non, kit_ty (by decide +kernel)⟩
            rcases List.mem_cons.mp hbad with rfl | hbad
            · exact .inl ⟨.type "int", .base (.int 7), kit_ty (by decide +kernel)⟩
            rcases List.mem_cons.mp hbad with rfl | hbad
            · exact .inr (.inr ⟨q4, _, _, _, true, true, false, rfl, .inl (.inl f4), rfl, rfl, rfl, rfl⟩)
            rcases List.mem_cons.mp hbad with rfl | hbad
            · exact .inr (.inr ⟨q5, _, _, _, false, true, true, rfl, .inl (.inl f5), rfl, rfl, rfl, rfl⟩)
            rcases List.mem_cons.mp hbad with rfl | hbad
            · exact .inr (.inr ⟨q6, _, _, _, true, false, true, rfl, .inl (.inl f6), rfl, rfl, rfl, rfl⟩)
            rcases List.mem_cons.mp hbad with rfl | hbad
            · exact .inr (.inr ⟨q7, _, _, _, true, true, false, rfl, .inl (.inl f7), rfl, rfl, rfl, rfl⟩)
            cases hbad
          clear f1 f2 f3 f4 f5 f6 f7 hbad scql scq7 scq6 scq5 scq4 scq3 scq2 scq1
          obtain ⟨vs, hv, hvr⟩ := id sc30.r
          refine ⟨_, _, rfl, ?_⟩
          refine ⟨_, rfl, _, rfl, g, rfl, lr, vs, rfl, .inl (.inl hv), fun p1 np1 => ?_⟩
          have V1 := same_upd (o := .lst (cutV vs none (some g))) np1
          refine ⟨_, rfl, by show 1 ≤ sizeLine; decide, fun p2 np2 => ?_⟩
          have V2 := same_upd (o := .lst [bad]) np2
          have c1 := cutV_length vs none (some g)
          have c2 := cutV_length vs (some g) none
          have lv := hvr.len
          refine ⟨p1, p2, _, _, rfl, rfl, V2 _ _ upd_same, upd_same, ?_, fun p3 np3 => ?_⟩
          · show (cutV vs none (some g)).length + 1 ≤ sizeLine
            exact Nat.le_of_lt (small1000 (by omega))
          have V3 := same_upd (o := .lst (cutV vs none (some g) ++ [bad])) np3
          have V13 := V1.trans (V2.trans V3)
          refine ⟨_, rfl, _, rfl, g, rfl, lr, vs, rfl, .inl (.inl (V13 _ _ hv)), fun p4 np4 => ?_⟩
          have V4 := same_upd (o := .lst (cutV vs (some g) none)) np4
          refine ⟨p3, p4, _, _, rfl, rfl, V4 _ _ upd_same, upd_same, ?_, fun p5 np5 => ?_⟩
          · rw [List.length_append]
            show (cutV vs none (some g)).length + 1 + (cutV vs (some g) none).length ≤ sizeLine
            exact Nat.le_of_lt (small1000 (by omega))
          have V5 := same_upd (o := .lst (cutV vs none (some g) ++ [bad] ++ cutV vs (some g) none)) np5
          refine ⟨by show 1 ≤ sizeLine; decide, fun p6 np6 => ?_⟩
          have V6 := same_upd (o := .lst [.non]) np6
          refine ⟨p5, p6, _, _, rfl, rfl, V6 _ _ upd_same, upd_same, ?_, fun p7 np7 => ?_⟩
          · rw [List.length_append, List.length_append]
            show (cutV vs none (some g)).length + 1 + (cutV vs (some g) none).length + 1 ≤ sizeLine
            exact Nat.le_of_lt (small1000 (by omega))
          have V7 := same_upd (o := .lst (cutV vs none (some g) ++ [bad] ++ cutV vs (some g) none ++ [.non])) np7
          have V17 := V13.trans (V4.trans (V5.trans (V6.trans V7)))
          have hcr := (RowsV.cut hvr none (some g)).same V17
          have ba := bad_at (B := cutV vs (some g) none) (D := [.non]) (v := bad) hcr.len
          have hget := ba.1
          have htak := ba.2
          refine ⟨_, .int (cutR rs none (some g)).length, rfl, .inr (.inr ⟨p7, _, cutR rs none (some g), rfl, .inl (.inl (.inl upd_same)), ?_, ⟨bad, hget, NotRow.same V17 hbadN⟩, rfl⟩), fun H40 S40 => ?_⟩
          · rw [htak]
            exact hcr
          refine ⟨_, rfl, neI (cut_len g0 (by omega)) ?_⟩
          refine ⟨_, rfl, iteF ?_⟩
          have V40 := V17.trans S40
          refine ⟨_, rfl, _, .str "none", rfl, .inl ⟨lr, vs, rs, rfl, .inl (.inl (.inl (V40 _ _ hv))), hvr.same V40, rfl⟩, fun H41 S41 => ?_⟩
          dsimp only [tC]
          refine neS ?_
          refine ⟨_, rfl, iteF ?_⟩
          refine fun dd ndd => ?_
          refine ⟨by show 4 ≤ sizeLine; decide, fun pt npt => ?_⟩
          have W1 := same_upd (o := .tup [.non, .int 5, .str "rows", .ref dd]) npt
          refine ⟨pt, rfl, ⟨_, .inl (.inl upd_same)⟩, fun L nL => lc_tup (xs := [.non, .int 5, .str "rows", .ref dd]) (fun i H' => Same _ H' ∧ H' L = some (.lst (List.replicate i .non))) ⟨same_upd nL, upd_same⟩ (fun i H' _ z => .inl (.inl (z.1 _ _ upd_same))) ?_ ?_⟩
          · rintro j v H50 hj ⟨S50, hL⟩
            have jl : j < 4 := (List.getElem?_eq_some_iff.mp hj).1
            have hdd : H50 dd = some (.dK []) := S50 _ _ (W1 _ _ upd_same)
            have hm := List.mem_of_getElem? hj
            have href : RefV K H50 v .non := by
              rcases List.mem_cons.mp hm with rfl | hm
              · exact .inr (.inl ⟨.type "NoneType", .base .non, not_seq (by decide +kernel) (by decide +kernel), rfl⟩)
              rcases List.mem_cons.mp hm with rfl | hm
              · exact .inr (.inl ⟨.type "int", .base (.int 5), not_seq (by decide +kernel) (by decide +kernel), rfl⟩)
              rcases List.mem_cons.mp hm with rfl | hm
              · exact .inr (.inl ⟨.type "str", .base (.str _), not_seq (by decide +kernel) (by decide +kernel), rfl⟩)
              rcases List.mem_cons.mp hm with rfl | hm
              · exact .inr (.inl ⟨.type "dict", .base (.dK hdd), not_seq (by decide +kernel) (by decide +kernel), rfl⟩)
              cases hm
            refine ⟨rfl, tYes_in ?_⟩
            refine ⟨_, rfl, v, .non, rfl, href, fun H51 S51 => ⟨_, S51 _ _ hL, ?_, same_over (S50.trans S51) nL, ?_⟩⟩
            · rw [List.length_replicate]
              exact small1000 (by omega)
            · rw [upd_same, List.replicate_succ']
          · rintro H50 ⟨S50, hL⟩
            refine ⟨by show 1 ≤ sizeLine; decide, fun p8 np8 => ?_⟩
            refine ⟨p8, 4, _, rfl, rfl, upd_same, by decide, by decide, by show 1 * 4 ≤ sizeLine; decide, fun p9 np9 => ?_⟩
            have W2 := same_upd (o := .lst [.non]) np8
            have W3 := same_upd (o := .lst (List.replicate (4 : Int).toNat [V.non]).flatten) np9
            have hL2 := W3 _ _ (W2 _ _ hL)
            refine ⟨.list [.none, .none, .none, .none], .list [.none, .none, .none, .none], .lst (.inl (.inl hL2)) ?_, .lst (.inl (.inl upd_same)) ?_, by decide +kernel, by decide +kernel, ?_⟩
            · exact .cons .non (.cons .non (.cons .non (.cons .non .nil)))
            · exact .cons .non (.cons .non (.cons .non (.cons .non .nil)))
            exact q _
end
end K01

namespace K01
open PySem PySem.Spec PyProof.Rows L2 My
/-! ### what the top has written -/
open PySem.W PySem.Calls PySem.HandSPX in
theorem all_mk {l : PySem.W.OpenLaw} {w : World} {K : PySem.W.Frag} {h : Heap} {mg : Str → Option Value} {fa C CB CP fI cda cc : Addr} (X : K.In h) (G : h.Ns mainGlobals mg) (hfa : mg "law" = some (.ref fa))
    {f_is_number : Addr} {od_is_number an_is_number : Option Addr} {sl_is_number : Array (Option Value)} {oc_is_number kV_is_number dc_is_number pm_is_number cd_is_number ct_is_number : Value}
    (a_is_number : PySem.W.nsIn K mainGlobals "is_number" = some (some (.ref f_is_number)))
    (l_is_number : K.lookup f_is_number = some ⟨oc_is_number, od_is_number, .func (PySem.W.fnOf "is_number" "is_number" (defArgs s_is_number) (defBody s_is_number) (defScope s_is_number) .none kV_is_number dc_is_number pm_is_number an_is_number cd_is_number ct_is_number), sl_is_number⟩)
    (c_is_number : PySem.W.codeIn K cd_is_number "is_number" = true)
    (k_is_number : PySem.W.keepIn K (.ref f_is_number) = true)
    {f_is_line_row : Addr} {od_is_line_row an_is_line_row : Option Addr} {sl_is_line_row : Array (Option Value)} {oc_is_line_row kV_is_line_row dc_is_line_row pm_is_line_row cd_is_line_row ct_is_line_row : Value}
    (a_is_line_row : PySem.W.nsIn K mainGlobals "is_line_row" = some (some (.ref f_is_line_row)))
    (l_is_line_row : K.lookup f_is_line_row = some ⟨oc_is_line_row, od_is_line_row, .func (PySem.W.fnOf "is_line_row" "is_line_row" (defArgs s_is_line_row) (defBody s_is_line_row) (defScope s_is_line_row) .none kV_is_line_row dc_is_line_row pm_is_line_row an_is_line_row cd_is_line_row ct_is_line_row), sl_is_line_row⟩)
    (c_is_line_row : PySem.W.codeIn K cd_is_line_row "is_line_row" = true)
    (k_is_line_row : PySem.W.keepIn K (.ref f_is_line_row) = true)
    {f_line_rows : Addr} {od_line_rows an_line_rows : Option Addr} {sl_line_rows : Array (Option Value)} {oc_line_rows kV_line_rows dc_line_rows pm_line_rows cd_line_rows ct_line_rows : Value}
    (a_line_rows : PySem.W.nsIn K mainGlobals "line_rows" = some (some (.ref f_line_rows)))
    (l_line_rows : K.lookup f_line_rows = some ⟨oc_line_rows, od_line_rows, .func (PySem.W.fnOf "line_rows" "line_rows" (defArgs s_line_rows) (defBody s_line_rows) (defScope s_line_rows) .none kV_line_rows dc_line_rows pm_line_rows an_line_rows cd_line_rows ct_line_rows), sl_line_rows⟩)
    (c_line_rows : PySem.W.codeIn K cd_line_rows "line_rows" = true)
    (k_line_rows : PySem.W.keepIn K (.ref f_line_rows) = true)
    {f__law_number : Addr} {od__law_number an__law_number : Option Addr} {sl__law_number : Array (Option Value)} {oc__law_number kV__law_number dc__law_number pm__law_number cd__law_number ct__law_number : Value}
    (a__law_number : PySem.W.nsIn K mainGlobals "_law_number" = some (some (.ref f__law_number)))
    (l__law_number : K.lookup f__law_number = some ⟨oc__law_number, od__law_number, .func (PySem.W.fnOf "_law_number" "_law_number" (defArgs s__law_number) (defBody s__law_number) (defScope s__law_number) .none kV__law_number dc__law_number pm__law_number an__law_number cd__law_number ct__law_number), sl__law_number⟩)
    (c__law_number : PySem.W.codeIn K cd__law_number "_law_number" = true)
    (k__law_number : PySem.W.keepIn K (.ref f__law_number) = true)
    {f__law_take : Addr} {od__law_take an__law_take : Option Addr} {sl__law_take : Array (Option Value)} {oc__law_take kV__law_take dc__law_take pm__law_take cd__law_take ct__law_take : Value}
    (a__law_take : PySem.W.nsIn K mainGlobals "_law_take" = some (some (.ref f__law_take)))
    (l__law_take : K.lookup f__law_take = some ⟨oc__law_take, od__law_take, .func (PySem.W.fnOf "_law_take" "_law_take" (defArgs s__law_take) (defBody s__law_take) (defScope s__law_take) .none kV__law_take dc__law_take pm__law_take an__law_take cd__law_take ct__law_take), sl__law_take⟩)
    (c__law_take : PySem.W.codeIn K cd__law_take "_law_take" = true)
    (k__law_take : PySem.W.keepIn K (.ref f__law_take) = true)
    {f__law_pick : Addr} {od__law_pick an__law_pick : Option Addr} {sl__law_pick : Array (Option Value)} {oc__law_pick kV__law_pick dc__law_pick pm__law_pick cd__law_pick ct__law_pick : Value}
    (a__law_pick : PySem.W.nsIn K mainGlobals "_law_pick" = some (some (.ref f__law_pick)))
    (l__law_pick : K.lookup f__law_pick = some ⟨oc__law_pick, od__law_pick, .func (PySem.W.fnOf "_law_pick" "_law_pick" (defArgs s__law_pick) (defBody s__law_pick) (defScope s__law_pick) .none kV__law_pick dc__law_pick pm__law_pick an__law_pick cd__law_pick ct__law_pick), sl__law_pick⟩)
    (c__law_pick : PySem.W.codeIn K cd__law_pick "_law_pick" = true)
    (k__law_pick : PySem.W.keepIn K (.ref f__law_pick) = true)
    {f__law_long : Addr} {od__law_long an__law_long : Option Addr} {sl__law_long : Array (Option Value)} {oc__law_long kV__law_long dc__law_long pm__law_long cd__law_long ct__law_long : Value}
    (a__law_long : PySem.W.nsIn K mainGlobals "_law_long" = some (some (.ref f__law_long)))
    (l__law_long : K.lookup f__law_long = some ⟨oc__law_long, od__law_long, .func (PySem.W.fnOf "_law_long" "_law_long" (defArgs s__law_long) (defBody s__law_long) (defScope s__law_long) .none kV__law_long dc__law_long pm__law_long an__law_long cd__law_long ct__law_long), sl__law_long⟩)
    (c__law_long : PySem.W.codeIn K cd__law_long "_law_long" = true)
    (k__law_long : PySem.W.keepIn K (.ref f__law_long) = true)
    {f__law_turned : Addr} {od__law_turned an__law_turned : Option Addr} {sl__law_turned : Array (Option Value)} {oc__law_turned kV__law_turned dc__law_turned pm__law_turned cd__law_turned ct__law_turned : Value}
    (a__law_turned : PySem.W.nsIn K mainGlobals "_law_turned" = some (some (.ref f__law_turned)))
    (l__law_turned : K.lookup f__law_turned = some ⟨oc__law_turned, od__law_turned, .func (PySem.W.fnOf "_law_turned" "_law_turned" (defArgs s__law_turned) (defBody s__law_turned) (defScope s__law_turned) .none kV__law_turned dc__law_turned pm__law_turned an__law_turned cd__law_turned ct__law_turned), sl__law_turned⟩)
    (c__law_turned : PySem.W.codeIn K cd__law_turned "_law_turned" = true)
    (k__law_turned : PySem.W.keepIn K (.ref f__law_turned) = true)
    {f__law_turn : Addr} {od__law_turn an__law_turn : Option Addr} {sl__law_turn : Array (Option Value)} {oc__law_turn kV__law_turn dc__law_turn pm__law_turn cd__law_turn ct__law_turn : Value}
    (a__law_turn : PySem.W.nsIn K mainGlobals "_law_turn" = some (some (.ref f__law_turn)))
    (l__law_turn : K.lookup f__law_turn = some ⟨oc__law_turn, od__law_turn, .func (PySem.W.fnOf "_law_turn" "_law_turn" (defArgs s__law_turn) (defBody s__law_turn) (defScope s__law_turn) .none kV__law_turn dc__law_turn pm__law_turn an__law_turn cd__law_turn ct__law_turn), sl__law_turn⟩)
    (c__law_turn : PySem.W.codeIn K cd__law_turn "_law_turn" = true)
    (k__law_turn : PySem.W.keepIn K (.ref f__law_turn) = true)
    {f__law_small_rows : Addr} {od__law_small_rows an__law_small_rows : Option Addr} {sl__law_small_rows : Array (Option Value)} {oc__law_small_rows kV__law_small_rows dc__law_small_rows pm__law_small_rows cd__law_small_rows ct__law_small_rows : Value}
    (a__law_small_rows : PySem.W.nsIn K mainGlobals "_law_small_rows" = some (some (.ref f__law_small_rows)))
    (l__law_small_rows : K.lookup f__law_small_rows = some ⟨oc__law_small_rows, od__law_small_rows, .func (PySem.W.fnOf "_law_small_rows" "_law_small_rows" (defArgs s__law_small_rows) (defBody s__law_small_rows) (defScope s__law_small_rows) .none kV__law_small_rows dc__law_small_rows pm__law_small_rows an__law_small_rows cd__law_small_rows ct__law_small_rows), sl__law_small_rows⟩)
    (c__law_small_rows : PySem.W.codeIn K cd__law_small_rows "_law_small_rows" = true)
    (k__law_small_rows : PySem.W.keepIn K (.ref f__law_small_rows) = true)
    {f__law_band_rows : Addr} {od__law_band_rows an__law_band_rows : Option Addr} {sl__law_band_rows : Array (Option Value)} {oc__law_band_rows kV__law_band_rows dc__law_band_rows pm__law_band_rows cd__law_band_rows ct__law_band_rows : Value}
    (a__law_band_rows : PySem.W.nsIn K mainGlobals "_law_band_rows" = some (some (.ref f__law_band_rows)))
    (l__law_band_rows : K.lookup f__law_band_rows = some ⟨oc__law_band_rows, od__law_band_rows, .func (PySem.W.fnOf "_law_band_rows" "_law_band_rows" (defArgs s__law_band_rows) (defBody s__law_band_rows) (defScope s__law_band_rows) .none kV__law_band_rows dc__law_band_rows pm__law_band_rows an__law_band_rows cd__law_band_rows ct__law_band_rows), sl__law_band_rows⟩)
    (c__law_band_rows : PySem.W.codeIn K cd__law_band_rows "_law_band_rows" = true)
    (k__law_band_rows : PySem.W.keepIn K (.ref f__law_band_rows) = true)
    {f__law_cell_rows : Addr} {od__law_cell_rows an__law_cell_rows : Option Addr} {sl__law_cell_rows : Array (Option Value)} {oc__law_cell_rows kV__law_cell_rows dc__law_cell_rows pm__law_cell_rows cd__law_cell_rows ct__law_cell_rows : Value}
    (a__law_cell_rows : PySem.W.nsIn K mainGlobals "_law_cell_rows" = some (some (.ref f__law_cell_rows)))
    (l__law_cell_rows : K.lookup f__law_cell_rows = some ⟨oc__law_cell_rows, od__law_cell_rows, .func (PySem.W.fnOf "_law_cell_rows" "_law_cell_rows" (defArgs s__law_cell_rows) (defBody s__law_cell_rows) (defScope s__law_cell_rows) .none kV__law_cell_rows dc__law_cell_rows pm__law_cell_rows an__law_cell_rows cd__law_cell_rows ct__law_cell_rows), sl__law_cell_rows⟩)
    (c__law_cell_rows : PySem.W.codeIn K cd__law_cell_rows "_law_cell_rows" = true)
    (k__law_cell_rows : PySem.W.keepIn K (.ref f__law_cell_rows) = true)
    {f__law_line_rows : Addr} {od__law_line_rows an__law_line_rows : Option Addr} {sl__law_line_rows : Array (Option Value)} {oc__law_line_rows kV__law_line_rows dc__law_line_rows pm__law_line_rows cd__law_line_rows ct__law_line_rows : Value}
    (a__law_line_rows : PySem.W.nsIn K mainGlobals "_law_line_rows" = some (some (.ref f__law_line_rows)))
    (l__law_line_rows : K.lookup f__law_line_rows = some ⟨oc__law_line_rows, od__law_line_rows, .func (PySem.W.fnOf "_law_line_rows" "_law_line_rows" (defArgs s__law_line_rows) (defBody s__law_line_rows) (defScope s__law_line_rows) .none kV__law_line_rows dc__law_line_rows pm__law_line_rows an__law_line_rows cd__law_line_rows ct__law_line_rows), sl__law_line_rows⟩)
    (c__law_line_rows : PySem.W.codeIn K cd__law_line_rows "_law_line_rows" = true)
    (k__law_line_rows : PySem.W.keepIn K (.ref f__law_line_rows) = true)
    {f__law_long_rows : Addr} {od__law_long_rows an__law_long_rows : Option Addr} {sl__law_long_rows : Array (Option Value)} {oc__law_long_rows kV__law_long_rows dc__law_long_rows pm__law_long_rows cd__law_long_rows ct__law_long_rows : Value}
    (a__law_long_rows : PySem.W.nsIn K mainGlobals "_law_long_rows" = some (some (.ref f__law_long_rows)))
    (l__law_long_rows : K.lookup f__law_long_rows = some ⟨oc__law_long_rows, od__law_long_rows, .func (PySem.W.fnOf "_law_long_rows" "_law_long_rows" (defArgs s__law_long_rows) (defBody s__law_long_rows) (defScope s__law_long_rows) .none kV__law_long_rows dc__law_long_rows pm__law_long_rows an__law_long_rows cd__law_long_rows ct__law_long_rows), sl__law_long_rows⟩)
    (c__law_long_rows : PySem.W.codeIn K cd__law_long_rows "_law_long_rows" = true)
    (k__law_long_rows : PySem.W.keepIn K (.ref f__law_long_rows) = true)
    {f__law_rows : Addr} {od__law_rows an__law_rows : Option Addr} {sl__law_rows : Array (Option Value)} {oc__law_rows kV__law_rows dc__law_rows pm__law_rows cd__law_rows ct__law_rows : Value}
    (a__law_rows : PySem.W.nsIn K mainGlobals "_law_rows" = some (some (.ref f__law_rows)))
    (l__law_rows : K.lookup f__law_rows = some ⟨oc__law_rows, od__law_rows, .func (PySem.W.fnOf "_law_rows" "_law_rows" (defArgs s__law_rows) (defBody s__law_rows) (defScope s__law_rows) .none kV__law_rows dc__law_rows pm__law_rows an__law_rows cd__law_rows ct__law_rows), sl__law_rows⟩)
    (c__law_rows : PySem.W.codeIn K cd__law_rows "_law_rows" = true)
    (k__law_rows : PySem.W.keepIn K (.ref f__law_rows) = true)
    {f__law_refused : Addr} {od__law_refused an__law_refused : Option Addr} {sl__law_refused : Array (Option Value)} {oc__law_refused kV__law_refused dc__law_refused pm__law_refused cd__law_refused ct__law_refused : Value}
    (a__law_refused : PySem.W.nsIn K mainGlobals "_law_refused" = some (some (.ref f__law_refused)))
    (l__law_refused : K.lookup f__law_refused = some ⟨oc__law_refused, od__law_refused, .func (PySem.W.fnOf "_law_refused" "_law_refused" (defArgs s__law_refused) (defBody s__law_refused) (defScope s__law_refused) .none kV__law_refused dc__law_refused pm__law_refused an__law_refused cd__law_refused ct__law_refused), sl__law_refused⟩)
    (c__law_refused : PySem.W.codeIn K cd__law_refused "_law_refused" = true)
    (k__law_refused : PySem.W.keepIn K (.ref f__law_refused) = true)
    {f_law : Addr} {od_law an_law : Option Addr} {sl_law : Array (Option Value)} {oc_law kV_law dc_law pm_law cd_law ct_law : Value}
    (a_law : PySem.W.nsIn K mainGlobals "law" = some (some (.ref f_law)))
    (l_law : K.lookup f_law = some ⟨oc_law, od_law, .func (PySem.W.fnOf "law" "law" (defArgs s_law) (defBody s_law) (defScope s_law) .none kV_law dc_law pm_law an_law cd_law ct_law), sl_law⟩)
    (c_law : PySem.W.codeIn K cd_law "law" = true)
    (k_law : PySem.W.keepIn K (.ref f_law) = true)
    (aC : PySem.W.nsIn K mainGlobals "Region" = some (some (.ref C)))
    {f_Region___init__ : Addr} {od_Region___init__ an_Region___init__ : Option Addr} {sl_Region___init__ : Array (Option Value)} {oc_Region___init__ kV_Region___init__ dc_Region___init__ pm_Region___init__ cd_Region___init__ ct_Region___init__ : Value}
    (a_Region___init__ : PySem.W.findIn K (.ref C) "__init__" = some (some (.ref f_Region___init__)))
    (i_Region___init__ : PySem.W.isFn K (.ref f_Region___init__) = true)
    (l_Region___init__ : K.lookup f_Region___init__ = some ⟨oc_Region___init__, od_Region___init__, .func (PySem.W.fnOf "__init__" "Region.__init__" (defArgs s_Region___init__) (defBody s_Region___init__) (defScope s_Region___init__) .none kV_Region___init__ dc_Region___init__ pm_Region___init__ an_Region___init__ cd_Region___init__ ct_Region___init__), sl_Region___init__⟩)
    (c_Region___init__ : PySem.W.codeIn K cd_Region___init__ "Region.__init__" = true)
    (k_Region___init__ : PySem.W.keepIn K (.ref f_Region___init__) = true)
    {f_Region___eq__ : Addr} {od_Region___eq__ an_Region___eq__ : Option Addr} {sl_Region___eq__ : Array (Option Value)} {oc_Region___eq__ kV_Region___eq__ dc_Region___eq__ pm_Region___eq__ cd_Region___eq__ ct_Region___eq__ : Value}
    (a_Region___eq__ : PySem.W.findIn K (.ref C) "__eq__" = some (some (.ref f_Region___eq__)))
    (i_Region___eq__ : PySem.W.isFn K (.ref f_Region___eq__) = true)
    (l_Region___eq__ : K.lookup f_Region___eq__ = some ⟨oc_Region___eq__, od_Region___eq__, .func (PySem.W.fnOf "__eq__" "Region.__eq__" (defArgs s_Region___eq__) (defBody s_Region___eq__) (defScope s_Region___eq__) .none kV_Region___eq__ dc_Region___eq__ pm_Region___eq__ an_Region___eq__ cd_Region___eq__ ct_Region___eq__), sl_Region___eq__⟩)
    (c_Region___eq__ : PySem.W.codeIn K cd_Region___eq__ "Region.__eq__" = true)
    (k_Region___eq__ : PySem.W.keepIn K (.ref f_Region___eq__) = true)
    {f_Region_has : Addr} {od_Region_has an_Region_has : Option Addr} {sl_Region_has : Array (Option Value)} {oc_Region_has kV_Region_has dc_Region_has pm_Region_has cd_Region_has ct_Region_has : Value}
    (a_Region_has : PySem.W.findIn K (.ref C) "has" = some (some (.ref f_Region_has)))
    (i_Region_has : PySem.W.isFn K (.ref f_Region_has) = true)
    (l_Region_has : K.lookup f_Region_has = some ⟨oc_Region_has, od_Region_has, .func (PySem.W.fnOf "has" "Region.has" (defArgs s_Region_has) (defBody s_Region_has) (defScope s_Region_has) .none kV_Region_has dc_Region_has pm_Region_has an_Region_has cd_Region_has ct_Region_has), sl_Region_has⟩)
    (c_Region_has : PySem.W.codeIn K cd_Region_has "Region.has" = true)
    (k_Region_has : PySem.W.keepIn K (.ref f_Region_has) = true)
    {f_Region_with_rows : Addr} {od_Region_with_rows an_Region_with_rows : Option Addr} {sl_Region_with_rows : Array (Option Value)} {oc_Region_with_rows kV_Region_with_rows dc_Region_with_rows pm_Region_with_rows cd_Region_with_rows ct_Region_with_rows : Value}
    (a_Region_with_rows : PySem.W.findIn K (.ref C) "with_rows" = some (some (.ref f_Region_with_rows)))
    (i_Region_with_rows : PySem.W.isFn K (.ref f_Region_with_rows) = true)
    (l_Region_with_rows : K.lookup f_Region_with_rows = some ⟨oc_Region_with_rows, od_Region_with_rows, .func (PySem.W.fnOf "with_rows" "Region.with_rows" (defArgs s_Region_with_rows) (defBody s_Region_with_rows) (defScope s_Region_with_rows) .none kV_Region_with_rows dc_Region_with_rows pm_Region_with_rows an_Region_with_rows cd_Region_with_rows ct_Region_with_rows), sl_Region_with_rows⟩)
    (c_Region_with_rows : PySem.W.codeIn K cd_Region_with_rows "Region.with_rows" = true)
    (k_Region_with_rows : PySem.W.keepIn K (.ref f_Region_with_rows) = true)
    (pg : PySem.W.plainGet K C Str.empty = true)
    (hd : PySem.W.hasDictIn K C = true)
    (po : PySem.W.plainOver K C = true)
    (sa : PySem.W.findIn K (.ref C) "__setattr__" = some (some (.builtin "object.__setattr__")))
    (mk : PySem.W.makesIn K C = true)
    (kc : PySem.W.keepIn K (.ref C) = true)
    (nr : PySem.W.findIn K (.ref C) "rows" = some none)
    (ha : PySem.W.findIn K (.ref C) "__class__" = some (some (.builtin "object.__class__")))
    (hn : PySem.W.specialIn K (.builtin "object.__class__") "__get__" = some (some (.builtin "getset_descriptor.__get__")))
    (ht : PySem.W.takesIn K (.builtin "object.__class__") = some true)
    (hm : PySem.W.mroIn K C (.type "object") = some true)
    (own : PySem.W.kitOne K (.ref C) (.ref C) = some true)
    (kl : PySem.W.kitOne K (.type "list") (.ref C) = some false)
    (ki : PySem.W.kitOne K (.type "int") (.ref C) = some false)
    (nl : PySem.W.notFirst K C (.type "list") = true)
    (ni : PySem.W.notFirst K C (.type "int") = true)
    {nmC qC : Str} {NC : Addr} {bsC : List Value} {hdC : Bool} {snC : List Str} {subC : List Value} {abC : Bool} {colC : Option Bool} {ddC : Option Addr} {e0 e1 e2 e3 e5 : Option Value} {newC : String}
    (xC : K.lookup C = some (excClassObj nmC qC C NC bsC [.type "object"] hdC snC subC abC colC ddC e0 e1 e2 e3 e5 newC))
    (nsC : PySem.W.nsOkIn K NC = true)
    (eqC : PySem.W.nsIn K NC "__eq__" = some (some (.ref f_Region___eq__)))
    (neC : PySem.W.nsIn K NC "__ne__" = some none)
    (aB : PySem.W.nsIn K mainGlobals "BadRegion" = some (some (.ref CB)))
    (aP : PySem.W.nsIn K mainGlobals "PlaneError" = some (some (.ref CP)))
    {nmB qB : Str} {NB : Addr} {bsB bmB : List Value} {snB : List Str} {subB : List Value} {abB : Bool} {colB : Option Bool} {ddB : Option Addr} {m0 m1 m2 m3 m5 : Option Value}
    (xB : K.lookup CB = some (excClassObj nmB qB CB NB bsB bmB true snB subB abB colB ddB m0 m1 m2 m3 m5 "ValueError.__new__"))
    (rB : refsVE bmB = true)
    (saB : PySem.W.findIn K (.ref CB) "__setattr__" = some (some (.builtin "object.__setattr__")))
    (gaB : PySem.W.findIn K (.ref CB) "__getattribute__" = some (some (.builtin "BaseException.__getattribute__")))
    (ggB : PySem.W.findIn K (.ref CB) "__getattr__" = some none)
    (nB : PySem.W.findIn K (.ref CB) "number" = some none)
    (iB : PySem.W.findIn K (.ref CB) "__init__" = some (some (.ref fI)))
    (tI : PySem.W.typeIn K (.ref fI) = some (.type "function"))
    (kB : PySem.W.keepIn K (.ref CB) = true)
    (exB : PySem.W.subIn K (.ref CB) (.type "BaseException") = some true)
    (veB : PySem.W.subIn K (.ref CB) (.type "ValueError") = some true)
    (tyB : PySem.W.typeIn K (.ref CB) = some (.type "type"))
    (hdB : PySem.W.hasDictIn K CB = true)
    (sB : PySem.W.subIn K (.ref CB) (.ref CB) = some true)
    (mB : PySem.W.mroIn K CB (.ref CB) = some true)
    (moB : PySem.W.mroIn K CB (.type "object") = some true)
    (haB : PySem.W.findIn K (.ref CB) "__class__" = some (some (.builtin "object.__class__")))
    (suB : ks_superIn K CB CB "__init__" = some (some (.builtin "ValueError.__init__")))
    (xiB : excInitIn K CB Xc.veT "ValueError.__new__" = true)
    (opq : PySem.W.nsIn K cStatics "thirdparty.any" = some none)
    (nos : PySem.W.nsIn K mainGlobals "super" = some none)
    {clB : Value} {cldB : Option Addr} {cslB : Array (Option Value)}
    (ceB : K.lookup cc = some ⟨clB, cldB, .cell (some (.ref CB)), cslB⟩)
    {cclB : Value} {cddB : Option Addr} {vsB : Array Value} {ccsB : Array (Option Value)} {fileB : Str} {tfB : Tok}
    (coB : K.lookup cda = some ⟨cclB, cddB, .fields vsB, ccsB⟩)
    (vsB2 : vsB[2]? = some (.str fileB tfB))
    (fiB : ((l.prog.main.file : Str) == fileB) = true)
    {qualB txtB : Str} {nkB : Nat} {ocB : Value} {odB : Option Addr} {docB pmB : Value} {anB : Option Addr} {ctB : Value} {oslB : Array (Option Value)} {w1 w2 w3 w4 w5 w6 w7 w8 w9 u1 u2 u3 : Pos}
    (fnB : K.lookup fI = some ⟨ocB, odB, .func (ksFn "__init__" qualB (Xc.prm "number" w1 w2) (Xc.bdy "number" txtB nkB w3 w4 w5 w6 w7 w8 w9 u1 u2 u3) (Xc.scp "number") .none .none docB pmB anB (.ref cda) ctB cc), oslB⟩)
    (cdB : PySem.W.codeIn K (.ref cda) qualB = true)
    (rwB : (w5.endLine == w7.line) = true)
    (topB : (l.prog.main.scope.names.lookup ("super" : Str)).isSome = false)
    (kP : PySem.W.kitOne K (.ref CB) (.ref CP) = some true)
    (kV : PySem.W.kitOne K (.ref CB) (.type "ValueError") = some true)
    (z_len : PySem.W.nsIn K mainGlobals "len" = some none)
    (z_range : PySem.W.nsIn K mainGlobals "range" = some none)
    (z_int : PySem.W.nsIn K mainGlobals "int" = some none)
    (z_bool : PySem.W.nsIn K mainGlobals "bool" = some none)
    (z_isinstance : PySem.W.nsIn K mainGlobals "isinstance" = some none)
    (z_tuple : PySem.W.nsIn K mainGlobals "tuple" = some none)
    (z_list : PySem.W.nsIn K mainGlobals "list" = some none)
    (z_enumerate : PySem.W.nsIn K mainGlobals "enumerate" = some none)
    (z_all : PySem.W.nsIn K mainGlobals "all" = some none)
    (z_ValueError : PySem.W.nsIn K mainGlobals "ValueError" = some none)
    : ∃ fd : FuncData, (∀ (s : Shared) (v : Value), BindsTo s fd ⟨[v], []⟩ [("script", v)]) ∧ ∀ base : Heap, K.In base → base.Ns mainGlobals mg → FnOk l.prog w K mg base CX0 12 fa fd ["script"] (spLaw K) := by
  have e := hfa.symm.trans (PySem.W.mg_of X G a_law)
  cases e
  have F_is_number := fun_mk (st := s_is_number) l_is_number c_is_number k_is_number
  have b_is_number := F_is_number.binds (ps := ["value"]) fun _ _ _ _ _ _ us hl => match us, hl with | [_], _ => rfl
  have g_is_number := PySem.W.mg_of X G a_is_number
  have F_is_line_row := fun_mk (st := s_is_line_row) l_is_line_row c_is_line_row k_is_line_row
  have b_is_line_row := F_is_line_row.binds (ps := ["row"]) fun _ _ _ _ _ _ us hl => match us, hl with | [_], _ => rfl
  have g_is_line_row := PySem.W.mg_of X G a_is_line_row
  have F_line_rows := fun_mk (st := s_line_rows) l_line_rows c_line_rows k_line_rows
  have b_line_rows := F_line_rows.binds (ps := ["rows"]) fun _ _ _ _ _ _ us hl => match us, hl with | [_], _ => rfl
  have g_line_rows := PySem.W.mg_of X G a_line_rows
  have F__law_number := fun_mk (st := s__law_number) l__law_number c__law_number k__law_number
  have b__law_number := F__law_number.binds (ps := ["script", "index"]) fun _ _ _ _ _ _ us hl => match us, hl with | [_, _], _ => rfl
  have g__law_number := PySem.W.mg_of X G a__law_number
  have F__law_take := fun_mk (st := s__law_take) l__law_take c__law_take k__law_take
  have b__law_take := F__law_take.binds (ps := ["draw", "many"]) fun _ _ _ _ _ _ us hl => match us, hl with | [_, _], _ => rfl
  have g__law_take := PySem.W.mg_of X G a__law_take
  have F__law_pick := fun_mk (st := s__law_pick) l__law_pick c__law_pick k__law_pick
  have b__law_pick := F__law_pick.binds (ps := ["draw", "items"]) fun _ _ _ _ _ _ us hl => match us, hl with | [_, _], _ => rfl
  have g__law_pick := PySem.W.mg_of X G a__law_pick
  have F__law_long := fun_mk (st := s__law_long) l__law_long c__law_long k__law_long
  have b__law_long := F__law_long.binds (ps := ["draw", "figures"]) fun _ _ _ _ _ _ us hl => match us, hl with | [_, _], _ => rfl
  have g__law_long := PySem.W.mg_of X G a__law_long
  have F__law_turned := fun_mk (st := s__law_turned) l__law_turned c__law_turned k__law_turned
  have b__law_turned := F__law_turned.binds (ps := ["row", "turn"]) fun _ _ _ _ _ _ us hl => match us, hl with | [_, _], _ => rfl
  have g__law_turned := PySem.W.mg_of X G a__law_turned
  have F__law_turn := fun_mk (st := s__law_turn) l__law_turn c__law_turn k__law_turn
  have b__law_turn := F__law_turn.binds (ps := ["draw"]) fun _ _ _ _ _ _ us hl => match us, hl with | [_], _ => rfl
  have g__law_turn := PySem.W.mg_of X G a__law_turn
  have F__law_small_rows := fun_mk (st := s__law_small_rows) l__law_small_rows c__law_small_rows k__law_small_rows
  have b__law_small_rows := F__law_small_rows.binds (ps := ["draw"]) fun _ _ _ _ _ _ us hl => match us, hl with | [_], _ => rfl
  have g__law_small_rows := PySem.W.mg_of X G a__law_small_rows
  have F__law_band_rows := fun_mk (st := s__law_band_rows) l__law_band_rows c__law_band_rows k__law_band_rows
  have b__law_band_rows := F__law_band_rows.binds (ps := ["draw"]) fun _ _ _ _ _ _ us hl => match us, hl with | [_], _ => rfl
  have g__law_band_rows := PySem.W.mg_of X G a__law_band_rows
  have F__law_cell_rows := fun_mk (st := s__law_cell_rows) l__law_cell_rows c__law_cell_rows k__law_cell_rows
  have b__law_cell_rows := F__law_cell_rows.binds (ps := ["draw"]) fun _ _ _ _ _ _ us hl => match us, hl with | [_], _ => rfl
  have g__law_cell_rows := PySem.W.mg_of X G a__law_cell_rows
  have F__law_line_rows := fun_mk (st := s__law_line_rows) l__law_line_rows c__law_line_rows k__law_line_rows
  have b__law_line_rows := F__law_line_rows.binds (ps := ["draw"]) fun _ _ _ _ _ _ us hl => match us, hl with | [_], _ => rfl
  have g__law_line_rows := PySem.W.mg_of X G a__law_line_rows
  have F__law_long_rows := fun_mk (st := s__law_long_rows) l__law_long_rows c__law_long_rows k__law_long_rows
  have b__law_long_rows := F__law_long_rows.binds (ps := ["draw"]) fun _ _ _ _ _ _ us hl => match us, hl with | [_], _ => rfl
  have g__law_long_rows := PySem.W.mg_of X G a__law_long_rows
  have F__law_rows := fun_mk (st := s__law_rows) l__law_rows c__law_rows k__law_rows
  have b__law_rows := F__law_rows.binds (ps := ["draw"]) fun _ _ _ _ _ _ us hl => match us, hl with | [_], _ => rfl
  have g__law_rows := PySem.W.mg_of X G a__law_rows
  have F__law_refused := fun_mk (st := s__law_refused) l__law_refused c__law_refused k__law_refused
  have b__law_refused := F__law_refused.binds (ps := ["rows"]) fun _ _ _ _ _ _ us hl => match us, hl with | [_], _ => rfl
  have g__law_refused := PySem.W.mg_of X G a__law_refused
  have F_law := fun_mk (st := s_law) l_law c_law k_law
  have F_Region___init__ := fun_mk (st := s_Region___init__) l_Region___init__ c_Region___init__ k_Region___init__
  have b_Region___init__ := F_Region___init__.binds (ps := ["self", "rows"]) fun _ _ _ _ _ _ us hl => match us, hl with | [_, _], _ => rfl
  have F_Region___eq__ := fun_mk (st := s_Region___eq__) l_Region___eq__ c_Region___eq__ k_Region___eq__
  have b_Region___eq__ := F_Region___eq__.binds (ps := ["self", "other"]) fun _ _ _ _ _ _ us hl => match us, hl with | [_, _], _ => rfl
  have F_Region_has := fun_mk (st := s_Region_has) l_Region_has c_Region_has k_Region_has
  have b_Region_has := F_Region_has.binds (ps := ["self", "x", "y"]) fun _ _ _ _ _ _ us hl => match us, hl with | [_, _, _], _ => rfl
  have F_Region_with_rows := fun_mk (st := s_Region_with_rows) l_Region_with_rows c_Region_with_rows k_Region_with_rows
  have b_Region_with_rows := F_Region_with_rows.binds (ps := ["self", "rows"]) fun _ _ _ _ _ _ us hl => match us, hl with | [_, _], _ => rfl
  have T : Nm mg := { len := PySem.W.mg_none_of X G z_len, range := PySem.W.mg_none_of X G z_range, int := PySem.W.mg_none_of X G z_int, bool := PySem.W.mg_none_of X G z_bool, isinstance := PySem.W.mg_none_of X G z_isinstance, tuple := PySem.W.mg_none_of X G z_tuple, list := PySem.W.mg_none_of X G z_list, enumerate := PySem.W.mg_none_of X G z_enumerate, all := PySem.W.mg_none_of X G z_all, valueError := PySem.W.mg_none_of X G z_ValueError }
  have cl : Cls K C := ⟨pg, hd, po, sa⟩
  have R : RegC K mg C := ⟨PySem.W.mg_of X G aC, cl, nr, ha, hn, ht, hm, own, kl, ki⟩
  have B : Xc.Own l.prog K mg "BadRegion" "number" CB fI cda cc :=
    { gC := PySem.W.mg_of X G aB, cls := ⟨_, _, _, _, _, _, _, _, _, _, _, _, _, _, _, xB, rB⟩, sa := saB, ga := gaB, gg := ggB, noN := nB, iC := iB, tC := tI, kC := kB, exC := exB, veC := veB, tyC := tyB, hdC := hdB, te := PySem.W.exm_ref exB hdB tyB sB, mro := mB, sup := suB, xin := xiB, opq := opq, nos := nos,
      cell := ⟨_, _, _, ceB⟩, code := ⟨_, _, _, _, _, _, coB, vsB2, fiB⟩, fn := ⟨_, _, _, _, _, _, _, _, _, _, _, _, _, _, _, _, _, _, _, _, _, _, fnB, cdB, rwB⟩, top := topB }
  have EC : ExcC K CB := ⟨gaB, ggB, exB, hdB, haB, hn, ht, moB⟩
  refine ⟨PySem.W.fnOf "law" "law" (defArgs s_law) (defBody s_law) (defScope s_law) .none kV_law dc_law pm_law an_law cd_law ct_law, fun s v => .of_eq rfl, fun base _ _ => ?_⟩
  have C_is_number : Has l.prog w K mg base "is_number" 1 ["value"] spIsNum _ _ := ⟨ok_is_number T F_is_number, g_is_number, F_is_number.kp, b_is_number⟩
  have C_is_line_row : Has l.prog w K mg base "is_line_row" 2 ["row"] (spLine K) _ _ := ⟨ok_is_line_row T C_is_number F_is_line_row, g_is_line_row, F_is_line_row.kp, b_is_line_row⟩
  have C_line_rows : HasX l.prog w K mg base "line_rows" 4 ["rows"] (spLineRows K CB) _ _ := ⟨ok_line_rows T B C_is_line_row F_line_rows, g_line_rows, F_line_rows.kp, b_line_rows⟩
  have C_Region : MkX l.prog w K mg base "Region" 5 ["self", "rows"] (spInitR K C CB) C _ _ := ⟨⟨mk, a_Region___init__, i_Region___init__, kc⟩, ok_init R C_line_rows F_Region___init__, PySem.W.mg_of X G aC, b_Region___init__⟩
  have Q1 : EqX l.prog w K mg base C _ _ := ⟨⟨a_Region___eq__, i_Region___eq__, ⟨_, _, _, _, _, _, _, _, _, _, _, _, _, _, _, _, xC, nsC, eqC, neC⟩⟩, ok_eq T R F_Region___eq__, b_Region___eq__, nl, ni⟩
  have C_Region_has : MethX l.prog w K mg base C "has" 1 ["self", "x", "y"] (spHas K C) _ _ := ⟨cl, ⟨a_Region_has, i_Region_has, k_Region_has⟩, ok_has R F_Region_has, b_Region_has⟩
  have C_Region_with_rows : MethX l.prog w K mg base C "with_rows" 7 ["self", "rows"] (spWith K C) _ _ := ⟨cl, ⟨a_Region_with_rows, i_Region_with_rows, k_Region_with_rows⟩, ok_with R C_Region C_line_rows F_Region_with_rows, b_Region_with_rows⟩
  have C__law_refused : Has l.prog w K mg base "_law_refused" 8 ["rows"] (spRefused K) _ _ := ⟨ok_refused T B EC (PySem.W.mg_of X G aP) kP kV C_Region F__law_refused, g__law_refused, F__law_refused.kp, b__law_refused⟩
  have C__law_number : Has l.prog w K mg base "_law_number" 1 ["script", "index"] (spNumber K) _ _ := ⟨ok__law_number T F__law_number, g__law_number, F__law_number.kp, b__law_number⟩
  have C__law_take : Has l.prog w K mg base "_law_take" 2 ["draw", "many"] (spTake K) _ _ := ⟨ok__law_take T C__law_number F__law_take, g__law_take, F__law_take.kp, b__law_take⟩
  have C__law_pick : Has l.prog w K mg base "_law_pick" 3 ["draw", "items"] (spPick K) _ _ := ⟨ok__law_pick T C__law_take F__law_pick, g__law_pick, F__law_pick.kp, b__law_pick⟩
  have C__law_long : Has l.prog w K mg base "_law_long" 3 ["draw", "figures"] (spLong K) _ _ := ⟨ok__law_long T C__law_take F__law_long, g__law_long, F__law_long.kp, b__law_long⟩
  have C__law_turned : Has l.prog w K mg base "_law_turned" 1 ["row", "turn"] (spTurned K) _ _ := ⟨ok__law_turned T F__law_turned, g__law_turned, F__law_turned.kp, b__law_turned⟩
  have C__law_turn : Has l.prog w K mg base "_law_turn" 3 ["draw"] (spTurn K) _ _ := ⟨ok__law_turn T C__law_take F__law_turn, g__law_turn, F__law_turn.kp, b__law_turn⟩
  have C__law_small_rows : Has l.prog w K mg base "_law_small_rows" 3 ["draw"] (spRows K BndS 6) _ _ := ⟨ok__law_small_rows T C__law_take F__law_small_rows, g__law_small_rows, F__law_small_rows.kp, b__law_small_rows⟩
  have C__law_band_rows : Has l.prog w K mg base "_law_band_rows" 3 ["draw"] (spRows K BndS 6) _ _ := ⟨ok__law_band_rows T C__law_take F__law_band_rows, g__law_band_rows, F__law_band_rows.kp, b__law_band_rows⟩
  have C__law_cell_rows : Has l.prog w K mg base "_law_cell_rows" 4 ["draw"] (spRows K BndS 6) _ _ := ⟨ok__law_cell_rows T C__law_take C__law_pick F__law_cell_rows, g__law_cell_rows, F__law_cell_rows.kp, b__law_cell_rows⟩
  have C__law_line_rows : Has l.prog w K mg base "_law_line_rows" 3 ["draw"] (spRows K BndS 6) _ _ := ⟨ok__law_line_rows T C__law_take F__law_line_rows, g__law_line_rows, F__law_line_rows.kp, b__law_line_rows⟩
  have C__law_long_rows : Has l.prog w K mg base "_law_long_rows" 4 ["draw"] (spRows K Bnd 6) _ _ := ⟨ok__law_long_rows T C__law_take C__law_long F__law_long_rows, g__law_long_rows, F__law_long_rows.kp, b__law_long_rows⟩
  have C__law_rows : Has l.prog w K mg base "_law_rows" 5 ["draw"] (spRows K Bnd 24) _ _ := ⟨ok__law_rows T C__law_take C__law_small_rows C__law_long_rows C__law_line_rows C__law_band_rows C__law_cell_rows C__law_turn C__law_turned F__law_rows, g__law_rows, F__law_rows.kp, b__law_rows⟩
  exact ok_law T R C__law_take C__law_pick C__law_long C__law_rows C_Region Q1 C_Region_has C_Region_with_rows C__law_refused F_law
end K01
open PySem PySem.W PyProof.Rows
set_option maxHeartbeats 0 in
theorem PySem.Challenge.cw_pointorstrip_k01_regions_holds : PySem.Challenge.rw_pointorstrip_k01_regions.Holds := by
  w_on; o_law; k_head; (case hw => w_witness2)
  k_fill
  refine L2.walk_of (l := PySem.Challenge.rw_pointorstrip_k01_regions) (n := 63) (k := 12) (x := "script") (CX := fun _ => L2.CX0) (sp := fun w => K01.spLaw _) rfl (by decide) rfl ⟨rfl, by decide, by decide⟩ (fun w h Y => PySem.W.kIn_of Y) ?F (fun _ _ a ns hl _ hS => ⟨a, ns, rfl, hS, hl, fun _ => rfl⟩) (fun _ _ _ _ _ h => h)
  case F =>
    intro w mg fa h KX G hmg
    refine' K01.all_mk KX G hmg ?a_is_number ?l_is_number ?c_is_number ?k_is_number ?a_is_line_row ?l_is_line_row ?c_is_line_row ?k_is_line_row ?a_line_rows ?l_line_rows ?c_line_rows ?k_line_rows ?a__law_number ?l__law_number ?c__law_number ?k__law_number ?a__law_take ?l__law_take ?c__law_take ?k__law_take ?a__law_pick ?l__law_pick ?c__law_pick ?k__law_pick ?a__law_long ?l__law_long ?c__law_long ?k__law_long ?a__law_turned ?l__law_turned ?c__law_turned ?k__law_turned ?a__law_turn ?l__law_turn ?c__law_turn ?k__law_turn ?a__law_small_rows ?l__law_small_rows ?c__law_small_rows ?k__law_small_rows ?a__law_band_rows ?l__law_band_rows ?c__law_band_rows ?k__law_band_rows ?a__law_cell_rows ?l__law_cell_rows ?c__law_cell_rows ?k__law_cell_rows ?a__law_line_rows ?l__law_line_rows ?c__law_line_rows ?k__law_line_rows ?a__law_long_rows ?l__law_long_rows ?c__law_long_rows ?k__law_long_rows ?a__law_rows ?l__law_rows ?c__law_rows ?k__law_rows ?a__law_refused ?l__law_refused ?c__law_refused ?k__law_refused ?a_law ?l_law ?c_law ?k_law ?aC ?a_Region___init__ ?i_Region___init__ ?l_Region___init__ ?c_Region___init__ ?k_Region___init__ ?a_Region___eq__ ?i_Region___eq__ ?l_Region___eq__ ?c_Region___eq__ ?k_Region___eq__ ?a_Region_has ?i_Region_has ?l_Region_has ?c_Region_has ?k_Region_has ?a_Region_with_rows ?i_Region_with_rows ?l_Region_with_rows ?c_Region_with_rows ?k_Region_with_rows ?pg ?hd ?po ?sa ?mk ?kc ?nr ?ha ?hn ?ht ?hm ?own ?kl ?ki ?nl ?ni ?xC ?nsC ?eqC ?neC ?aB ?aP ?xB ?rB ?saB ?gaB ?ggB ?nB ?iB ?tI ?kB ?exB ?veB ?tyB ?hdB ?sB ?mB ?moB ?haB ?suB ?xiB ?opq ?nos ?ceB ?coB ?vsB2 ?fiB ?fnB ?cdB ?rwB ?topB ?kP ?kV ?z_len ?z_range ?z_int ?z_bool ?z_isinstance ?z_tuple ?z_list ?z_enumerate ?z_all ?z_ValueError
    (case a_is_number => k_is)
    (case l_is_number => k_is)
    (case c_is_number => k_is)
    (case k_is_number => k_is)
    (case a_is_line_row => k_is)
    (case l_is_line_row => k_is)
    (case c_is_line_row => k_is)
    (case k_is_line_row => k_is)
    (case a_line_rows => k_is)
    (case l_line_rows => k_is)
    (case c_line_rows => k_is)
    (case k_line_rows => k_is)
    (case a__law_number => k_is)
    (case l__law_number => k_is)
    (case c__law_number => k_is)
    (case k__law_number => k_is)
    (case a__law_take => k_is)
    (case l__law_take => k_is)
    (case c__law_take => k_is)
    (case k__law_take => k_is)
    (case a__law_pick => k_is)
    (case l__law_pick => k_is)
    (case c__law_pick => k_is)
    (case k__law_pick => k_is)
    (case a__law_long => k_is)
    (case l__law_long => k_is)
    (case c__law_long => k_is)
    (case k__law_long => k_is)
    (case a__law_turned => k_is)
    (case l__law_turned => k_is)
    (case c__law_turned => k_is)
    (case k__law_turned => k_is)
    (case a__law_turn => k_is)
    (case l__law_turn => k_is)
    (case c__law_turn => k_is)
    (case k__law_turn => k_is)
    (case a__law_small_rows => k_is)
    (case l__law_small_rows => k_is)
    (case c__law_small_rows => k_is)
    (case k__law_small_rows => k_is)
    (case a__law_band_rows => k_is)
    (case l__law_band_rows => k_is)
    (case c__law_band_rows => k_is)
    (case k__law_band_rows => k_is)
    (case a__law_cell_rows => k_is)
    (case l__law_cell_rows => k_is)
    (case c__law_cell_rows => k_is)
    (case k__law_cell_rows => k_is)
    (case a__law_line_rows => k_is)
    (case l__law_line_rows => k_is)
    (case c__law_line_rows => k_is)
    (case k__law_line_rows => k_is)
    (case a__law_long_rows => k_is)
    (case l__law_long_rows => k_is)
    (case c__law_long_rows => k_is)
    (case k__law_long_rows => k_is)
    (case a__law_rows => k_is)
    (case l__law_rows => k_is)
    (case c__law_rows => k_is)
    (case k__law_rows => k_is)
    (case a__law_refused => k_is)
    (case l__law_refused => k_is)
    (case c__law_refused => k_is)
    (case k__law_refused => k_is)
    (case a_law => k_is)
    (case l_law => k_is)
    (case c_law => k_is)
    (case k_law => k_is)
    (case aC => k_is)
    (case a_Region___init__ => k_is)
    (case i_Region___init__ => k_is)
    (case l_Region___init__ => k_is)
    (case c_Region___init__ => k_is)
    (case k_Region___init__ => k_is)
    (case a_Region___eq__ => k_is)
    (case i_Region___eq__ => k_is)
    (case l_Region___eq__ => k_is)
    (case c_Region___eq__ => k_is)
    (case k_Region___eq__ => k_is)
    (case a_Region_has => k_is)
    (case i_Region_has => k_is)
    (case l_Region_has => k_is)
    (case c_Region_has => k_is)
    (case k_Region_has => k_is)
    (case a_Region_with_rows => k_is)
    (case i_Region_with_rows => k_is)
    (case l_Region_with_rows => k_is)
    (case c_Region_with_rows => k_is)
    (case k_Region_with_rows => k_is)
    (case pg => k_is)
    (case hd => k_is)
    (case po => k_is)
    (case sa => k_is)
    (case mk => k_is)
    (case kc => k_is)
    (case nr => k_is)
    (case ha => k_is)
    (case hn => k_is)
    (case ht => k_is)
    (case hm => k_is)
    (case own => kernel_rfl)
    (case kl => kernel_rfl)
    (case ki => kernel_rfl)
    (case nl => k_is)
    (case ni => k_is)
    (case xC => k_is)
    (case nsC => kernel_rfl)
    (case eqC => k_is)
    (case neC => k_is)
    (case aB => k_is)
    (case aP => k_is)
    (case xB => k_is)
    (case rB => first | rfl | decide +kernel)
    (case saB => k_is)
    (case gaB => k_is)
    (case ggB => k_is)
    (case nB => k_is)
    (case iB => k_is)
    (case fnB => k_is)
    (case cdB => k_is)
    (case ceB => k_is)
    (case coB => k_is)
    (case vsB2 => first | rfl | k_is)
    (case fiB => first | rfl | decide +kernel)
    (case tI => k_is)
    (case kB => k_is)
    (case exB => k_is)
    (case veB => k_is)
    (case tyB => k_is)
    (case hdB => k_is)
    (case sB => first | rfl | k_is)
    (case mB => k_is)
    (case moB => k_is)
    (case haB => k_is)
    (case suB => ks_is)
    (case xiB => kernel_rfl)
    (case opq => k_is)
    (case nos => k_is)
    (case rwB => first | rfl | decide)
    (case topB => first | rfl | decide +kernel)
    (case kP => kernel_rfl)
    (case kV => kernel_rfl)
    (case z_len => k_is)
    (case z_range => k_is)
    (case z_int => k_is)
    (case z_bool => k_is)
    (case z_isinstance => k_is)
    (case z_tuple => k_is)
    (case z_list => k_is)
    (case z_enumerate => k_is)
    (case z_all => k_is)
    (case z_ValueError => k_is)
