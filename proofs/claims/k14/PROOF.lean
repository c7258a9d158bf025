import PyProof.Rows.All
import Wide.All
import OpenK.AllK
import Wide.FinOn
import PySem.Challenge.RW_pointorstrip_k14_whole_stairs
import HandS.ForMost
import HandS.ForExc
import HandS.Wide
import HandS.IsInst
import HandS.Style
import HandS.ExcField
import HandS.ExcIs
import HandS.OwnEq
import KE.KExcSuper
import KE.GoesMore
import KE.KExcIs
import HandS.ListEq
import HandS.DeepEq
import HandS.TupAny
import HandS.AnyAll
import HandS.Walk
import HandS.Flow
import HandS.Records
import HandS.Lambda
import HandS.EndTab
import HandS.EndOwn
set_option Elab.async false
set_option linter.all false
set_option maxRecDepth 100000
set_option maxHeartbeats 0
/-! ### rules and heaps of our own -/
namespace My
open PySem PySem.Spec PyProof.Rows L2
theorem asm {p : Prop} (h : p) : p := h
/-- what the operators ask, closed up so that nothing unfolds it -/
structure OkMul (i j : Int) : Prop where
  ok : IntMulOk i j
structure OkDiv (i j : Int) : Prop where
  ok : CDivW i j
structure OkMod (i j : Int) : Prop where
  ok : 0 < j
theorem op_mulA {X : Cx} : OpR X (binaryOp .Mult) (rI OkMul fun i j => .int (i * j)) := opI fun _ _ _ _ _ _ _ hc q => mul_int q hc.ok
theorem op_fdivA {X : Cx} : OpR X (binaryOp .FloorDiv) (rI OkDiv fun i j => .int (i / j)) := opI fun i j _ _ _ _ _ hc q => by
  have h1 : (0 : Int) < j := hc.ok.1
  exact floordiv_int (by omega) (by rw [Int.fdiv_eq_ediv_of_nonneg i (by omega)]; exact q) (.inl (PyProof.noPylong_of_log2 hc.ok.2))
theorem op_modA {X : Cx} : OpR X (binaryOp .Mod) (rI OkMod fun i j => .int (i % j)) := opI fun i j _ _ _ _ _ hc q => by
  have h1 : (0 : Int) < j := hc.ok
  exact mod_int' (by omega) (by rw [Int.fmod_eq_emod_of_nonneg i (by omega)]; exact q)
theorem pget_list {X : Cx} : PGet X (rIxL X.K) := by
  intro pins s σ H x y v u Q I rx ry h
  obtain ⟨p, xs, i, z, rfl, rfl, hq, he, q⟩ := h
  cases rx
  obtain ⟨t, rfl⟩ := ry
  obtain ⟨its, r, pl, hz⟩ := I.list hq
  obtain ⟨j, h1, h2, h3, h4, h5⟩ := atI_get he
  obtain ⟨w, ew, rw'⟩ := r.get h2
  have hl := r.length
  have hn := line63
  have fin : EP X pins σ Q w s := ⟨z, H, I, rw', q⟩
  by_cases h0 : 0 ≤ i
  · have hj : i.toNat = j := by
      rw [seqIndex_of h0 h5] at h1
      exact Option.some.inj h1
    exact wpAny_getItem_list pl.isList h0 (by omega) (by rw [hj]; simpa using ew) fin
  · have hj : (i + (its.toArray.size : Int)).toNat = j := by
      rw [seqIndex_neg (by omega) h4] at h1
      rw [List.size_toArray, ← hl]
      exact Option.some.inj h1
    exact wpAny_getItem_list_neg pl.isList (by omega) (by rw [List.size_toArray] <;> omega) (by omega) (by rw [hj]; simpa using ew) fin
theorem same_upd {H : Hp} {p : Addr} {o : HO} (h : H p = none) : Same H (upd H p o) := fun b x e => by
  rw [upd_ne (ne_of_none e h)]
  exact e
/-- all but one object as it was -/
def Keep (d : Addr) (H H' : Hp) : Prop := ∀ b o, b ≠ d → H b = some o → H' b = some o
theorem Keep.refl (d : Addr) (H : Hp) : Keep d H H := fun _ _ _ h => h
theorem Keep.trans {d : Addr} {H H1 H2 : Hp} (a : Keep d H H1) (b : Keep d H1 H2) : Keep d H H2 := fun c o n h => b c o n (a c o n h)
theorem Keep.of {d : Addr} {H H1 : Hp} (a : Same H H1) : Keep d H H1 := fun c o _ h => a c o h
theorem Keep.upd (d : Addr) (H : Hp) (o : HO) : Keep d H (upd H d o) := fun b x n e => by
  rw [upd_ne n]
  exact e
theorem Keep.seq {K : PySem.W.Frag} {d : Addr} {H H' : Hp} {a : Addr} {xs : List V} (e : Keep d H H') (n : a ≠ d) (h : SqL K H a xs) : SqL K H' a xs := by
  rcases h with (h | ⟨o, h⟩) | h
  · exact .inl (.inl (e _ _ n h))
  · exact .inl (.inr ⟨o, e _ _ n h⟩)
  · exact .inr h
theorem Keep.tup {K : PySem.W.Frag} {d : Addr} {H H' : Hp} {a : Addr} {xs : List V} (e : Keep d H H') (n : a ≠ d) (h : SqT K H a xs) : SqT K H' a xs := by
  rcases h with (h | ⟨o, h⟩) | h
  · exact .inl (.inl (e _ _ n h))
  · exact .inl (.inr ⟨o, e _ _ n h⟩)
  · exact .inr h
theorem Same.tup {K : PySem.W.Frag} {H H' : Hp} {a : Addr} {xs : List V} (e : Same H H') (h : SqT K H a xs) : SqT K H' a xs := by
  rcases h with (h | ⟨o, h⟩) | h
  · exact .inl (.inl (e _ _ h))
  · exact .inl (.inr ⟨o, e _ _ h⟩)
  · exact .inr h
theorem Keep.seqS {K : PySem.W.Frag} {d s : Addr} {H H' : Hp} {r : List V} {ns : List Int} (e : Keep d H H') (hd : H d = some (.lst (.ref s :: r))) (h : SqL K H s (ns.map V.int)) : SqL K H' s (ns.map V.int) := by
  rcases h with (h | ⟨o, h⟩) | h
  · refine .inl (.inl (e _ _ ?_ h))
    rintro rfl
    rw [hd] at h
    cases ns with
    | nil => cases h
    | cons n ns => cases h
  · refine .inl (.inr ⟨o, e _ _ ?_ h⟩)
    rintro rfl
    rw [hd] at h
    cases h
  · exact .inr h
/-- the list that draws: the script, how many were drawn -/
def DrawAt (K : PySem.W.Frag) (H : Hp) (d s : Addr) (ns : List Int) : Prop := ∃ k : Int, H d = some (.lst [.ref s, .int k]) ∧ SqL K H s (ns.map V.int) ∧ ns.length ≤ 63
theorem DrawAt.same {K : PySem.W.Frag} {H H' : Hp} {d s : Addr} {ns : List Int} (e : Same H H') (h : DrawAt K H d s ns) : DrawAt K H' d s ns := by
  obtain ⟨k, h1, h3, h4⟩ := h
  exact ⟨k, e _ _ h1, e.seq h3, h4⟩
theorem DrawAt.set {K : PySem.W.Frag} {H : Hp} {d s : Addr} {ns : List Int} {k : Int} (h : DrawAt K H d s ns) : DrawAt K (upd H d (.lst [.ref s, .int k])) d s ns := by
  obtain ⟨k0, h1, h3, h4⟩ := h
  exact ⟨k, upd_same, (Keep.upd d H _).seqS h1 h3, h4⟩
theorem mulOk {i j : Int} {a b : Nat} (ha : i.natAbs < 2 ^ a) (hb : j.natAbs < 2 ^ b) (h0 : 0 < a) (h1 : 0 < b) (h : a + b ≤ 1000000) : OkMul i j := ⟨(wide_mul ha hb h0 h1 h).ok⟩
theorem mulOkL {i j : Int} (h1 : -(2 ^ 64) < i) (h2 : i < 2 ^ 64) : OkMul i j := ⟨CMul.ok (.inl ⟨h1, h2⟩)⟩
theorem mulOkR {i j : Int} (h1 : -(2 ^ 64) < j) (h2 : j < 2 ^ 64) : OkMul i j := ⟨CMul.ok (.inr ⟨h1, h2⟩)⟩
theorem divOk {i j : Int} (h : 0 < j) (hb : j < 2 ^ 64) : OkDiv i j := ⟨wide_div (b := 64) h (by omega) (by decide) (by decide)⟩
theorem call_absN {X : Cx} : CallR X (.builtin "abs") (fun xs H Q => ∃ i : Int, xs = [.int i] ∧ Q (.int (i.natAbs : Int)) H) := fun pins s σ H xs us Q I r ⟨i, e, q⟩ => call_abs pins s σ H xs us Q I r ⟨i, e, by
  have h : (if i < 0 then -i else i) = (i.natAbs : Int) := by split <;> omega
  rw [h]
  exact q⟩
theorem call_minN {X : Cx} (hc : X.calm = true) : CallR X (.builtin "min") (fun xs H Q => ∃ i j : Int, xs = [.int i, .int j] ∧ Q (.int (min i j)) H) := fun pins s σ H xs us Q I r ⟨i, j, e, q⟩ => call_min2 hc pins s σ H xs us Q I r ⟨i, j, e, by
  have h : (if j < i then j else i) = min i j := by split <;> omega
  rw [h]
  exact q⟩
/-- the ways of a conditional expression joined -/
theorem tIf_via {t : TT} {ta tb : TE} {σ : L2.St} {H : Hp} {Q : VK} (R : V → Hp → Prop) (h : ∀ Q' : VK, (∀ v H', R v H' → Q' v H') → tIf t ta tb σ H Q') (k : ∀ v H', R v H' → Q v H') : tIf t ta tb σ H Q := h Q k
/-- name = a if t else b, more -/
theorem sIf_via {t : TT} {ta tb : TE} {g : TG} {u : TS} {D : Ends} {σ : L2.St} {H : Hp} (R : V → Hp → Prop) (h : ∀ Q' : VK, (∀ v H', R v H' → Q' v H') → tIf t ta tb σ H Q') (k : ∀ v H', R v H' → g v σ H' fun σ' H'' => u D σ' H'') : tSeq (tAsg (tIf t ta tb) g) u D σ H := h _ k
theorem call_intI {X : Cx} : CallR X (.type "int") (fun xs H Q => ∃ i, xs = [.int i] ∧ Q (.int i) H) := fun pins s σ H xs us Q I r h => call_int1 pins s σ H xs us Q I r (.inl h)
theorem call_lenL {X : Cx} : CallR X (.builtin "len") (fun xs H Q => ∃ p ys, xs = [.ref p] ∧ SqL X.K H p ys ∧ Q (.int ys.length) H) := fun pins s σ H xs us Q I r ⟨p, ys, e, h, q⟩ => call_len_seq pins s σ H xs us Q I r ⟨p, ys, e, .inl h, q⟩
theorem pe_ty {X : Cx} {x : Str} {n : String} {pos : Pos} (hg : Gl X x) (hm : X.mg x = none) (hv : bootBuiltins x = some (.type n)) (hn : x ≠ Str.ofString "__name__" := by decide) (hd : (x == Str.ofString "__debug__") = false := by decide) : PE X (.Name x pos) (tC (.ty n)) := pe_bltn hg hm hv rfl (hn := hn) (hd := hd)
section
variable {P : Program} {w : World} {K : PySem.W.Frag} {mg : Str → Option Value} {base : Heap}
/-- a def that stands at its name and keeps its promise -/
structure Has (P : Program) (w : World) (K : PySem.W.Frag) (mg : Str → Option Value) (base : Heap) (x : Str) (k : Nat) (ps : List Str) (sp : Sp) (f : Addr) (fd : FuncData) : Prop where
  G : FnOk P w K mg base CX0 k f fd ps sp
  g : mg x = some (.ref f)
  k : PySem.W.keepIn K (.ref f) = true
  b : Binds K fd ps []
/-- the def as the top left it -/
structure Def (K : PySem.W.Frag) (mg : Str → Option Value) (x : Str) (st : Stmt) (ps : List Str) (f : Addr) (fd : FuncData) : Prop where
  F : Fun K x x st f fd
  g : mg x = some (.ref f)
  b : Binds K fd ps []
theorem Def.has {x : Str} {st : Stmt} {ps : List Str} {k : Nat} {sp : Sp} {f : Addr} {fd : FuncData} (D : Def K mg x st ps f fd) (G : FnOk P w K mg base CX0 k f fd ps sp) : Has P w K mg base x k ps sp f fd := ⟨G, D.g, D.F.kp, D.b⟩
end
end My
/-! ### an own error: class X(Base) over ValueError, def __init__(self, f): super().__init__("..") and self.f = f -/
namespace Xc
open PySem PySem.W PySem.Calls PyProof.Rows PySem.HandSPX
abbrev veT : List Value := [.type "ValueError", .type "Exception", .type "BaseException", .type "object"]
/-- the two parameters -/
def prm (f : Str) (p1 p2 : Pos) : Arguments := { posonlyargs := [], args := [{ arg := "self", annotation := none, pos := p1 }, { arg := f, annotation := none, pos := p2 }], vararg := none, kwonlyargs := [], kw_defaults := [], kwarg := none, defaults := [] }
/-- the two statements -/
def bdy (f txt : Str) (k : Nat) (p0 p1 p2 p3 p4 p5 q1 q2 q3 q4 : Pos) : List Stmt :=
  [.Expr (.Call (.Attribute (.Call (.Name "super" p0) [] [] p1) "__init__" p2) [.Constant (.str txt) k p3] [] p4) p5, .Assign [.Attribute (.Name "self" q1) f q2] (.Name f q3) q4]
def scp (f : Str) : Scope := { kind := .function, names := [(PySem.Str.ofString "self", .local), (f, .local), (PySem.Str.ofString "__class__", .free), (PySem.Str.ofString "super", .globalImplicit)], isGenerator := false, isCoroutine := false, more := [] }
/-- what the written part says of the class at C, its __init__ at fI, the code's record at cda, the cell of the class at cc -/
structure Own (P : Program) (K : Frag) (mg : Str → Option Value) (n f : Str) (C fI cda cc : Addr) : Prop where
  gC : mg n = some (.ref C)
  cls : ∃ nm q N bs bm sn sub ab col dd k0 k1 k2 k3 k5, K.lookup C = some (excClassObj nm q C N bs bm true sn sub ab col dd k0 k1 k2 k3 k5 "ValueError.__new__") ∧ refsVE bm = true
  sa : findIn K (.ref C) "__setattr__" = some (some (.builtin "object.__setattr__"))
  ga : findIn K (.ref C) "__getattribute__" = some (some (.builtin "BaseException.__getattribute__"))
  gg : findIn K (.ref C) "__getattr__" = some none
  noN : findIn K (.ref C) f = some none
  iC : findIn K (.ref C) "__init__" = some (some (.ref fI))
  tC : typeIn K (.ref fI) = some (.type "function")
  kC : keepIn K (.ref C) = true
  exC : subIn K (.ref C) (.type "BaseException") = some true
  veC : subIn K (.ref C) (.type "ValueError") = some true
  tyC : typeIn K (.ref C) = some (.type "type")
  hdC : hasDictIn K C = true
  te : exmOne K (.ref C) (.ref C) = some true
  mro : mroIn K C (.ref C) = some true
  sup : ks_superIn K C C "__init__" = some (some (.builtin "ValueError.__init__"))
  xin : excInitIn K C veT "ValueError.__new__" = true
  opq : nsIn K cStatics "thirdparty.any" = some none
  nos : nsIn K mainGlobals "super" = some none
  cell : ∃ cl cld csl, K.lookup cc = some ⟨cl, cld, .cell (some (.ref C)), csl⟩
  code : ∃ ccl cdd vs ccs file tf, K.lookup cda = some ⟨ccl, cdd, .fields vs, ccs⟩ ∧ vs[2]? = some (.str file tf) ∧ ((P.main.file : Str) == file) = true
  fn : ∃ (qual txt : Str) (k : Nat) (oc : Value) (od : Option Addr) (doc pm : Value) (an : Option Addr) (ct : Value) (osl : Array (Option Value)) (a1 a2 p0 p1 p2 p3 p4 p5 q1 q2 q3 q4 : Pos),
    K.lookup fI = some ⟨oc, od, .func (ksFn "__init__" qual (prm f a1 a2) (bdy f txt k p0 p1 p2 p3 p4 p5 q1 q2 q3 q4) (scp f) .none .none doc pm an (.ref cda) ct cc), osl⟩ ∧ codeIn K (.ref cda) qual = true ∧ (p2.endLine == p4.line) = true
  top : (P.main.scope.names.lookup ("super" : Str)).isSome = false
/-- how the arguments bind, for a written name -/
def Bnd (f : Str) : Prop := ∀ (qual : Str) (a1 a2 : Pos) (body : List Stmt) (doc pm : Value) (an : Option Addr) (cdv ct : Value) (cc : Addr) (x v : Value),
  bindArgs (ksFn "__init__" qual (prm f a1 a2) body (scp f) .none .none doc pm an cdv ct cc) ⟨[x, v], []⟩ = pure ([("self", x), (f, v)] : List (Str × Value))
/-- a written name of a field -/
structure Fld (f : Str) : Prop where
  ne : (f == ("self" : Str)) = false
  bd : Bnd f
  c : (scp f).names.lookup ("__class__" : Str) = some .free
  s : (scp f).names.lookup ("super" : Str) = some .globalImplicit
  l : (scp f).names.lookup f = some .local
  db : (f == ("__debug__" : Str)) = false
theorem fld_number : Fld "number" := ⟨by decide, fun _ _ _ _ _ _ _ _ _ _ _ _ => rfl, rfl, rfl, rfl, by decide⟩
theorem fld_value : Fld "value" := ⟨by decide, fun _ _ _ _ _ _ _ _ _ _ _ _ => rfl, rfl, rfl, rfl, by decide⟩
/-- a call of a method, name and parenthesis in one row -/
theorem one_row {o : Expr} {name : Str} {apos pos : Pos} {e : Expr} {env : Env} (h : (apos.endLine == pos.line) = true) (hs : starEach [e] env = [(false, eval e env)]) :
    eval (.Call (.Attribute o name apos) [e] [] pos) env = (do
      let ov ← attributeBase o name env (eval o env)
      standAt apos.atName
      let (fn, first) ← holding [ov] (getMethod ov name (do return (← importBound o env).getD true))
      callWith pos fn first (backTo pos (starEach [e] env)) []) := by
  have hf : methodCallForm ([e].length + ([] : List Keyword).length) (backTo pos (starEach [e] env)) (backToKw pos (keywordEach [] env)) = true := by
    rw [hs]
    rfl
  have hp : ∀ few, methodCallPos few o env apos pos = pure pos := fun few => by
    unfold methodCallPos
    rw [h, Bool.or_true]
    rfl
  show (do
    let ov ← attributeBase o name env (eval o env)
    standAt apos.atName
    methodCall o name apos pos env ov ([e].length + ([] : List Keyword).length) (backTo pos (starEach [e] env)) (backToKw pos (keywordEach [] env))) = _
  unfold methodCall
  rw [hf]
  simp only [hp, pure_bind]
  rfl
/-- what __init__ leaves, against the heap ahead of the object -/
structure Left (h h' : Heap) (x C dx t1 : Addr) (f : Str) (v : Value) : Prop where
  keep : ∀ b o, h.get? b = some o → h'.get? b = some o
  obj : h'.get? x = some { cls := .ref C, dict := some dx, data := .fields #[.ref t1, .none, .none, .none, .bool false, .none] }
  dbig : h.objs.size ≤ dx
  dne : dx ≠ x
  ns : h'.Ns1 dx (fun y => if y = f then some v else none)
section
variable {prog : Program} {w : World} {A : Around} {R : Result → Shared → Prop} {K : Frag} {mg : Str → Option Value} {n f : Str} {C fI cda cc : Addr} {hp : Heap} {g : Array GenState} {dr : Drawn} {tk : Nat} {os : OsState}
theorem xc_init (T : Own prog K mg n f C fI cda cc) {v : Value} (X : K.In hp) (hlim : hp.NoLimit) (Gm : hp.Ns mainGlobals mg) (Gb : ∃ mb, hp.Ns builtinsNs mb ∧ ∀ x : Str, x ≠ "__name__" → mb x = bootBuiltins x)
    (W : Fld f) (hroom : A.depth < recursionLimit)
    (hq : ∀ h' tk' dx t1, Left hp h' (hp.objs.size + 1) C dx t1 f v → R (.ok (.ret .none)) ⟨h', g, dr, tk', os⟩) :
    codeAny (model prog w) A (.call (.ref fI) ⟨[.ref (hp.objs.size + 1), v], []⟩) R ⟨(hp.push (kdv_tup [v])).push (HandSPX.excO C hp.objs.size), g, dr, tk, os⟩ := by
  obtain ⟨qual, txt, k, oc, od, doc, pm, an, ct, osl, a1, a2, p0, p1, p2, p3, p4, p5, q1, q2, q3, q4, ho, hcd, hrow⟩ := T.fn
  obtain ⟨nm, q, N, bs, bm, sn, sub, ab, col, dd, k0, k1, k2, k3, k5, hC, hbm⟩ := T.cls
  have hcl : clsIn K C = some { name := nm, bases := bs, mro := .ref C :: bm, ns := N, qualname := q, hasDict := true, slotNames := sn, subclasses := sub, abstract := ab, collection := col, hasDel := false } := by unfold clsIn; rw [hC] <;> rfl
  have kk : ∀ b o, hp.get? b = some o → ((hp.push (kdv_tup [v])).push (HandSPX.excO C hp.objs.size)).get? b = some o := fun b o e => Heap.get?_push_of_some _ (Heap.get?_push_of_some _ e)
  have hx : ((hp.push (kdv_tup [v])).push (HandSPX.excO C hp.objs.size)).get? (hp.objs.size + 1) = some (HandSPX.excO C hp.objs.size) := by heap_get
  have ht : ((hp.push (kdv_tup [v])).push (HandSPX.excO C hp.objs.size)).get? hp.objs.size = some (kdv_tup [v]) := by heap_get
  refine ks_codeAny_call_defAt (fd := ksFn "__init__" qual (prm f a1 a2) (bdy f txt k p0 p1 p2 p3 p4 p5 q1 q2 q3 q4) (scp f) .none .none doc pm an (.ref cda) ct cc) (body := bdy f txt k p0 p1 p2 p3 p4 p5 q1 q2 q3 q4) (binds := [("self", .ref (hp.objs.size + 1)), (f, v)])
    hroom ((X.keeps kk) _ _ ho) rfl (hlim.keeps kk) (codeRec_of (X.keeps kk) hcd) rfl (BindsTo.of_eq ?bind) ?cells ?locs (fun h₁ hns hk => ?_)
  case bind => exact W.bd _ _ _ _ _ _ _ _ _ _ _ _
  case cells =>
    intro y hy
    have hy : y ∈ (scp f).names := hy
    simp only [scp, List.mem_cons, List.not_mem_nil, or_false] at hy
    rcases hy with rfl | rfl | rfl | rfl <;> (intro z; cases z)
  case locs =>
    intro y hy
    show (scp f).names.lookup y.1 = some .local
    simp only [List.mem_cons, List.not_mem_nil, or_false] at hy
    rcases hy with rfl | rfl
    · rfl
    · show List.lookup f ((PySem.Str.ofString "self", NameKind.local) :: (f, NameKind.local) :: _) = _
      rw [List.lookup_cons, W.ne, List.lookup_cons, beq_self_eq_true]
  -- the frame at L, the object and its args as what is new
  have hL : ((hp.push (kdv_tup [v])).push (HandSPX.excO C hp.objs.size)).objs.size = hp.objs.size + 1 + 1 := by rw [Heap.size_push, Heap.size_push]
  dsimp only at hns ⊢
  generalize ((hp.push (kdv_tup [v])).push (HandSPX.excO C hp.objs.size)).objs.size = L at hns hL ⊢
  have F : Fr hp L h₁ (fun y => [(("self" : Str), Value.ref (hp.objs.size + 1)), (f, v)].reverse.lookup y) := ⟨hns, fun b o e => hk b o (kk b o e), by omega⟩
  have N : News hp L h₁ [(hp.objs.size + 1, excObj C hp.objs.size none .none), (hp.objs.size, excTup [v])] := by
    intro p hp'
    rcases List.mem_cons.mp hp' with rfl | hp'
    · exact ⟨hk _ _ hx, by show hp.objs.size + 1 ≠ _; omega, Heap.get?_none_of_le (by show hp.objs.size ≤ hp.objs.size + 1; omega)⟩
    rcases List.mem_cons.mp hp' with rfl | hp'
    · exact ⟨hk _ _ ht, by show hp.objs.size ≠ _; omega, Heap.get?_none_of_le (Nat.le_refl _)⟩
    · cases hp'
  have X₁ : K.In h₁ := X.keeps F.keep
  have I : InstAt h₁ (hp.objs.size + 1) (excObj C hp.objs.size none .none) C none := ⟨(N _ List.mem_cons_self).1, rfl, rfl, trivial⟩
  have keepQ : ∀ (h' : Heap) (tk' : Nat), True := fun _ _ => trivial
  -- super()
  show PySem.wpAt (model prog w) (A.deeper (ksEnv qual (scp f) L fI (.ref cda) cc)) (.func (bdy f txt k p0 p1 p2 p3 p4 p5 q1 q2 q3 q4) (ksEnv qual (scp f) L fI (.ref cda) cc))
    (execs [.Expr (.Call (.Attribute (.Call (.Name "super" p0) [] [] p1) "__init__" p2) [.Constant (.str txt) k p3] [] p4) p5, .Assign [.Attribute (.Name "self" q1) f q2] (.Name f q3) q4] (ksEnv qual (scp f) L fI (.ref cda) cc)) _ _ _
  refine ks_wpAt_execs_cons (ks_wpAt_Expr_any (ks_wpAt_MethodCall ?_ (one_row hrow rfl)))
  obtain ⟨cl, cld, csl, hcell⟩ := T.cell
  obtain ⟨ccl, cdd, vs, ccs, file, tf, hcode, hvs, hfile⟩ := T.code
  obtain ⟨mb, hmb, hbb⟩ := Gb
  refine ks_wpAt_super_base (hks := W.s) (hkc := W.c) (hat := by decide) (hfu := rfl) (hf := X₁ _ _ ho) (hfd := rfl) (hp := rfl) (hco := rfl) (hcc := X₁ _ _ hcode) (hoc := rfl) (hvs := hvs) (hfile := hfile) (htop := T.top) ?_
  refine ks_loadName_global rfl W.s (loadGlobal_builtin (mg := mg) (mb := mb) (Gm.keepsP F.keep) (mg_none_of X Gm T.nos) (hmb.keepsP F.keep) ((hbb _ (by decide +kernel)).trans (by decide +kernel : bootBuiltins "super" = some (.type "super"))) ⟨rfl, ?_⟩)
  refine wpAny_loadName_free rfl W.c rfl (v := .ref C) ⟨_, X₁ _ _ hcell, rfl⟩ ?_
  refine wpAny_loadName_local rfl rfl F.ns (v := .ref (hp.objs.size + 1)) ?_ ?_
  · show List.lookup ("self" : Str) [(f, v), (("self" : Str), Value.ref (hp.objs.size + 1))] = _
    have e : (("self" : Str) == f) = false := by
      have := W.ne
      rw [beq_eq_false_iff_ne] at this ⊢
      exact fun z => this z.symm
    rw [List.lookup_cons, e, List.lookup_cons, beq_self_eq_true]
  refine ks_wpAny_isType_cls (X₁ _ _ hC) rfl ⟨rfl, ?_⟩
  refine ks_wpAny_call_super (X₁ _ _ hC) rfl I.at_ I.cls (fun c e => by cases e) (looks_mroIn X₁ T.mro) (fun h₂ e₂ k₂ => ?_)
  obtain ⟨F₂, N₂, l₂⟩ := ks_newsPush (s := ⟨h₁, g, dr, tk + 2, os⟩) F N rfl e₂ k₂
  -- .__init__
  have I₂ : InstAt h₂ (hp.objs.size + 1) (excObj C hp.objs.size none .none) C none := ⟨k₂ _ _ I.at_, rfl, rfl, trivial⟩
  refine kxs_method kxs_ValueError F₂ X N₂ List.mem_cons_self I₂ T.opq T.sup T.veC (by decide) (fun u h₃ F₃ N₃ l₃ => ?_)
  -- ("..")
  refine kxs_callWith1 N₃ List.mem_cons_self (spliced_more (wpAny_Constant_str (spliced_none ⟨(N₃ _ List.mem_cons_self).1, ?_⟩)))
  have nu : u ≠ hp.objs.size + 1 := Nat.ne_of_gt (l₃ _ (List.mem_cons_of_mem _ List.mem_cons_self))
  have ns : h₁.objs.size ≠ hp.objs.size + 1 := Nat.ne_of_gt (l₂ _ List.mem_cons_self)
  refine kxs_call F₃ X N₃ PySem.F.excBase_ValueError T.xin List.mem_cons_self (UpdF.tail nu (UpdF.tail ns (UpdF.head fun p hp' => ?_))) ?_ (fun t' h₄ F₄ N₄ l₄ => ?_)
  · rcases List.mem_cons.mp hp' with rfl | hp'
    · show hp.objs.size ≠ hp.objs.size + 1
      omega
    · cases hp'
  · show 1 ≤ sizeLine
    decide
  have X₄ : K.In h₄ := X.keeps F₄.keep
  have hx₄ : h₄.get? (hp.objs.size + 1) = some (excObj C t' none .none) := (N₄ _ (List.mem_cons_of_mem _ (List.mem_cons_of_mem _ (List.mem_cons_of_mem _ List.mem_cons_self)))).1
  -- self.f = f
  show PySem.wpAt _ _ _ (execs _ _) _ _ _
  refine wpAt_of_wpAny (wpAny_execs_cons (plainObj_wpAny_Assign_Attribute ?_))
  have vf : (fun y => [(("self" : Str), Value.ref (hp.objs.size + 1)), (f, v)].reverse.lookup y) f = some v := by
    show List.lookup f [(f, v), (("self" : Str), Value.ref (hp.objs.size + 1))] = _
    rw [List.lookup_cons, beq_self_eq_true]
  have vs' : (fun y => [(("self" : Str), Value.ref (hp.objs.size + 1)), (f, v)].reverse.lookup y) ("self" : Str) = some (.ref (hp.objs.size + 1)) := by
    show List.lookup ("self" : Str) [(f, v), (("self" : Str), Value.ref (hp.objs.size + 1))] = _
    have e : (("self" : Str) == f) = false := by
      have := W.ne
      rw [beq_eq_false_iff_ne] at this ⊢
      exact fun z => this z.symm
    rw [List.lookup_cons, e, List.lookup_cons, beq_self_eq_true]
  refine wpAny_Name (wpAny_loadName_local rfl W.l F₄.ns vf ?_) W.db
  refine wpAny_Name (wpAny_loadName_local rfl rfl F₄.ns vs' ?_) (by decide)
  refine set_plain X₄ (ox := excObj C t' none .none) (od := none) ⟨hx₄, rfl, rfl, trivial⟩ T.sa ?_
  refine exc_osa X₄ hx₄ hcl (show refsVE (.ref C :: bm) = true from hbm) rfl T.noN (fun h₅ tk₅ dx k₅ dn dne hx₅ hn₅ => ?_)
  show wpAny _ _ (execs _ _) _ _ _
  have b₄ : hp.objs.size ≤ h₄.objs.size := Nat.le_of_lt (Nat.lt_of_succ_lt (Heap.lt_size hx₄))
  refine wpAny_execs_nil (hq h₅ tk₅ dx t' ⟨fun b o e => k₅ b o ?_ (F₄.keep b o e), hx₅, Nat.le_trans b₄ dn, dne, hn₅⟩)
  rintro rfl
  exact absurd (Nat.lt_of_succ_lt (Heap.lt_size e)) (Nat.lt_irrefl _)
/-- X(v) -/
structure Made (h h' : Heap) (e C d : Addr) (f : Str) (v : Value) : Prop where
  keep : ∀ b o, h.get? b = some o → h'.get? b = some o
  new : h.objs.size ≤ e
  obj : ∃ oe vs, h'.get? e = some oe ∧ oe.cls = .ref C ∧ oe.dict = some d ∧ oe.data = .fields vs ∧ vs[1]? = some .none
  dbig : h.objs.size ≤ d
  dne : d ≠ e
  ns : h'.Ns1 d (fun y => if y = f then some v else none)
theorem xc_made (T : Own prog K mg n f C fI cda cc) {v : Value} (X : K.In hp) (hlim : hp.NoLimit) (Gm : hp.Ns mainGlobals mg) (Gb : ∃ mb, hp.Ns builtinsNs mb ∧ ∀ x : Str, x ≠ "__name__" → mb x = bootBuiltins x)
    (W : Fld f) (hroom : A.depth + 1 < recursionLimit)
    (hq : ∀ h' tk' e d, Made hp h' e C d f v → R (.ok (.ret (.ref e))) ⟨h', g, dr, tk', os⟩) :
    codeAny (model prog w) A (.call (.ref C) ⟨[v], []⟩) R ⟨hp, g, dr, tk, os⟩ := by
  obtain ⟨nm, q, N, bs, bm, sn, sub, ab, col, dd, k0, k1, k2, k3, k5, hC, hbm⟩ := T.cls
  refine call_own PySem.F.excBase_ValueError (fun Y => refsVE_contains Y bm hbm) (X _ _ hC) (looks_findIn X T.iC) (fun self => bind_fn X self T.tC) (show 1 ≤ sizeLine by decide) ?_
  refine xc_init T X hlim Gm Gb W hroom fun h' tk' dx t1 Z => ?_
  exact ⟨rfl, hq h' tk' (hp.objs.size + 1) dx ⟨Z.keep, Nat.le_succ _, ⟨_, _, Z.obj, rfl, rfl, rfl, rfl⟩, Z.dbig, Z.dne, Z.ns⟩⟩
end
end Xc
/-! ### the same over the layer: raise X(e), the field in an except suite -/
namespace L2
open PySem PySem.Spec PyProof.Rows
theorem relO_one {f : Str} {v : V} {v' : Value} (r : RelV v v') (y : Str) : RelO (List.lookup y [(f, v)]) (if y = f then some v' else none) := by
  by_cases hw : y = f
  · rw [if_pos hw, hw, List.lookup_cons, beq_self_eq_true]
    exact r
  · rw [if_neg hw, List.lookup_cons, show (y == f) = false by simpa using hw]
    trivial
section
variable {X : Cx} {n f : Str} {C fI cda cc : Addr}
/-- X(e) -/
def tMkX (C : Addr) (f : Str) (ta : TA) : St → Hp → XK → Prop := fun σ H Q => ta σ H fun vs H1 => ∃ v, vs = [v] ∧ ∀ d, H1 d = none → Q (.ref C) (some d) (upd H1 d (.xd [(f, v)]))
theorem pmk_x {a : Expr} {ta : TA} {p pos : Pos} {k : Nat} (T : Xc.Own X.prog X.K X.mg n f C fI cda cc) (W : Xc.Fld f) (hr : Room k X.A) (ha : PA X [a] ta) (hg : Gl X n) (hdb : (n == ("__debug__" : Str)) = false)
    (he : starEach (a :: []) X.env = (false, eval a X.env) :: starEach [] X.env := by rfl) (hpl : (backTo pos (starEach [] X.env)).any (·.1) = false := by rfl) :
    PMk X (.Call (.Name n p) [a] [] pos) (tMkX C f ta) := by
  intro pins s σ H Q I h
  refine wpAny_Call_Name_kw (ld_glob I hg T.gC ?_ hdb)
  refine PySem.W.callWith_K (h₀ := X.base) I.ok.mod.kin T.kC (thn (ha.run pos pins s σ H _ I h) fun us s1 hh => ?_) he hpl
  obtain ⟨vs, H1, I1, r1, v, ev, q1⟩ := hh
  subst ev
  refine ⟨I1.kIn, ?_⟩
  cases r1 with
  | cons rv rn =>
    rename_i v' us'
    cases rn
    show wpAny _ _ (call (.ref C) [v']) _ _ _
    have hlim := I1.nolimit
    have hgm := I1.mod.glob.keepsP I1.bk
    obtain ⟨mb, hb1, hb2⟩ := I1.mod.blt
    have hgb := hb1.keepsP I1.bk
    obtain ⟨hp, g, dr, tk, os⟩ := s1
    refine wpAny_call (Xc.xc_made T I1.kIn hlim hgm ⟨mb, hgb, hb2⟩ W (by have := hr.dp; omega) fun h' tk' e d M => ?_)
    show MkP X pins σ Q (.ref e) ⟨h', g, dr, tk', os⟩
    obtain ⟨oe, fv, hoe, hc, hd, hdat, h1⟩ := M.obj
    have hns := M.ns
    obtain ⟨G', g1, g2⟩ := restrict h' fun b => decide (b ≠ e)
    have gk : ∀ b, b ≠ e → G'.get? b = h'.get? b := fun b hb => g1 b (decide_eq_true hb)
    have ge : G'.get? e = none := g2 e (by simp)
    have old : ∀ b o, hp.get? b = some o → G'.get? b = some o := fun b o q => (gk b (Nat.ne_of_lt (Nat.lt_of_lt_of_le (Heap.lt_size q) M.new))).trans (M.keep b o q)
    have ob : ObjOk X.prog X.w (upd H1 d (.xd [(f, v)])) G' d (.xd [(f, v)]) :=
      ⟨_, hns.at (fun o q => (gk d M.dne).trans q), fun y => relO_one rv y⟩
    have J : Inv X pins σ (upd H1 d (.xd [(f, v)])) ⟨G', g, dr, tk', os⟩ := I1.laid (t' := tk') old M.dbig ob
    refine ⟨e, oe, fv, ⟨G', g, dr, tk', os⟩, _, .ref C, some d, rfl, J, fun b o q => ?_, ge, hoe, ⟨hc, hd⟩, hdat, h1, ?_, rfl, I1.bare, raises_own T.exC T.tyC, q1 d (I1.hok.fresh M.dbig)⟩
    · by_cases hb : b = e
      · have q' : G'.get? b = some o := q
        rw [hb, ge] at q'
        cases q'
      · exact (gk b hb).symm.trans q
    · rw [upd_ne (Ne.symm M.dne)]
      exact I1.hok.fresh M.new
/-- raise X(e) -/
def tRaiseX (C : Addr) (f : Str) (W : WX) (ta : TA) : TS := fun _ σ H => tMkX C f ta σ H fun cls d H' => W cls d σ H'
theorem ps_raiseX {a : Expr} {ta : TA} {Wx : WX} {p pos pos2 : Pos} {k : Nat} (hc : X.calm = true) (T : Xc.Own X.prog X.K X.mg n f C fI cda cc) (W : Xc.Fld f) (hr : Room k X.A) (tk : Takes X Wx) (ha : PA X [a] ta) (hg : Gl X n) (hdb : (n == ("__debug__" : Str)) = false)
    (he : starEach (a :: []) X.env = (false, eval a X.env) :: starEach [] X.env := by rfl) (hpl : (backTo pos (starEach [] X.env)).any (·.1) = false := by rfl) :
    PS X (.Raise (some (.Call (.Name n p) [a] [] pos)) none pos2) (tRaiseX C f Wx ta) := ps_raise hc tk (pmk_x T W hr ha hg hdb he hpl)
end
end L2
/-! ### == and != by an own __eq__, both answers -/
namespace L2
open PySem PySem.Spec PyProof.Rows
/-- what may stand on the right -/
inductive EqTy (K : PySem.W.Frag) (H : Hp) (C : Addr) : V → Prop where
  | ins {b dx : Addr} {fs : List (Str × V)} (e : H b = some (.ins C dx fs)) : EqTy K H C (.ref b)
  | lst {b : Addr} {xs : List V} (e : H b = some (.lst xs)) (n : PySem.W.notFirst K C (.type "list") = true) : EqTy K H C (.ref b)
  | int (i : Int) (n : PySem.W.notFirst K C (.type "int") = true) : EqTy K H C (.int i)
/-- a class with an own __eq__ at f and no __ne__ -/
structure EqC (K : PySem.W.Frag) (C f : Addr) : Prop where
  eq : PySem.W.findIn K (.ref C) "__eq__" = some (some (.ref f))
  fn : PySem.W.isFn K (.ref f) = true
  cls : ∃ nm q N bs hdct sn sub ab col dd k0 k1 k2 k3 k5 newId, K.lookup C = some (excClassObj nm q C N bs [.type "object"] hdct sn sub ab col dd k0 k1 k2 k3 k5 newId) ∧
    PySem.W.nsOkIn K N = true ∧ PySem.W.nsIn K N "__eq__" = some (some (.ref f)) ∧ PySem.W.nsIn K N "__ne__" = some none
section
variable {X : Cx} {C f : Addr} {fd : FuncData} {ps : List Str} {sp : Sp} {CX : CXT} {E : XK} {n : Nat}
theorem EqTy.looks {pins : List (Addr × Obj)} {σ : L2.St} {H : Hp} {s : Shared} {y : V} {u : Value} (I : Inv X pins σ H s) (ry : RelV y u) (t : EqTy X.K H C y) :
    ∃ tb, PySem.W.Looks (model X.prog X.w) s.heap (typeOf u) tb ∧ PySem.W.notFirst X.K C tb = true := by
  cases t with
  | ins e =>
    cases ry
    obtain ⟨m, J, _⟩ := ins_get I.hok e
    obtain ⟨od, J, _⟩ := J.look
    exact ⟨.ref C, J.type, by simp [PySem.W.notFirst]⟩
  | lst e h =>
    cases ry
    obtain ⟨its, k, _, ho, _⟩ := I.lst e
    exact ⟨.type "list", fun A Q E s' k q => wpAny_typeOf_ref (k _ _ ho) q, h⟩
  | int i h =>
    obtain ⟨t, rfl⟩ := ry
    exact ⟨.type "int", PySem.W.Looks.of_pure rfl, h⟩
theorem ns_some_of {K : PySem.W.Frag} {h : Heap} {N : Addr} {m : Str → Option Value} {x : Str} {v : Value} (Y : K.In h) (G : h.Ns N m) (e : PySem.W.nsIn K N x = some (some v)) : m x = some v := by
  obtain ⟨o, es, ep, ho, hd, _, hf⟩ := G
  unfold PySem.W.nsIn at e
  split at e
  · rename_i c d es' k' sl q
    have z := (Y _ _ q).symm.trans ho
    cases z
    cases hd
    split at e
    · rename_i w he
      rw [← hf]
      unfold nsFind findBy
      rw [← Array.find?_toList, he]
      injection e with e
    · split at e <;> cases e
  · cases e
/-- the call of __eq__ -/
theorem eq_call (F : FnOk X.prog X.w X.K X.mg X.base CX n f fd ps sp) (hb : Binds X.K fd ps []) (hx : Passes CX X E) {A : Around} (hr : Room n A) (hfr : A.frames = X.A.frames) {pins : List (Addr × Obj)} {σ : L2.St} {H : Hp} {s : Shared} {x y : V} {u v : Value}
    (I : Inv X pins σ H s) (rx : RelV x u) (ry : RelV y v) {Q : VK} (h : sp [x, y] H Q E) : wpAny (model X.prog X.w) A (call (.ref f) [u, v]) (EP X pins σ Q) X.xe s := by
  have e0 : Env0 X.prog X.w X.K X.mg X.base A X.stack s H := by
    have e := I.env0
    exact ⟨by rw [hfr]; exact e.frames, e.mod, e.bs, e.bsz, e.funs, e.frf, e.hok, e.bare⟩
  have hl := F.len _ _ _ _ h
  have r2 : Vals [x, y] [u, v] := .cons rx (.cons ry .nil)
  refine wpAny_call (codeAny_mono (F.run A X.stack s H ⟨[u, v], []⟩ [u, v] [x, y] _ E hr e0 (by
    have z := hb s [u, v] I.kIn (by simpa using hl)
    simpa using z) r2 h) fun r s' hq => ?_)
  cases r with
  | error e => exact hx pins σ H s e s' I hq
  | ok fl =>
    cases fl with
    | ret w => exact I.after hq
    | next => exact False.elim hq
    | brk => exact False.elim hq
    | cont => exact False.elim hq
def rEqI (K : PySem.W.Frag) (C : Addr) (sp : Sp) (E : XK) : R2 := fun x y H Q => ∃ a dx fs, x = .ref a ∧ H a = some (.ins C dx fs) ∧ EqTy K H C y ∧ sp [x, y] H (fun v H' => ∃ b, v = .bl b ∧ Q (.bl b) H') E
def rNeI (K : PySem.W.Frag) (C : Addr) (sp : Sp) (E : XK) : R2 := fun x y H Q => ∃ a dx fs b dy gs, x = .ref a ∧ H a = some (.ins C dx fs) ∧ y = .ref b ∧ H b = some (.ins C dy gs) ∧ sp [x, y] H (fun v H' => ∃ k, v = .bl k ∧ Q (.bl (!k)) H') E
theorem op_eqI (M : EqC X.K C f) (F : FnOk X.prog X.w X.K X.mg X.base CX n f fd ps sp) (hb : Binds X.K fd ps []) (hx : Passes CX X E) (hr : Room n X.A) : OpR X (compareOp .Eq) (rEqI X.K C sp E) := by
  intro pins s σ H x y u v Q I rx ry h
  obtain ⟨a, dx, fs, rfl, ha, ty, q⟩ := h
  obtain ⟨tb, lk, nf⟩ := ty.looks I ry
  cases rx
  obtain ⟨mA, J, _⟩ := ins_get I.hok ha
  obtain ⟨od, J, _⟩ := J.look
  obtain ⟨m, hF⟩ := I.fr
  show wpAny _ _ (richCompare .Eq _ _) _ _ _
  refine PySem.W.cmp_K (op := .Eq) hr.units0 hF I.ok.mod.kin J lk nf M.eq M.fn ?_
  refine wpAny_mono (eq_call F hb hx hr rfl I (x := .ref a) rfl ry q) (fun w s' z => ?_) fun _ _ e => e
  obtain ⟨_, H', I', rz, k, rfl, qk⟩ := z
  cases (show w = .bool k from rz)
  exact ⟨.bl k, H', I', rfl, qk⟩
theorem op_neI (M : EqC X.K C f) (F : FnOk X.prog X.w X.K X.mg X.base CX n f fd ps sp) (hb : Binds X.K fd ps []) (hx : Passes CX X E) (hr : Room (n + 1) X.A) : OpR X (compareOp .NotEq) (rNeI X.K C sp E) := by
  intro pins s σ H x y u v Q I rx ry h
  obtain ⟨a, dx, fs, b, dy, gs, rfl, ha, rfl, hb', q⟩ := h
  cases rx
  cases ry
  obtain ⟨mA, J, _⟩ := ins_get I.hok ha
  obtain ⟨od, J, _⟩ := J.look
  obtain ⟨mB, J', _⟩ := ins_get I.hok hb'
  obtain ⟨od', J', _⟩ := J'.look
  have K1 := I.kIn
  obtain ⟨nm, qn, N, bs, hdct, sn, sub, ab, col, dd, k0, k1, k2, k3, k5, newId, hC, hN, he, hne⟩ := M.cls
  have G := Heap.Ns.of_isNs (PySem.W.isNs_of_in K1 hN)
  have hfn : ∃ of, s.heap.get? f = some of ∧ of.cls = .type "function" := by
    have z : (X.K.lookup f).map (·.cls) = some (.type "function") := beq_iff_eq.mp M.fn
    cases e : X.K.lookup f with
    | none => rw [e] at z; cases z
    | some o => rw [e] at z; exact ⟨o, K1 _ _ e, Option.some.inj z⟩
  obtain ⟨of, hof, hofc⟩ := hfn
  have Y : s.heap.OwnEqNoNe a C f "object" [.type "object"] :=
    ⟨_, of, nm, qn, N, bs, hdct, sn, sub, ab, col, dd, k0, k1, k2, k3, k5, newId, _, _, J.at_, J.cls, K1 _ _ hC, G, ns_some_of K1 G he, hof, hofc, PySem.F.cmp_object.mro, PySem.F.cmp_object.eq.lookup, PySem.W.ns_none_of K1 G hne⟩
  obtain ⟨hp, g, dr, tk, os⟩ := s
  refine compareOp_ne_ownEq PySem.F.cmp_object Y J'.at_ J'.cls (hu_of hr) ?_
  refine wpAny_mono (eq_call F hb hx hr.in1 rfl I (x := .ref a) (y := .ref b) rfl rfl q) (fun w s' z => ?_) fun _ _ e => e
  obtain ⟨_, H', I', rz, k, rfl, qk⟩ := z
  cases (show w = .bool k from rz)
  exact ⟨k, rfl, .bl (!k), H', I', rfl, qk⟩
end
end L2
/-! ### for i, x in enumerate(t), t a tuple -/
namespace EnT
open PySem
open AutoSeq1 (wpAny_loadPart')
theorem makes (a : Addr) (xs : Array Value) (k : Nat) (dc : Option Addr) (sx : Array (Option Value)) :
    Meets (Builtin.«enumerate.__new__» ⟨[.type "enumerate", .ref a], []⟩) (fun _ R s => s.heap.get? a = some { cls := .type "tuple", dict := dc, data := .seq xs k, slots := sx } ∧
      R (.ok (.ret (.ref (s.heap.push { cls := .type "tuple_iterator", data := .fields #[.ref a, .int 0 0] }).objs.size)))
        { s with heap := (s.heap.push { cls := .type "tuple_iterator", data := .fields #[.ref a, .int 0 0] }).push { cls := .type "enumerate", data := .fields #[.none, .bool false, .ref s.heap.objs.size, rawInt 0, .none, .none] } }) :=
  .of_wp fun prog w A R s z => by
    obtain ⟨hh, gg, dd, tt, oo⟩ := s
    obtain ⟨ha, z⟩ := z
    have e0 := sub_enumerate
    have hT : Heap.IsTuple (Shared.heap ⟨hh, gg, dd, tt, oo⟩) a xs := ⟨_, ha, rfl, k, rfl⟩
    wp_walk using wpAny_loadPart' ha
    refine wpAny_stack_any fun st => wpAny_pure ?_
    split
    · rename_i c _ _ _ _ _
      cases (c == Value.type "enumerate") <;> (wp_walk using wpAny_loadPart' ha, wpAny_pyIter_tuple hT; exact ⟨_, rfl, z⟩)
    · wp_walk using wpAny_loadPart' ha, wpAny_pyIter_tuple hT
      exact ⟨_, rfl, z⟩
section
variable {prog : Program} {w : World} {A : Around} {E : Value → Shared → Prop} {s : Shared}
theorem called {a : Addr} {xs : Array Value} {Q : Value → Shared → Prop} (hT : s.heap.IsTuple a xs)
    (q : ∀ h', IsEnum h' (s.heap.objs.size + 1) s.heap.objs.size 0 .none → h'.IsTupleIter s.heap.objs.size a 0 → (∀ b o, s.heap.get? b = some o → h'.get? b = some o) → Q (.ref (s.heap.objs.size + 1)) { s with heap := h' }) :
    wpAny (model prog w) A (call (.type "enumerate") [.ref a]) Q E s := by
  obtain ⟨⟨c, dc, dt, sx⟩, ha, hc, k, hd⟩ := hT
  obtain rfl : c = .type "tuple" := hc
  obtain rfl : dt = .seq xs k := hd
  refine callType_new F.called_enumerate (by decide) (F.typeCall_enumerate_1 _) (F.newCall_enumerate_1 _) (fun ob => F.args_object_init_2 ob _) F.entry_enumerate_new (makes a xs k dc sx) ⟨ha, ?_⟩
  have sz : (s.heap.push { cls := .type "tuple_iterator", data := .fields #[.ref a, .int 0 0] }).objs.size = s.heap.objs.size + 1 := Heap.size_push ..
  show _ ∧ _
  rw [sz]
  have en : IsEnum ((s.heap.push { cls := .type "tuple_iterator", data := .fields #[.ref a, .int 0 0] }).push { cls := .type "enumerate", data := .fields #[.none, .bool false, .ref s.heap.objs.size, rawInt 0, .none, .none] }) (s.heap.objs.size + 1) s.heap.objs.size 0 .none := by
    have y := Heap.get?_push_size (s.heap.push { cls := .type "tuple_iterator", data := .fields #[.ref a, .int 0 0] }) (o := { cls := .type "enumerate", data := .fields #[.none, .bool false, .ref s.heap.objs.size, rawInt 0, .none, .none] }) rfl
    rw [sz] at y
    exact y
  exact ⟨⟨_, en, rfl⟩, q _ en ⟨_, Heap.get?_push_of_some _ (Heap.get?_push_size _ rfl), rfl, rfl⟩ fun b o x => Heap.get?_push_of_some _ (Heap.get?_push_of_some _ x)⟩
end
end EnT
namespace L2
open PySem PySem.Spec PyProof.Rows
/-- the tuple at a as it stands at each turn, each item in a new pair -/
def IteT (K : PySem.W.Frag) (a : Addr) : It :=
  ⟨fun i H => ∃ (xs : List V) (x : V), SqT K H a xs ∧ xs[i]? = some x, fun i H v H' => ∃ T x, v = .ref T ∧ H T = none ∧ H' = upd H T (.tup [.int (i : Nat), x]) ∧ ∀ xs, SqT K H a xs → xs[i]? = some x, fun i H => ∃ xs : List V, SqT K H a xs ∧ xs.length ≤ i⟩
theorem turn_enumT {P : Program} {w : World} {K : PySem.W.Frag} {elts : List Expr} {kk : Nat} {tpos : Pos} (a e it : Addr) :
    Turn P w K (.Tuple elts kk tpos) (IteT K a) [e, it] e (fun i h => (∃ old, IsEnum h e it ((i : Nat) : Int) old) ∧ h.IsTupleIter it a i ∧ e ≠ it ∧ a ≠ it ∧ a ≠ e) where
  mem := by simp
  obj := fun i h st b hb => by
    obtain ⟨⟨old, he⟩, ⟨o, ho, hc, hd⟩, _⟩ := st
    rcases (show b = e ∨ b = it by simpa using hb) with z | z
    · rw [z]
      exact ⟨_, he, fun v q => nomatch q⟩
    · rw [z]
      exact ⟨o, ho, fun v q => by rw [hd] at q; cases q⟩
  keep := fun i h h' st k => let ⟨⟨old, he⟩, hi, r⟩ := st; ⟨⟨old, k e (by simp) _ he⟩, hi.at fun o q => k it (by simp) o q, r⟩
  item := by
    intro X hP hw hK hc i pins s σ H E I hf st hg
    subst hP hw hK
    obtain ⟨⟨old, he⟩, hit, hne, hat, hae⟩ := st
    obtain ⟨xs, x, hq, hx⟩ := hg
    obtain ⟨its, rv, p, hz⟩ := I.tuple hq
    obtain ⟨u, hu, ru⟩ := rv.get hx
    have le : e < s.heap.objs.size := Heap.lt_size he
    have li : it < s.heap.objs.size := by obtain ⟨_, q, _⟩ := hit; exact Heap.lt_size q
    have lt : i < its.toArray.size := by
      have y := (List.getElem?_eq_some_iff.mp hu).1
      simpa using y
    refine wpAny_pyNext_enum_itemD (Draws.tuple (show X.A.in1.handled = none from I.ok.hd hc) it a hat its.toArray) he ⟨hit, p⟩ lt hne (by simp [hne, Ne.symm hae]) fun v h' tk hv ho st' hT sz hk => ?_
    have ev : v = u := by
      have y : its.toArray[i]? = some v := hv
      rw [List.getElem?_toArray, hu] at y
      exact (Option.some.inj y).symm
    subst ev
    refine ⟨_, rfl, wpAny_letOwnedTupleGo_enum (s := { s with heap := h', toks := tk + 1 }) ho fun h2 he2 sb => ?_⟩
    have hT2 : h2.get? s.heap.objs.size = some { cls := .type "tuple", data := .seq #[.int i tk, v] } := (sb.2 _ (Nat.ne_of_gt le)).trans hT
    have nw : ObjOk X.prog X.w (upd H s.heap.objs.size (.tup [.int (i : Nat), x])) h2 s.heap.objs.size (.tup [.int (i : Nat), x]) :=
      ⟨by show 2 ≤ sizeLine; decide, [.int i tk, v], .cons ⟨_, rfl⟩ (.cons ru .nil), ⟨_, hT2, rfl, _, rfl⟩⟩
    have I1 : Inv X pins σ (upd H s.heap.objs.size (.tup [.int (i : Nat), x])) { s with heap := h2, toks := tk + 1 } :=
      I.turnedNew (ch := [e, it]) (fun b ob hb q => (sb.2 b (fun z => hb (by simp [z]))).trans (hk b ob (fun z => hb (by simp [z])) (fun z => hb (by simp [z])) q)) hf (Nat.le_refl _) nw
    refine ⟨.ref s.heap.objs.size, _, I1, rfl, ⟨_, x, rfl, I.hok.fresh (Nat.le_refl _), rfl, fun ys hy => by rw [I.tuple_inj hy hq]; exact hx⟩, ⟨⟨v, ?_⟩, st'.1.at fun o q => (sb.2 it (Ne.symm hne)).trans q, hne, hat, hae⟩, fun b hb => ?_⟩
    · rw [show ((i + 1 : Nat) : Int) = (i : Int) + 1 by omega]
      exact he2
    · have lb : b < s.heap.objs.size := by
        rcases (show b = e ∨ b = it by simpa using hb) with z | z
        · exact z ▸ le
        · exact z ▸ li
      rw [upd_ne (Nat.ne_of_lt lb)]
      exact (hf b hb).1
  done := by
    intro X hP hw hK hc i pins s σ H E I hf st hg
    subst hP hw hK
    obtain ⟨⟨old, he⟩, hit, hne, hat, hae⟩ := st
    obtain ⟨xs, hq, hx⟩ := hg
    obtain ⟨its, rv, p, hz⟩ := I.tuple hq
    obtain ⟨f0, f1, f2, f3, f4, f5⟩ := hf it (by simp)
    have hl := rv.length
    have D : Draws X.prog X.w X.A.in1 it [it, a] i (fun _ _ => True) (fun j h => j = i ∧ h.IsTupleIter it a i ∧ h.IsTuple a its.toArray) :=
      { live := fun _ _ st => let ⟨o, ho, _⟩ := st.2.1; ⟨o, ho⟩
        frame := fun _ _ _ st hk => ⟨st.1, st.2.1.at fun o q => hk it (by simp) o q, st.2.2.at fun o q => hk a (by simp) o q⟩
        item := fun j _ _ _ hj st _ => absurd st.1 (Nat.ne_of_lt hj)
        done := fun _ _ _ st hE => wpAny_nextOf_tuple_end (show X.A.in1.handled = none from I.ok.hd hc) st.2.1 st.2.2 (by simp; omega) hE }
    exact wpAny_pyNext_enum_endD D he ⟨rfl, hit, p⟩ fun h' eb => ⟨rfl, I.turned (t' := s.toks) (fun b o hb q => eb b o hb q) f0 f1 f3 f4 f5⟩
  self := fun A i s Q E st h => let ⟨⟨_, he⟩, _⟩ := st; wpAny_pyIter_enum he h
def iEnumT (K : PySem.W.Frag) (ta : TA) : TI := fun σ H R => ta σ H fun vs H1 => ∃ a xs, vs = [.ref a] ∧ SqT K H1 a xs ∧ R (IteT K a) H1
theorem pi_enumT {X : Cx} {e : Expr} {ta : TA} {p pos tpos : Pos} {elts : List Expr} {kk : Nat} (hg : Gl X "enumerate") (hm : X.mg "enumerate" = none) (ha : PA X [e] ta) (hs : starEach [e] X.env = [(false, eval e X.env)] := by rfl) :
    PI X (.Tuple elts kk tpos) (.Call (.Name "enumerate" p) [e] [] pos) (iEnumT X.K ta) := by
  refine ⟨fun pins s σ H R I h => ?_⟩
  refine Call_ (ld_blt I hg hm boot_enumerate (PyProof.Rows.callWith_type1 (thn (ha.run pos pins s σ H _ I h) fun us s1 ⟨vs, H1, I1, r1, q1⟩ => ?_) hs rfl))
  obtain ⟨a, xs, ex, hq, q⟩ := q1
  subst ex
  cases r1 with
  | cons r rr =>
    cases rr
    cases r
    obtain ⟨its, rv, p', hz⟩ := I1.tuple hq
    obtain ⟨o, ho, _⟩ := id p'
    have la : a < s1.heap.objs.size := Heap.lt_size ho
    refine EnT.called p' fun h' he hit hk => wpAny_pyIter_enum he ?_
    refine ⟨s1.heap.objs.size + 1, [s1.heap.objs.size + 1, s1.heap.objs.size], _, _, H1, rfl, I1.kept (t' := s1.toks) hk, turn_enumT a (s1.heap.objs.size + 1) s1.heap.objs.size, ⟨⟨.none, he⟩, hit, Nat.succ_ne_self _, Nat.ne_of_lt la, Nat.ne_of_lt (Nat.lt_succ_of_lt la)⟩, fun b hb => ?_, q⟩
    have lb : s1.heap.objs.size ≤ b := by
      rcases (show b = s1.heap.objs.size + 1 ∨ b = s1.heap.objs.size by simpa using hb) with z | z
      · exact z ▸ Nat.le_add_right _ _
      · exact z ▸ Nat.le_refl _
    exact I1.fpOk lb (I1.hok.fresh lb)
/-- over a tuple in new pairs, the invariant over turns -/
theorem for_enumT {K : PySem.W.Frag} {a : Addr} {xs : List V} {g : TG} {tb : TS} {D : Ends} {σ : L2.St} {H : Hp} (Pv : Nat → L2.St → Hp → Prop) (h0 : Pv 0 σ H) (hl : ∀ i σ H, i ≤ xs.length → Pv i σ H → SqT K H a xs)
    (hs : ∀ i x σ H T, xs[i]? = some x → Pv i σ H → H T = none → g (.ref T) σ (upd H T (.tup [.int (i : Nat), x])) fun σ2 H2 => tb { D with nx := Pv (i + 1), ct := Pv (i + 1), bk := D.nx } σ2 H2) (hd : ∀ σ H, Pv xs.length σ H → D.nx σ H) :
    ∃ W : Nat → Nat → L2.St → Hp → Prop, (∃ m, W 0 m σ H) ∧ ∀ i m σ H, W i m σ H →
      ((IteT K a).stop i H ∧ D.nx σ H) ∨ ((IteT K a).go i H ∧ ∃ N : L2.St → Hp → Prop, (∀ σ' H', N σ' H' → ∃ m', m' < m ∧ W (i + 1) m' σ' H') ∧ ∀ x H', (IteT K a).yld i H x H' → g x σ H' fun σ2 H2 => tb { D with nx := N, ct := N, bk := D.nx } σ2 H2) := by
  refine ⟨fun i m σ H => m = xs.length - i ∧ i ≤ xs.length ∧ Pv i σ H, ⟨_, rfl, Nat.zero_le _, h0⟩, ?_⟩
  rintro i m σ H ⟨rfl, hi, p⟩
  have q := hl i σ H hi p
  by_cases lt : i < xs.length
  · refine .inr ⟨⟨xs, xs[i], q, by simp [lt]⟩, Pv (i + 1), fun σ' H' p' => ⟨xs.length - (i + 1), by omega, rfl, lt, p'⟩, fun x H' y => ?_⟩
    obtain ⟨T, x', rfl, nT, rfl, f⟩ := y
    exact hs i x' σ H T (f xs q) p nT
  · have e : i = xs.length := by omega
    subst e
    exact .inl ⟨⟨xs, q, Nat.le_refl _⟩, hd σ H p⟩
end L2
/-! ### isinstance of a caught error that has a dict of its own -/
namespace L2
open PySem PySem.Spec PyProof.Rows
def rIsX (K : PySem.W.Frag) (D a : Addr) (cls : Value) (d : Option Addr) : List V → Hp → VK → Prop := fun xs H Q => cls = .ref D ∧ ∃ (dd : Addr) (fs : List (Str × V)) (c : V) (cv : Value) (b : Bool), d = some dd ∧ H dd = some (.xd fs) ∧ xs = [.ref a, c] ∧ ClsV c cv ∧ PySem.W.kitOne K (.ref D) cv = some b ∧ Q (.bl b) H
theorem call_isX {X : Cx} {a D : Addr} {oe : Obj} {cls : Value} {d : Option Addr} {pn : List (Addr × Obj)} (C : ExcC X.K D) (hz : Zc cls d oe) (hf : ∃ vs, oe.data = .fields vs) : CallR (X.suite a ((a, oe) :: pn)) (.builtin "isinstance") (rIsX X.K D a cls d) := by
  intro pins s σ H xs us Q I r h
  obtain ⟨ec, dd, fs, c, cv, b, ed, hdd, rfl, hcv, e, q⟩ := h
  subst ec
  subst ed
  obtain ⟨u1, u2, rfl, r1, r2⟩ := vals2 r
  have e2 := hcv.eq r2
  subst e2
  cases (show u1 = Value.ref a from r1)
  have hp := (I.pin (a, oe) (List.mem_append_left _ List.mem_cons_self)).1
  obtain ⟨vs, hv⟩ := hf
  obtain ⟨mA, hns, _⟩ := (show ObjOk X.prog X.w H s.heap dd (.xd fs) from I.hok dd _ hdd)
  obtain ⟨od, ho, _⟩ := lookIn_ns hns
  have J : PySem.W.InstAt s.heap a oe D (some od) := by
    refine ⟨hp, hz.1, ?_, ?_⟩
    · unfold PySem.W.notCls
      rw [hv] <;> rfl
    · rw [hz.2]
      exact ho
  have hcl : (PySem.W.clsIn X.K D).isSome = true := by
    have z := C.hd
    unfold PySem.W.hasDictIn at z
    cases y : PySem.W.clsIn X.K D with
    | none => rw [y] at z; cases z
    | some _ => rfl
  exact PySem.W.kia_one (PySem.W.kitx_exc (x := a) (ox := oe) (od := some od) hcl C.hg C.hk C.hs C.ha C.hn C.ht C.hm) I.kIn J e (fun z => nomatch z) fun tk => ⟨.bl b, H, I.kept (t' := tk) fun _ _ z => z, rfl, q⟩
theorem passN {X : Cx} {W : WX} (tk : Takes X W) : Passes (CX X.prog X.w) X (fun cls d H => ∀ σ : L2.St, σ.length = X.N.length → W cls d σ H) := fun _ σ _ _ e s' I c => tk e s' (XE.of_call I (fun _ _ _ h => h σ I.len) c)
theorem passO {X : Cx} {E : XK} (tk : Takes X (fun cls d _ H => E cls d H)) : Passes (CX X.prog X.w) X E := passes_call tk fun _ _ _ _ h => h
end L2
/-! ### what is a list or a tuple -/
namespace My
open PySem PySem.Spec PyProof.Rows L2
def SqA (K : PySem.W.Frag) (H : Hp) (a : Addr) (xs : List V) : Prop := SqL K H a xs ∨ SqT K H a xs
theorem SqA.same {K : PySem.W.Frag} {H H' : Hp} {a : Addr} {xs : List V} (e : Same H H') (h : SqA K H a xs) : SqA K H' a xs := h.imp e.seq (Same.tup e)
theorem walk_enumT {K : PySem.W.Frag} {a : Addr} {xs : List V} : Walk (IteT K a) xs.length (fun H => SqT K H a xs) (YPair (fun i => some (.int (i : Nat))) (fun i => xs[i]?)) where
  goes := fun j _ lt hh => ⟨xs, xs[j], hh, List.getElem?_eq_getElem lt⟩
  stops := fun _ hh => ⟨xs, hh, Nat.le_refl xs.length⟩
  yields := fun j H0 z H1 _ hh yy => by
    obtain ⟨T, c, e1, nT, e2, cc⟩ := yy
    exact ⟨T, _, c, e1, nT, e2, rfl, cc xs hh⟩
/-- of some list or tuple in slot i: whichever walk it is -/
def iEnumV (K : PySem.W.Frag) (i : Nat) : TI := fun σ H R => ∃ a xs, σ[i]? = some (some (.ref a)) ∧ SqA K H a xs ∧ ∀ J G, G H → (∀ H', (SqL K H a xs → SqL K H' a xs) → (SqT K H a xs → SqT K H' a xs) → G H') → Walk J xs.length G (YPair (fun i => some (.int (i : Nat))) (fun i => xs[i]?)) → R J H
theorem pi_enumV {X : Cx} {i : Nat} {x : Str} {p1 p pos tpos : Pos} {elts : List Expr} {kk : Nat} (hv : PE X (.Name x p1) (tVar i)) (hg : Gl X "enumerate") (hm : X.mg "enumerate" = none) :
    PI X (.Tuple elts kk tpos) (.Call (.Name "enumerate" p) [.Name x p1] [] pos) (iEnumV X.K i) := by
  refine ⟨fun pins s σ H R I h => ?_⟩
  obtain ⟨a, xs, hs, hx, k⟩ := h
  rcases hx with hx | hx
  · exact (pi_enum (elts := elts) (kk := kk) (tpos := tpos) hg hm (pa_cons hv pa_nil)).run pins s σ H R I ⟨_, hs, a, xs, rfl, hx, k _ (fun H => SqL X.K H a xs) hx (fun _ e _ => e hx) walk_enum⟩
  · exact (pi_enumT (elts := elts) (kk := kk) (tpos := tpos) hg hm (pa_cons hv pa_nil)).run pins s σ H R I ⟨_, hs, a, xs, rfl, hx, k _ (fun H => SqT X.K H a xs) hx (fun _ _ e => e hx) walk_enumT⟩
/-- for x in l, l in slot i -/
def iSeqV (K : PySem.W.Frag) (i : Nat) : TI := fun σ H R => ∃ a xs, σ[i]? = some (some (.ref a)) ∧ SqA K H a xs ∧ ∀ J G, G H → (∀ H', (SqL K H a xs → SqL K H' a xs) → (SqT K H a xs → SqT K H' a xs) → G H') → Walk J xs.length G (YAt xs) → R J H
theorem pi_seqV {X : Cx} {i : Nat} {x : Str} {p1 : Pos} {tg : Expr} (hv : PE X (.Name x p1) (tVar i)) : PI X tg (.Name x p1) (iSeqV X.K i) := by
  refine ⟨fun pins s σ H R I h => ?_⟩
  obtain ⟨a, xs, hs, hx, k⟩ := h
  rcases hx with hx | hx
  · exact (pi_list (tg := tg) hv).run pins s σ H R I ⟨_, hs, a, rfl, ⟨xs, hx⟩, k _ (fun H => SqL X.K H a xs) hx (fun _ e _ => e hx) walk_list⟩
  · exact (pi_tup (tg := tg) hv).run pins s σ H R I ⟨_, hs, a, rfl, ⟨xs, hx⟩, k _ (fun H => SqT X.K H a xs) hx (fun _ _ e => e hx) walk_tup⟩
def rIxA (K : PySem.W.Frag) : R2 := fun x y H Q => ∃ p xs i v, x = .ref p ∧ y = .int i ∧ SqA K H p xs ∧ atI xs i = some v ∧ Q v H
theorem ix_seq {X : Cx} : IxR X (rIxA X.K) := by
  intro value slice pins s σ H x y v u Q I rx ry h hs
  obtain ⟨p, xs, i, z, e1, e2, hq, he, q⟩ := h
  rcases hq with hq | hq
  · exact ix_list value slice pins s σ H x y v u Q I rx ry ⟨p, xs, i, z, e1, e2, hq, he, q⟩ hs
  · exact ix_tup value slice pins s σ H x y v u Q I rx ry ⟨p, xs, i, z, e1, e2, hq, he, q⟩ hs
theorem call_lenA {X : Cx} : CallR X (.builtin "len") (fun xs H Q => ∃ p ys, xs = [.ref p] ∧ SqA X.K H p ys ∧ Q (.int ys.length) H) := fun pins s σ H xs us Q I r ⟨p, ys, e, h, q⟩ => call_len_seq pins s σ H xs us Q I r ⟨p, ys, e, h, q⟩
/-- no constraint on the tuple that is not an own one -/
theorem SqA.keep {K : PySem.W.Frag} {d a : Addr} {H H' : Hp} {xs : List V} {C dx : Addr} {fs : List (Str × V)} (e : Keep d H H') (hd : H d = some (.ins C dx fs)) (h : SqA K H a xs) : SqA K H' a xs := by
  have ne : ∀ o, H a = some o → (∀ c x f, o ≠ .ins c x f) → a ≠ d := fun o ho hn z => by
    rw [z, hd] at ho
    exact hn _ _ _ (Option.some.inj ho).symm
  rcases h with ((h | ⟨o, h⟩) | h) | ((h | ⟨o, h⟩) | h)
  · exact .inl (.inl (.inl (e _ _ (ne _ h fun _ _ _ z => nomatch z) h)))
  · exact .inl (.inl (.inr ⟨o, e _ _ (ne _ h fun _ _ _ z => nomatch z) h⟩))
  · exact .inl (.inr h)
  · exact .inr (.inl (.inl (e _ _ (ne _ h fun _ _ _ z => nomatch z) h)))
  · exact .inr (.inl (.inr ⟨o, e _ _ (ne _ h fun _ _ _ z => nomatch z) h⟩))
  · exact .inr (.inr h)
/-- the ways of an if's test joined -/
theorem sTest_via {c : TT} {t u v : TS} {D : Ends} {σ : L2.St} {H : Hp} (R : Bool → Hp → Prop) (h : ∀ Q' : Bool → Hp → Prop, (∀ b H', R b H' → Q' b H') → c σ H Q') (k : ∀ b H', R b H' → if b = true then t { D with nx := v D } σ H' else u { D with nx := v D } σ H') :
    tSeq (tIfS c t u) v D σ H := h _ k
theorem sLast_via {c : TT} {t u : TS} {D : Ends} {σ : L2.St} {H : Hp} (R : Bool → Hp → Prop) (h : ∀ Q' : Bool → Hp → Prop, (∀ b H', R b H' → Q' b H') → c σ H Q') (k : ∀ b H', R b H' → if b = true then t D σ H' else u D σ H') : tIfS c t u D σ H := h _ k
/-- the ways of an if joined -/
theorem sJoin {c : TT} {t u v : TS} {D : Ends} {σ : L2.St} {H : Hp} (R : L2.St → Hp → Prop) (h : ∀ N : L2.St → Hp → Prop, (∀ σ' H', R σ' H' → N σ' H') → tIfS c t u { D with nx := N } σ H) (k : ∀ σ' H', R σ' H' → v D σ' H') : tSeq (tIfS c t u) v D σ H := h _ k
theorem iteTt {b : Bool} {A B : Prop} (hb : b = true) (h : A) : if b = true then A else B := by
  rw [if_pos hb]
  exact h
theorem iteFf {b : Bool} {A B : Prop} (hb : b = false) (h : B) : if b = true then A else B := by
  rw [if_neg (by rw [hb]; decide)]
  exact h
theorem iteN {c A B : Prop} [Decidable c] (hc : ¬ c) (h : A) : if (!decide c) = true then A else B := by
  rw [decide_eq_false hc]
  exact iteT h
/-- a fresh address stays one where nothing else was written -/
theorem same_keep {H H1 H2 : Hp} {L : Addr} (n : H L = none) (s : Same H H1) (k : Keep L H1 H2) : Same H H2 := fun b o e => k b o (ne_of_none e n) (s _ _ e)
end My
/-! ### the truth of an instance whose class has an own __bool__; objects that are made -/
namespace L2
open PySem PySem.Spec PyProof.Rows
/-- a class with an own __bool__ at f -/
structure BoolC (K : PySem.W.Frag) (C f : Addr) : Prop where
  eq : PySem.W.findIn K (.ref C) "__bool__" = some (some (.ref f))
  fn : PySem.W.isFn K (.ref f) = true
section
variable {X : Cx} {C f : Addr} {fd : FuncData} {ps : List Str} {sp : Sp} {CX : CXT} {E : XK} {n : Nat}
theorem call_one (F : FnOk X.prog X.w X.K X.mg X.base CX n f fd ps sp) (hb : Binds X.K fd ps []) (hx : Passes CX X E) {A : Around} (hr : Room n A) (hfr : A.frames = X.A.frames) {pins : List (Addr × Obj)} {σ : L2.St} {H : Hp} {s : Shared} {x : V} {u : Value}
    (I : Inv X pins σ H s) (rx : RelV x u) {Q : VK} (h : sp [x] H Q E) : wpAny (model X.prog X.w) A (call (.ref f) [u]) (EP X pins σ Q) X.xe s := by
  have e0 : Env0 X.prog X.w X.K X.mg X.base A X.stack s H := by
    have e := I.env0
    exact ⟨hfr ▸ e.frames, e.mod, e.bs, e.bsz, e.funs, e.frf, e.hok, e.bare⟩
  have hl := F.len _ _ _ _ h
  have r1 : Vals [x] [u] := .cons rx .nil
  refine wpAny_call (codeAny_mono (F.run A X.stack s H ⟨[u], []⟩ [u] [x] _ E hr e0 (by simpa using hb s [u] I.kIn (by simpa using hl)) r1 h) fun r s' hq => ?_)
  cases r with
  | error e => exact hx pins σ H s e s' I hq
  | ok fl =>
    cases fl with
    | ret w => exact I.after hq
    | next => exact hq.elim
    | brk => exact hq.elim
    | cont => exact hq.elim
def rTruI (C : Addr) (sp : Sp) (E : XK) : V → Hp → (Bool → Hp → Prop) → Prop := fun x H Q => ∃ a dx fs, x = .ref a ∧ H a = some (.ins C dx fs) ∧ sp [x] H (fun v H' => ∃ b, v = .bl b ∧ Q b H') E
theorem tru_ins (M : BoolC X.K C f) (F : FnOk X.prog X.w X.K X.mg X.base CX n f fd ps sp) (hb : Binds X.K fd ps []) (hx : Passes CX X E) (hr : Room n X.A) : TruR X (rTruI C sp E) := by
  intro pins s σ H x v Q I rx h
  obtain ⟨a, dx, fs, rfl, ha, q⟩ := h
  cases rx
  obtain ⟨mA, J, _⟩ := ins_get I.hok ha
  obtain ⟨od, J, _⟩ := J.look
  obtain ⟨m, hF⟩ := I.fr
  refine PySem.W.truthy_K hF I.ok.mod.kin J M.eq M.fn ?_
  refine wpAny_mono (call_one F hb hx hr rfl I (x := .ref a) rfl q) (fun w s' z => ?_) fun _ _ e => e
  obtain ⟨_, H', I', rz, k, rfl, qk⟩ := z
  cases (show w = .bool k from rz)
  exact ⟨H', I', qk⟩
theorem tru_or {r1 r2 : V → Hp → (Bool → Hp → Prop) → Prop} (h1 : TruR X r1) (h2 : TruR X r2) : TruR X (fun x H Q => r1 x H Q ∨ r2 x H Q) := by
  intro pins s σ H x v Q I rx h
  rcases h with h | h
  · exact h1 pins s σ H x v Q I rx h
  · exact h2 pins s σ H x v Q I rx h
end
end L2
namespace My
open PySem PySem.Spec PyProof.Rows L2
/-- what a class must have so that its instances' fields are read and stored -/
structure ClsR (K : PySem.W.Frag) (mg : Str → Option Value) (x : Str) (C : Addr) : Prop where
  g : mg x = some (.ref C)
  cl : Cls K C
/-- and so that isinstance may be asked of them -/
structure ClsI (K : PySem.W.Frag) (C : Addr) : Prop where
  ha : PySem.W.findIn K (.ref C) "__class__" = some (some (.builtin "object.__class__"))
  hm : PySem.W.mroIn K C (.type "object") = some true
  own : PySem.W.kitOne K (.ref C) (.ref C) = some true
/-- what isinstance asks of object itself -/
structure ObjI (K : PySem.W.Frag) : Prop where
  hn : PySem.W.specialIn K (.builtin "object.__class__") "__get__" = some (some (.builtin "getset_descriptor.__get__"))
  ht : PySem.W.takesIn K (.builtin "object.__class__") = some true
theorem same_make {H H' : Hp} {x dx C : Addr} {fs : List (Str × V)} (nx : H x = none) (nd : H dx = none) (ne : dx ≠ x) (kp : Keep x (upd (upd H dx (.own x)) x (.ins C dx fs)) H') : Same H H' := fun b o e => by
  have n1 : b ≠ x := fun z => by
    rw [z, nx] at e
    cases e
  have n2 : b ≠ dx := fun z => by
    rw [z, nd] at e
    cases e
  refine kp _ _ n1 ?_
  rw [upd_ne n1, upd_ne n2]
  exact e
section
variable {P : Program} {w : World} {K : PySem.W.Frag} {mg : Str → Option Value} {base : Heap}
/-- C(..), as a def calls it, that raises nothing -/
structure Made (P : Program) (w : World) (K : PySem.W.Frag) (mg : Str → Option Value) (base : Heap) (x : Str) (k : Nat) (ps : List Str) (sp : Sp) (C f : Addr) (fd : FuncData) : Prop where
  M : Mk K C f
  G : FnOk P w K mg base CX0 k f fd ps sp
  g : mg x = some (.ref C)
  b : Binds K fd ps []
/-- x.m(..), as a def calls it -/
structure Mth (P : Program) (w : World) (K : PySem.W.Frag) (mg : Str → Option Value) (base : Heap) (C : Addr) (m : Str) (k : Nat) (ps : List Str) (sp : Sp) (f : Addr) (fd : FuncData) : Prop where
  c : Cls K C
  m : Meth K C m f
  G : FnOk P w K mg base CX0 k f fd ps sp
  b : Binds K fd ps []
/-- bool(x), if x: .., as a def asks it -/
structure Bol (P : Program) (w : World) (K : PySem.W.Frag) (mg : Str → Option Value) (base : Heap) (C : Addr) (k : Nat) (sp : Sp) (f : Addr) (fd : FuncData) : Prop where
  M : BoolC K C f
  G : FnOk P w K mg base CX0 k f fd ["self"] sp
  b : Binds K fd ["self"] []
end
/-- an __init__ that only stores its arguments -/
def spStore (C : Addr) (names : List Str) : Sp := fun vs H Q _ => ∃ x dx xs, vs = .ref x :: xs ∧ xs.length = names.length ∧ H x = some (.ins C dx []) ∧ ∀ H', Keep x H H' → H' x = some (.ins C dx (names.zip xs)) → Q .non H'
end My
/-! ### a try with several clauses, each 'except x as n' -/
namespace L2
open PySem PySem.Spec PyProof.Rows
abbrev ClauseT := Value × (Addr → Value → Option Addr → TS)
/-- what the clauses wish of an exception of the body -/
def wCls (K : PySem.W.Frag) (i : Nat) (Wz : WX) (D : Ends) : List ClauseT → WX
  | [] => Wz
  | z :: r => wAs K z.1 i z.2 (wCls K i Wz D r) D
inductive ClsN (X : Cx) (n : Str) : List ExceptHandler → List ClauseT → Prop
  | nil : ClsN X n [] []
  | cons {x : Str} {c : Value} {tr : Addr → Value → Option Addr → TS} {b1 : Stmt} {bs : List Stmt} {pn pc : Pos} {hz : List ExceptHandler} {l : List ClauseT} (nm : Names X x c)
      (rd : ∀ (a : Addr) (oe : Obj) (cls : Value) (d : Option Addr) (pins : List (Addr × Obj)), Zc cls d oe → (∃ fv, oe.data = .fields fv) → PSs (X.suite a ((a, oe) :: pins)) (b1 :: bs) (tr a cls d)) (r : ClsN X n hz l) :
      ClsN X n (.ExceptHandler (some (.Name x pn)) (some n) (b1 :: bs) pc :: hz) ((c, tr) :: l)
section
variable {X : Cx} {n : Str} {i : Nat} {bd : List Stmt} {h1 : ExceptHandler} {hz : List ExceptHandler} {l : List ClauseT} {tpos : Pos} {tb : WX → TS} {Wz : WX}
theorem ps_try_named (st : X.stack = X.env :: X.outer) (fr : X.env.frame = some X.env.locals) (nd : X.N.Nodup) (at_ : X.N[i]? = some n) (kd : X.env.kindOf n = some .local) (tk : Takes X Wz)
    (rb : ∀ (W : WX) (pins : List (Addr × Obj)) (xe : Value → Shared → Prop), Takes (X.tr pins xe) W → PassesOwn (model X.prog X.w) X.A X.env xe → PSs (X.tr pins xe) bd (tb W))
    (cl : ClsN X n (h1 :: hz) l) : PS X (.Try bd (h1 :: hz) [] [] tpos) (fun D σ H => tb (wCls X.K i Wz D l) D σ H) := by
  refine ⟨fun pins s σ H D I wish => ?_⟩
  have okI := I.ok
  have frs_ : X.A.frames = some (X.env :: X.outer) := by rw [okI.frames, st]
  have isLoc : Loc X.env.scope n := .inl kd
  refine wpAny_Try_except (wpAny_mono ((rb (wCls X.K i Wz D l) (X.pn ++ pins) (fun e s1 => wpAny (model X.prog X.w) X.A (noteFrame e X.env) (fun _ s2 => wpAny (model X.prog X.w) X.A (setFlight e none) (fun _ s3 =>
    wpAny (model X.prog X.w) X.A (handleBy e X.env (h1 :: hz)) (SP X pins D) X.xe s3) X.xe s2) X.xe s1) (fun u z xx => ?_) PassesOwn.looking).run [] s σ H D (I.toTry _) wish) (fun f z sp => ?_) (fun _ _ q => q))
  · obtain ⟨a, B, sI, pinz, σz, Hz, cls, d, rfl, Jz, big, up, sky, new, oz, ag, w⟩ := xx
    have J : Inv X pins σz Hz sI := Jz.ofTry okI
    have skz : Sky B (X.env :: X.outer) a (Zc cls d) X.env.locals z.heap := by
      rw [← st]
      exact sky
    show wpAny (model X.prog X.w) X.A (noteFrame (.ref a) X.env) _ _ _
    refine Sky.land Zc.steady frs_ fr skz fun g fg upg => ?_
    have Jg : Inv X pins σz Hz { z with heap := g } := J.landed big fg.1 (up.trans upg) oz ag
    obtain ⟨og, vg, eg, zg, dg⟩ := fg.there
    have offs : ∀ {h : Heap} {o : Obj} {fv : Array Value}, h.FunFrames B (X.env :: X.outer) → h.get? a = some o → o.data = .fields fv → a ∉ frs (X.env :: X.outer) := fun {h o fv} ff e dd hm => by
      obtain ⟨_, o2, e2, no⟩ := ff.mem hm
      rw [e] at e2
      cases e2
      exact no _ dd
    have off := offs fg.2.2.1 eg dg
    have offL : a ≠ X.env.locals := fun q => off (List.mem_filterMap.mpr ⟨X.env, List.mem_cons_self, by rw [fr, q]⟩)
    have offF : a ∉ X.fs := fun hm => by
      obtain ⟨e, me, q⟩ := List.mem_filterMap.mp hm
      exact off (List.mem_filterMap.mpr ⟨e, List.mem_cons_of_mem _ me, q⟩)
    have Sg := Jg.suite eg dg new offL offF
    have walk : ∀ {hs : List ExceptHandler} {m : List ClauseT}, ClsN X n hs m → wCls X.K i Wz D m cls d σz Hz → wpAny (model X.prog X.w) X.A (handleBy (.ref a) X.env hs) (SP X pins D) X.xe { z with heap := g } := by
      intro hs m cm
      induction cm with
      | nil =>
        intro wz
        refine wpAny_handleBy_nil ?_
        obtain ⟨_, _, _, oe, fv, T, _, _, ge, _, gd, g1, _⟩ := id fg
        unfold PySem.passOn
        refine wpAny_bind (wpAny_field ge gd g1 ?_)
        rw [if_neg (show ¬ ((Value.ref T == Value.none) = true) from by simp)]
        have last : wpAny (model X.prog X.w) X.A (setFlight (.ref a) X.env.frame) (fun _ z4 => wpAny (model X.prog X.w) X.A (throw (.ref a) : Sem Flow) (SP X pins D) X.xe z4) X.xe { z with heap := g } := by
          rw [fr]
          refine HandSPX.setFlight_upZ fg fun g4 held up4 => wpAny_throw (tk _ _ ?_)
          exact ⟨a, B, sI, pins, σz, Hz, cls, d, rfl, J, big, (up.trans upg).trans up4, .inr (.inr (by rw [st]; exact held)), new, oz, ag, wz⟩
        first
          | exact wpAny_bind (wpAny_pure (wpAny_bind last))
          | exact wpAny_bind last
      | @cons x c tr b1 bs pn pc hz2 l2 nm rd _ ih =>
        intro wz
        obtain ⟨b, isb, yes, no⟩ := wz
        refine wpAny_handleBy_cons (codeAny_handlers_test ?_) (by intro q; cases q)
        have seen : PySem.W.Looks (model X.prog X.w) g (typeOf (.ref a)) cls := fun A Q E s2 k q => wpAny_typeOf_ref (k _ _ eg) (by rw [zg.1]; exact q)
        have told := PySem.W.exm_one (M := model X.prog X.w) (Jg.kIn) seen isb
        have named : ∀ {Q : Value → Shared → Prop} {E : Value → Shared → Prop}, Q c { z with heap := g } → wpAny (model X.prog X.w) (X.A.mark (some (.ref a))) (eval (.Name x pn) X.env) Q E { z with heap := g } := fun {Q E} q => by
          obtain ⟨gl, db, hm | ⟨hm, hv, nn⟩⟩ := nm
          · exact ld_glob (X := X.suite a ((a, og) :: (X.pn ++ pins))) Sg gl hm q db
          · exact ld_blt (X := X.suite a ((a, og) :: (X.pn ++ pins))) Sg gl hm hv q nn db
        refine named (told.here ?_)
        cases b with
        | true =>
          refine codeAny_handlers_suite_as (HandSPX.lands_againZ fg fun g4 fg4 up4 => ?_)
          have J4 : Inv X pins σz Hz { z with heap := g4 } := J.landed big fg4.1 ((up.trans upg).trans up4) oz ag
          obtain ⟨o4, v4, e4, z4, d4⟩ := fg4.there
          refine store_ok (X := X.suite a ((a, o4) :: (X.pn ++ pins))) (v := .ref a) (J4.suite e4 d4 new offL offF) nd at_ isLoc rfl (fun z5 S5 => ?_) (.inr kd)
          refine wpAny_mono ((rd a o4 cls d (X.pn ++ pins) z4 ⟨_, d4⟩).run [] z5 _ Hz _ S5 (yes rfl a new)) (fun f z6 sp => ?_) (fun _ _ q => False.elim q)
          have fin : ∀ {σ6 : St} {H6 : Hp} {Q : Shared → Prop}, Inv (X.suite a ((a, o4) :: (X.pn ++ pins))) [] σ6 H6 z6 → (∀ z7, Inv X pins (σ6.set i none) H6 z7 → Q z7) →
              wpAny (model X.prog X.w) X.A (do bindName X.env n .none; unbindBehindTheSuite X.env n pc) (fun _ z7 => Q z7) X.xe z6 := fun {σ6 H6 Q} S6 hq => gone_ok (S6.unsuite okI) nd at_ kd hq
          match f, sp with
          | .next, ⟨_, _, S6, q6⟩ => exact fin S6 fun _ J7 => ⟨_, _, J7, q6⟩
          | .brk, ⟨_, _, S6, q6⟩ => exact fin S6 fun _ J7 => ⟨_, _, J7, q6⟩
          | .cont, ⟨_, _, S6, q6⟩ => exact fin S6 fun _ J7 => ⟨_, _, J7, q6⟩
          | .ret u, ⟨_, _, _, S6, r6, q6⟩ => exact fin S6 fun _ J7 => ⟨_, _, _, J7, r6, q6⟩
        | false =>
          show wpAny _ X.A (handleBy (.ref a) X.env hz2) _ _ _
          exact ih (no rfl)
    exact walk cl w
  · match f, sp with
    | .next, ⟨_, _, Jz, q⟩ => exact wpAny_execs_nil ⟨_, _, Jz.ofTry okI, q⟩
    | .brk, ⟨_, _, Jz, q⟩ => exact ⟨_, _, Jz.ofTry okI, q⟩
    | .cont, ⟨_, _, Jz, q⟩ => exact ⟨_, _, Jz.ofTry okI, q⟩
    | .ret u, ⟨_, _, _, Jz, r, q⟩ => exact ⟨_, _, _, Jz.ofTry okI, r, q⟩
end
end L2
/-! ### bool(x) of what the program's own __bool__ tells; chains of three comparisons -/
namespace L2
open PySem PySem.Spec PyProof.Rows
theorem meets_boolT {prog : Program} {w : World} {x : Value} : MeetsIn prog w (Builtin.«bool.__new__» ⟨[.type "bool", x], []⟩) (fun A R s => wpAny (model prog w) A.in1 (truthy x) (fun b s' => R (.ok (.ret (.bool b))) s') (fun e s' => R (.error e) s') s) :=
  .of_wp fun A R s h => by
    have f1 := F.conv_sub_bool
    repeat (any_goals (first | assumption | (with_reducible refine wpAny_mono h (fun b z hz => ?_) (fun e z hz => ?_)) | wp_step))
    all_goals first | exact ⟨_, rfl, hz⟩ | exact hz | skip
section
variable {X : Cx} {C f : Addr} {fd : FuncData} {ps : List Str} {sp : Sp} {CX : CXT} {E : XK} {n : Nat}
def rBoolI (C : Addr) (sp : Sp) (E : XK) : List V → Hp → VK → Prop := fun xs H Q => ∃ a dx fs, xs = [.ref a] ∧ H a = some (.ins C dx fs) ∧ sp xs H (fun v H' => ∃ b, v = .bl b ∧ Q (.bl b) H') E
theorem call_boolI (M : BoolC X.K C f) (G : FnOk X.prog X.w X.K X.mg X.base CX n f fd ps sp) (hb : Binds X.K fd ps []) (hx : Passes CX X E) (hr : Room (n + 2) X.A) : CallR X (.type "bool") (rBoolI C sp E) := by
  intro pins s σ H xs us Q I r h
  obtain ⟨a, dx, fs, rfl, ha, q⟩ := h
  rw [Vals.ref1 r]
  obtain ⟨mA, J, _⟩ := ins_get I.hok ha
  obtain ⟨od, J, _⟩ := J.look
  obtain ⟨m, hF⟩ := I.fr
  refine callType_newIn F.called_bool F.newNe_bool (F.typeCall_bool_1 _) (F.newCall_bool_1 _) (fun obj => F.args_object_init_2 obj _) F.entry_bool_new meets_boolT ?_
  refine PySem.W.truthy_K hF I.ok.mod.kin J M.eq M.fn ?_
  refine wpAny_mono (call_one G hb hx hr.in1.in1 rfl I (x := .ref a) rfl q) (fun w s' z => ?_) fun _ _ e => e
  obtain ⟨_, H', I', rz, k, rfl, qk⟩ := z
  cases (show w = .bool k from rz)
  exact ⟨rfl, .bl k, H', I', rfl, qk⟩
theorem call_either {v : Value} {r1 r2 : List V → Hp → VK → Prop} (h1 : CallR X v r1) (h2 : CallR X v r2) : CallR X v (fun xs H Q => r1 xs H Q ∨ r2 xs H Q) := fun pins s σ H xs us Q I r h => h.elim (h1 pins s σ H xs us Q I r) (h2 pins s σ H xs us Q I r)
/-- a op1 b op2 c op3 d -/
def tChain3 (r1 r2 r3 : R2) (ta tb tc td : TE) : TE := fun σ H Q => ta σ H fun x H1 => tb σ H1 fun y H2 => r1 x y H2 fun z H3 => ∃ k, z = .bl k ∧
  (if k = true then tc σ H3 fun u H4 => r2 y u H4 fun z5 H5 => ∃ k5, z5 = .bl k5 ∧ (if k5 = true then td σ H5 fun v H6 => r3 u v H6 Q else Q (.bl false) H5) else Q (.bl false) H3)
theorem pe_chain3 {o1 o2 o3 : CmpOp} {r1 r2 r3 : R2} {a b c d : Expr} {ta tb tc td : TE} {pos : Pos} (h1 : OpR X (compareOp o1) r1) (h2 : OpR X (compareOp o2) r2) (h3 : OpR X (compareOp o3) r3) (ha : PE X a ta) (hb : PE X b tb) (hc : PE X c tc) (hd : PE X d td)
    (marks : lastMarks [o1, o2, o3] [b, c, d] = false := by with_unfolding_all rfl) : PE X (.Compare a [o1, o2, o3] [b, c, d] pos) (tChain3 r1 r2 r3 ta tb tc td) := by
  refine ⟨fun pins s σ H Q I wish => ?_⟩
  refine Compare_chain (thn (ha.run pins s σ H _ I wish) fun v1 s1 ⟨x, H1, I1, m1, q1⟩ => chain_link (thn (hb.run pins s1 σ H1 _ I1 q1) fun v2 s2 ⟨y, H2, I2, m2, q2⟩ => thn (h1 pins s2 σ H2 x y v1 v2 _ I2 m1 m2 q2) fun _ s3 ⟨z3, H3, I3, m3, k, e3, q3⟩ => ?_)) marks
  subst e3
  cases m3
  cases k with
  | false => exact wpAny_truthy_bool (ite_ff ⟨.bl false, H3, I3, rfl, q3⟩)
  | true =>
    refine wpAny_truthy_bool (ite_tt (chain_link (thn (hc.run pins s3 σ H3 _ I3 q3) fun v4 s4 ⟨u, H4, I4, m4, q4⟩ => thn (h2 pins s4 σ H4 y u v2 v4 _ I4 m2 m4 q4) fun _ s5 ⟨z5, H5, I5, m5, k5, e5, q5⟩ => ?_)))
    subst e5
    cases m5
    cases k5 with
    | false => exact wpAny_truthy_bool (ite_ff ⟨.bl false, H5, I5, rfl, q5⟩)
    | true => exact wpAny_truthy_bool (ite_tt (chain_last (thn (hd.run pins s5 σ H5 _ I5 q5) fun v6 s6 ⟨v, H6, I6, m6, q6⟩ => h3 pins s6 σ H6 u v v4 v6 Q I6 m4 m6 q6)))
/-! ### == by an own __eq__ against an instance of another class -/
def rEqO (K : PySem.W.Frag) (C : Addr) (sp : Sp) (E : XK) : R2 := fun x y H Q => ∃ a dx fs b D dy gs, x = .ref a ∧ H a = some (.ins C dx fs) ∧ y = .ref b ∧ H b = some (.ins D dy gs) ∧ PySem.W.notFirst K C (.ref D) = true ∧ sp [x, y] H (fun v H' => ∃ k, v = .bl k ∧ Q (.bl k) H') E
theorem op_eqO (M : EqC X.K C f) (G : FnOk X.prog X.w X.K X.mg X.base CX n f fd ps sp) (hb : Binds X.K fd ps []) (hx : Passes CX X E) (hr : Room n X.A) : OpR X (compareOp .Eq) (rEqO X.K C sp E) := by
  intro pins s σ H x y u v Q I rx ry h
  obtain ⟨a, dx, fs, b, D, dy, gs, rfl, ha, rfl, hb', nf, q⟩ := h
  cases rx
  cases ry
  obtain ⟨mA, J, _⟩ := ins_get I.hok ha
  obtain ⟨od, J, _⟩ := J.look
  obtain ⟨mB, J2, _⟩ := ins_get I.hok hb'
  obtain ⟨od2, J2, _⟩ := J2.look
  obtain ⟨m, hF⟩ := I.fr
  refine PySem.W.cmp_K (op := .Eq) hr.units0 hF I.ok.mod.kin J J2.type nf M.eq M.fn ?_
  refine wpAny_mono (eq_call G hb hx hr rfl I (x := .ref a) (y := .ref b) rfl rfl q) (fun w s' z => ?_) fun _ _ e => e
  obtain ⟨_, H', I', rz, k, rfl, qk⟩ := z
  cases (show w = .bool k from rz)
  exact ⟨.bl k, H', I', rfl, qk⟩
theorem op_either {op : Value → Value → Sem Value} {r1 r2 : R2} (h1 : OpR X op r1) (h2 : OpR X op r2) : OpR X op (fun x y H Q => r1 x y H Q ∨ r2 x y H Q) := fun pins s σ H x y u v Q I rx ry h => h.elim (h1 pins s σ H x y u v Q I rx ry) (h2 pins s σ H x y u v Q I rx ry)
end
/-! ### a def whose code object is known -/
section
variable {P : Program} {w : World} {K : PySem.W.Frag} {mg : Str → Option Value} {base : Heap}
/-- as Fun, its code object at cd -/
structure FunC (K : PySem.W.Frag) (x qual : Str) (st : Stmt) (cd : Addr) (f : Addr) (fd : FuncData) : Prop where
  ex : ∃ (oc : Value) (od : Option Addr) (kV doc pm : Value) (an : Option Addr) (ct : Value) (sl : Array (Option Value)),
    fd = PySem.W.fnOf x qual (defArgs st) (defBody st) (defScope st) .none kV doc pm an (.ref cd) ct ∧ K.lookup f = some ⟨oc, od, .func fd, sl⟩ ∧ PySem.W.codeIn K (.ref cd) qual = true
theorem FunC.ok {x qual : Str} {st : Stmt} {cd f : Addr} {fd : FuncData} {N ps : List Str} {k : Nat} {sp : Sp} (F : FunC K x qual st cd f fd) (S : FnScope N ps (defScope st)) (len : ∀ vs H Q E, sp vs H Q E → vs.length = ps.length)
    (body : ∀ (A : Around) (outer : List Env) (s : Shared) (H : Hp) (vs : List V) (Q : VK) (E : XK), Room k (A.deeper (envOfC qual (defScope st) s.heap.objs.size f (.ref cd))) → sp vs H Q E →
      ∃ t, PSs (cxOf CX0 P w K mg base N qual (defScope st) f (.ref cd) A outer s H E).nox (defBody st) t ∧ t { nx := fun _ H' => Q .non H', rt := Q } (start N vs) H) : FnOk P w K mg base CX0 (k + 1) f fd ps sp := by
  obtain ⟨oc, od, kV, doc, pm, an, ct, sl, rfl, lk, hcd⟩ := F.ex
  refine fn_of lk hcd S len fun A outer s H vs Q E hr wish => ?_
  obtain ⟨t, h, q⟩ := body A outer s H vs Q E hr wish
  exact ⟨t, h.nox, q⟩
end
end L2
/-! rows of numbers and rounded lines: the mathematics -/
namespace M50
/-- the simplest fraction p / q between l and h (if there is one) -/
structure Best (l : Int × Int) (h : Option (Int × Int)) (p q : Int) : Prop where
  q1 : 1 ≤ q
  lo : l.1 * q < p * l.2
  hi : ∀ r, h = some r → p * r.2 < r.1 * q
  least : ∀ p' q', 1 ≤ q' → l.1 * q' < p' * l.2 → (∀ r, h = some r → p' * r.2 < r.1 * q') → q ≤ q' ∧ (q' = q → p ≤ p') ∧ (0 ≤ l.1 → p ≤ p')
theorem le_of_mul {a b c : Int} (hc : 0 < c) (h : a * c ≤ b * c) : a ≤ b := Int.le_of_mul_le_mul_right h hc
theorem lt_of_mul {a b c : Int} (hc : 0 < c) (h : a * c < b * c) : a < b := Int.lt_of_mul_lt_mul_right h (Int.le_of_lt hc)
theorem pos_of_mul {a c : Int} (hc : 0 < c) (h : 0 < a * c) : 0 < a := lt_of_mul hc (by rw [Int.zero_mul]; exact h)
theorem best_base {l : Int × Int} {h : Option (Int × Int)} (hl : 0 < l.2) (hh : ∀ r, h = some r → (l.1 / l.2 + 1) * r.2 < r.1) : Best l h (l.1 / l.2 + 1) 1 := by
  have k1 := Int.ediv_mul_le l.1 (show l.2 ≠ 0 by omega)
  have k2 := Int.lt_ediv_add_one_mul_self l.1 hl
  generalize l.1 / l.2 = w at *
  refine ⟨by omega, by omega, fun r e => by rw [Int.mul_one]; exact hh r e, fun p' q' h1 h2 _ => ⟨h1, fun e => ?_, fun h0 => ?_⟩⟩
  · subst e
    have : w * l.2 < p' * l.2 := by omega
    have := lt_of_mul hl this
    omega
  · have w0 : -1 < w := by
      have : -1 * l.2 < w * l.2 := by
        have : (w + 1) * l.2 = w * l.2 + l.2 := by grind
        omega
      exact lt_of_mul hl this
    have a1 : w * l.2 * q' ≤ l.1 * q' := Int.mul_le_mul_of_nonneg_right k1 (by omega)
    have a2 : (w * q') * l.2 < p' * l.2 := by
      have e : w * l.2 * q' = (w * q') * l.2 := by grind
      omega
    have a3 := lt_of_mul hl a2
    have a4 : w * 1 ≤ w * q' := Int.mul_le_mul_of_nonneg_left h1 (by omega)
    omega
/-- the numbers beyond the whole part, turned over -/
def nextL (w : Int) (h : Int × Int) : Int × Int := (h.2, h.1 - w * h.2)
def nextH (w : Int) (l : Int × Int) : Option (Int × Int) := if l.1 - w * l.2 = 0 then none else some (l.2, l.1 - w * l.2)
theorem step_pos {l h : Int × Int} (hl : 0 < l.2) (hh : 0 < h.2) (lt : l.1 * h.2 < h.1 * l.2) : 0 < h.1 - l.1 / l.2 * h.2 := by
  have k1 := Int.ediv_mul_le l.1 (show l.2 ≠ 0 by omega)
  generalize l.1 / l.2 = w at *
  have a1 : w * l.2 * h.2 ≤ l.1 * h.2 := Int.mul_le_mul_of_nonneg_right k1 (by omega)
  have a2 : 0 < (h.1 - w * h.2) * l.2 := by
    have e : (h.1 - w * h.2) * l.2 = h.1 * l.2 - w * l.2 * h.2 := by grind
    omega
  exact pos_of_mul hl a2
theorem best_step {l h : Int × Int} (hl : 0 < l.2) (hh : 0 < h.2) (lt : l.1 * h.2 < h.1 * l.2) {P Q : Int} (b : Best (nextL (l.1 / l.2) h) (nextH (l.1 / l.2) l) P Q) : Best l (some h) (l.1 / l.2 * P + Q) P := by
  have k1 := Int.ediv_mul_le l.1 (show l.2 ≠ 0 by omega)
  have k2 := Int.lt_ediv_add_one_mul_self l.1 hl
  have kp := step_pos hl hh lt
  generalize l.1 / l.2 = w at *
  obtain ⟨q1, lo, hi, least⟩ := b
  unfold nextL at lo least
  dsimp only at lo least
  have r0 : 0 ≤ l.1 - w * l.2 := by omega
  have P0 : 0 < P := by
    have : 0 < P * (h.1 - w * h.2) := by
      have : 0 < h.2 * Q := Int.mul_pos hh (by omega)
      omega
    exact pos_of_mul kp this
  have hi' : P * (l.1 - w * l.2) < l.2 * Q := by
    by_cases z : l.1 - w * l.2 = 0
    · rw [z, Int.mul_zero]
      exact Int.mul_pos hl (by omega)
    · have := hi (l.2, l.1 - w * l.2) (by unfold nextH; rw [if_neg z])
      exact this
  refine ⟨by omega, ?_, fun r e => ?_, fun p' q' h1 h2 h3 => ?_⟩
  · grind
  · cases e
    grind
  · have h3 := h3 h rfl
    have u0 : 0 < p' - w * q' := by
      have a1 : w * l.2 * q' ≤ l.1 * q' := Int.mul_le_mul_of_nonneg_right k1 (by omega)
      have a2 : 0 < (p' - w * q') * l.2 := by
        have e : (p' - w * q') * l.2 = p' * l.2 - w * l.2 * q' := by grind
        omega
      exact pos_of_mul hl a2
    have z := least q' (p' - w * q') (by omega) (by grind) (fun r e => by
      unfold nextH at e
      split at e
      · cases e
      · cases e
        dsimp only
        grind)
    have z3 := z.2.2 (by omega)
    refine ⟨z3, fun e => ?_, fun l0 => ?_⟩
    · subst e
      have := z.1
      omega
    · have w0 : 0 ≤ w := by
        have : -1 * l.2 < w * l.2 := by
          have : (w + 1) * l.2 = w * l.2 + l.2 := by grind
          omega
        have := lt_of_mul hl this
        omega
      have a4 : w * P ≤ w * q' := Int.mul_le_mul_of_nonneg_left z3 w0
      have := z.1
      omega
/-- small numbers, the least not below 0 -/
def Small (l : Int × Int) (h : Option (Int × Int)) : Prop := 0 ≤ l.1 ∧ l.1 ≤ 1000 ∧ 0 < l.2 ∧ l.2 ≤ 1000 ∧ ∀ r, h = some r → 0 < r.1 ∧ r.1 ≤ 1000 ∧ 0 < r.2 ∧ r.2 ≤ 1000 ∧ l.1 * r.2 < r.1 * l.2
theorem Best.small {l : Int × Int} {h : Option (Int × Int)} {p q : Int} (s : Small l h) (b : Best l h p q) : 0 < p ∧ p ≤ 2000 ∧ q ≤ 2000 := by
  obtain ⟨s1, s2, s3, s4, s5⟩ := s
  have p0 : 0 < p := by
    have := Int.mul_nonneg s1 (show 0 ≤ q by have := b.q1; omega)
    have := b.lo
    exact pos_of_mul s3 (by omega)
  refine ⟨p0, ?_⟩
  cases h with
  | none =>
    have z := b.least (l.1 + 1) 1 (by omega) (by
      have : 1 * (l.1 + 1) ≤ l.2 * (l.1 + 1) := Int.mul_le_mul_of_nonneg_right (by omega) (by omega)
      grind) (fun r e => nomatch e)
    have := z.2.2 s1
    omega
  | some r =>
    obtain ⟨t1, t2, t3, t4, t5⟩ := s5 r rfl
    have z := b.least (l.1 + r.1) (l.2 + r.2) (by omega) (by grind) (fun r' e => by cases e; grind)
    have := z.2.2 s1
    omega
theorem Best.den {l h : Int × Int} {p q : Int} (l0 : 0 < l.2) (h0 : 0 < h.2) (lt : l.1 * h.2 < h.1 * l.2) (b : Best l (some h) p q) : q ≤ l.2 + h.2 :=
  (b.least (l.1 + h.1) (l.2 + h.2) (by omega) (by grind) (fun r' e => by cases e; grind)).1
/-- from one pair of ends to the next -/
def Step (a : (Int × Int) × Option (Int × Int)) (w : Int) (c : (Int × Int) × Option (Int × Int)) : Prop := (∀ P Q, Best c.1 c.2 P Q → Best a.1 a.2 (w * P + Q) P) ∧ Small c.1 c.2
def Steps : List Int → (Int × Int) × Option (Int × Int) → (Int × Int) × Option (Int × Int) → Prop
  | [], a, b => a = b
  | w :: ws, a, b => ∃ c, Step a w c ∧ Steps ws c b
theorem Steps.snoc : ∀ {ws : List Int} {a b c : (Int × Int) × Option (Int × Int)} {w : Int}, Steps ws a b → Step b w c → Steps (ws ++ [w]) a c
  | [], _, _, c, _, h, s => by
    cases h
    exact ⟨c, s, rfl⟩
  | _ :: _, _, _, _, _, ⟨d, h1, h2⟩, s => ⟨d, h1, Steps.snoc h2 s⟩
theorem Steps.last : ∀ {ws : List Int} {a c : (Int × Int) × Option (Int × Int)} {w : Int}, Steps (ws ++ [w]) a c → ∃ b, Steps ws a b ∧ Step b w c
  | [], a, c, _, ⟨d, h1, h2⟩ => by
    cases h2
    exact ⟨a, rfl, h1⟩
  | _ :: _, _, _, _, ⟨d, h1, h2⟩ => by
    obtain ⟨b, h3, h4⟩ := Steps.last h2
    exact ⟨b, ⟨d, h1, h3⟩, h4⟩
theorem step_of {l h : Int × Int} (hl : 0 < l.2) (l1 : l.2 ≤ 1000) (hh : 0 < h.2) (h1 : h.2 ≤ 1000) (lt : l.1 * h.2 < h.1 * l.2) (nb : ¬ (l.1 / l.2 + 1) * h.2 < h.1) :
    Step (l, some h) (l.1 / l.2) (nextL (l.1 / l.2) h, nextH (l.1 / l.2) l) := by
  refine ⟨fun P Q b => best_step hl hh lt b, ?_⟩
  have k1 := Int.ediv_mul_le l.1 (show l.2 ≠ 0 by omega)
  have k2 := Int.lt_ediv_add_one_mul_self l.1 hl
  have kp := step_pos hl hh lt
  generalize l.1 / l.2 = w at *
  have e1 : (w + 1) * h.2 = w * h.2 + h.2 := by grind
  have e2 : (w + 1) * l.2 = w * l.2 + l.2 := by grind
  unfold nextL nextH
  refine ⟨by dsimp only; omega, by dsimp only; omega, kp, by dsimp only; omega, fun r e => ?_⟩
  split at e
  · cases e
  · cases e
    dsimp only
    refine ⟨hl, l1, by omega, by omega, ?_⟩
    grind
/-! rows -/
/-- the slope a / m is strictly within the bounds of all pairs of places -/
def Fit (g : Nat → Int) (n : Nat) (a m : Int) : Prop := ∀ i j : Nat, i < j → j < n → (g j - g i - 1) * m < a * ((j : Int) - i) ∧ a * ((j : Int) - i) < (g j - g i + 1) * m
def Off (g : Nat → Int) (n : Nat) (a m b : Int) : Prop := (∀ x, x < n → m * g x - a * (x : Int) ≤ b) ∧ ∃ x, x < n ∧ b = m * g x - a * (x : Int)
def LeastFit (g : Nat → Int) (n : Nat) (a m : Int) : Prop := 1 ≤ m ∧ Fit g n a m ∧ ∀ a' m', 1 ≤ m' → Fit g n a' m' → m ≤ m' ∧ (m' = m → a ≤ a')
theorem line_ok {g : Nat → Int} {n : Nat} {a m b : Int} (hm : 1 ≤ m) (f : Fit g n a m) (o : Off g n a m b) {x : Nat} (hx : x < n) : (a * (x : Int) + b) / m = g x := by
  obtain ⟨o1, y, hy, rfl⟩ := o
  have h1 := o1 x hx
  rw [Int.ediv_eq_iff_of_pos (by omega)]
  refine ⟨by grind, ?_⟩
  rcases Nat.lt_trichotomy x y with h | h | h
  · have := (f x y h hy).1
    grind
  · subst h
    grind
  · have := (f y x h hx).2
    grind
theorem fit_of_line {g : Nat → Int} {n : Nat} {a m b : Int} (hm : 1 ≤ m) (h : ∀ x, x < n → (a * (x : Int) + b) / m = g x) : Fit g n a m := by
  intro i j hij hj
  have e1 := h i (by omega)
  have e2 := h j hj
  rw [Int.ediv_eq_iff_of_pos (by omega)] at e1 e2
  have := e1.1
  have := e1.2
  have := e2.1
  have := e2.2
  constructor <;> grind
theorem LeastFit.eq {g : Nat → Int} {n : Nat} {a m a' m' : Int} (h : LeastFit g n a m) (h' : LeastFit g n a' m') : m = m' ∧ a = a' := by
  have x := h.2.2 a' m' h'.1 h'.2.1
  have y := h'.2.2 a m h.1 h.2.1
  have e : m = m' := by omega
  have := x.2 e.symm
  have := y.2 e
  exact ⟨e, by omega⟩
theorem Off.eq {g : Nat → Int} {n : Nat} {a m b b' : Int} (h : Off g n a m b) (h' : Off g n a m b') : b = b' := by
  obtain ⟨h1, x, hx, e⟩ := h
  obtain ⟨h2, y, hy, e'⟩ := h'
  have := h1 y hy
  have := h2 x hx
  omega
/-- the greatest lower bound's pair, the least upper bound's pair -/
def LoAt (g : Nat → Int) (n i j : Nat) : Prop := i < j ∧ j < n ∧ ∀ i' j' : Nat, i' < j' → j' < n → ¬ (g j - g i - 1) * ((j' : Int) - i') < (g j' - g i' - 1) * ((j : Int) - i)
def UpAt (g : Nat → Int) (n i j : Nat) : Prop := i < j ∧ j < n ∧ ∀ i' j' : Nat, i' < j' → j' < n → ¬ (g j' - g i' + 1) * ((j : Int) - i) < (g j - g i + 1) * ((j' : Int) - i')
theorem mul3 {a b c d e f : Int} (hb : 0 < b) (hd : 0 < d) (hf : 0 < f) (h1 : a * d ≤ c * b) (h2 : c * f < e * d) : a * f < e * b := by
  have x : a * d * f ≤ c * b * f := Int.mul_le_mul_of_nonneg_right h1 (by omega)
  have y : c * f * b < e * d * b := Int.mul_lt_mul_of_pos_right h2 hb
  have z : (a * f) * d < (e * b) * d := by grind
  exact lt_of_mul hd z
theorem mul3' {a b c d e f : Int} (hb : 0 < b) (hd : 0 < d) (hf : 0 < f) (h1 : a * d < c * b) (h2 : c * f ≤ e * d) : a * f < e * b := by
  have x : a * d * f < c * b * f := Int.mul_lt_mul_of_pos_right h1 hf
  have y : c * f * b ≤ e * d * b := Int.mul_le_mul_of_nonneg_right h2 (by omega)
  have z : (a * f) * d < (e * b) * d := by grind
  exact lt_of_mul hd z
/-- between both pairs' bounds is within all bounds -/
theorem fit_iff {g : Nat → Int} {n i j k l : Nat} (lo : LoAt g n i j) (up : UpAt g n k l) {a m : Int} (hm : 1 ≤ m) :
    Fit g n a m ↔ (g j - g i - 1) * m < a * ((j : Int) - i) ∧ a * ((l : Int) - k) < (g l - g k + 1) * m := by
  obtain ⟨l1, l2, l3⟩ := lo
  obtain ⟨u1, u2, u3⟩ := up
  refine ⟨fun f => ⟨(f i j l1 l2).1, (f k l u1 u2).2⟩, fun ⟨h1, h2⟩ i' j' h h' => ⟨?_, ?_⟩⟩
  · have z := Int.not_lt.mp (l3 i' j' h h')
    exact mul3 (show 0 < (j' : Int) - i' by omega) (show 0 < (j : Int) - i by omega) (show 0 < m by omega) z h1
  · have z := Int.not_lt.mp (u3 i' j' h h')
    exact mul3' (show 0 < m by omega) (show 0 < (l : Int) - k by omega) (show 0 < (j' : Int) - i' by omega) h2 z
theorem leastFit_of {g : Nat → Int} {n i j k l : Nat} (lo : LoAt g n i j) (up : UpAt g n k l) {a m : Int} (b : Best (g j - g i - 1, (j : Int) - i) (some (g l - g k + 1, (l : Int) - k)) a m) : LeastFit g n a m := by
  refine ⟨b.q1, (fit_iff lo up b.q1).mpr ⟨b.lo, b.hi _ rfl⟩, fun a' m' h f => ?_⟩
  have ⟨f1, f2⟩ := (fit_iff lo up h).mp f
  have z := b.least a' m' h f1 (fun r e => by cases e; exact f2)
  exact ⟨z.1, z.2.1⟩
theorem noFit_of {g : Nat → Int} {n i j k l : Nat} (lo : LoAt g n i j) (up : UpAt g n k l) (h : ¬ (g j - g i - 1) * ((l : Int) - k) < (g l - g k + 1) * ((j : Int) - i)) : ¬ ∃ a m, 1 ≤ m ∧ Fit g n a m := by
  rintro ⟨a, m, hm, f⟩
  have ⟨f1, f2⟩ := (fit_iff lo up hm).mp f
  exact h (mul3' (show 0 < (j : Int) - i by have := lo.1; omega) (show 0 < m by omega) (show 0 < (l : Int) - k by have := up.1; omega) f1 (Int.le_of_lt f2))
/-! of some pairs -/
def LoB (g : Nat → Int) (S : Nat → Nat → Prop) (i j : Nat) : Prop := ∀ i' j' : Nat, S i' j' → ¬ (g j - g i - 1) * ((j' : Int) - i') < (g j' - g i' - 1) * ((j : Int) - i)
def UpB (g : Nat → Int) (S : Nat → Nat → Prop) (i j : Nat) : Prop := ∀ i' j' : Nat, S i' j' → ¬ (g j' - g i' + 1) * ((j : Int) - i) < (g j - g i + 1) * ((j' : Int) - i')
/-- the pairs up to a place -/
def Upto (t u i j : Nat) : Prop := i < j ∧ (j < t ∨ (j = t ∧ i < u))
theorem upto_next {t u i j : Nat} (h : Upto t (u + 1) i j) : Upto t u i j ∨ (i = u ∧ j = t) := by
  unfold Upto at *
  omega
theorem LoB.stay {g : Nat → Int} {t u i j : Nat} (h : LoB g (Upto t u) i j) (n : ¬ (g j - g i - 1) * ((t : Int) - u) < (g t - g u - 1) * ((j : Int) - i)) : LoB g (Upto t (u + 1)) i j := fun i' j' s => by
  rcases upto_next s with z | ⟨rfl, rfl⟩
  · exact h i' j' z
  · exact n
theorem LoB.move {g : Nat → Int} {t u i j : Nat} (hij : i < j) (hut : u < t) (h : LoB g (Upto t u) i j) (n : (g j - g i - 1) * ((t : Int) - u) < (g t - g u - 1) * ((j : Int) - i)) : LoB g (Upto t (u + 1)) u t := fun i' j' s => by
  rcases upto_next s with z | ⟨rfl, rfl⟩
  · have k := Int.not_lt.mp (h i' j' z)
    have := mul3 (show 0 < (j' : Int) - i' by have := z.1; omega) (show 0 < (j : Int) - i by omega) (show 0 < (t : Int) - u by omega) k n
    omega
  · omega
theorem UpB.stay {g : Nat → Int} {t u i j : Nat} (h : UpB g (Upto t u) i j) (n : ¬ (g t - g u + 1) * ((j : Int) - i) < (g j - g i + 1) * ((t : Int) - u)) : UpB g (Upto t (u + 1)) i j := fun i' j' s => by
  rcases upto_next s with z | ⟨rfl, rfl⟩
  · exact h i' j' z
  · exact n
theorem UpB.move {g : Nat → Int} {t u i j : Nat} (hij : i < j) (hut : u < t) (h : UpB g (Upto t u) i j) (n : (g t - g u + 1) * ((j : Int) - i) < (g j - g i + 1) * ((t : Int) - u)) : UpB g (Upto t (u + 1)) u t := fun i' j' s => by
  rcases upto_next s with z | ⟨rfl, rfl⟩
  · have k := Int.not_lt.mp (h i' j' z)
    have := mul3' (show 0 < (t : Int) - u by omega) (show 0 < (j : Int) - i by omega) (show 0 < (j' : Int) - i' by have := z.1; omega) n k
    omega
  · omega
theorem upto_row {t i j : Nat} (h : Upto (t + 1) 0 i j) : Upto t t i j := by
  unfold Upto at *
  omega
/-- raised by s at each place -/
theorem fit_raise {g h : Nat → Int} {n : Nat} {s : Int} (e : ∀ x, x < n → h x = s * (x : Int) + g x) {a m : Int} : Fit h n (a + s * m) m ↔ Fit g n a m := by
  constructor
  · intro f i j hij hj
    have := f i j hij hj
    rw [e i (by omega), e j hj] at this
    constructor <;> grind
  · intro f i j hij hj
    have := f i j hij hj
    rw [e i (by omega), e j hj]
    constructor <;> grind
theorem leastFit_raise {g h : Nat → Int} {n : Nat} {s : Int} (e : ∀ x, x < n → h x = s * (x : Int) + g x) {a m : Int} (f : LeastFit g n a m) : LeastFit h n (a + s * m) m := by
  refine ⟨f.1, (fit_raise e).mpr f.2.1, fun a' m' h1 h2 => ?_⟩
  have z := f.2.2 (a' - s * m') m' h1 ((fit_raise e).mp (by rw [Int.sub_add_cancel]; exact h2))
  refine ⟨z.1, fun q => ?_⟩
  have := z.2 q
  subst q
  omega
theorem off_raise {g h : Nat → Int} {n : Nat} {s : Int} (e : ∀ x, x < n → h x = s * (x : Int) + g x) {a m b : Int} (o : Off g n a m b) : Off h n (a + s * m) m b := by
  obtain ⟨o1, x, hx, o2⟩ := o
  refine ⟨fun y hy => ?_, x, hx, ?_⟩
  · have := o1 y hy
    rw [e y hy]
    grind
  · rw [e x hx, o2]
    grind
/-! sums of a row of 0s and 1s -/
def psum (v : Nat → Int) : Nat → Int
  | 0 => 0
  | k + 1 => psum v k + v k
theorem psum_range {v : Nat → Int} {n : Nat} (hv : ∀ i, i < n → v i = 0 ∨ v i = 1) : ∀ {i j : Nat}, i ≤ j → j ≤ n → psum v i ≤ psum v j ∧ psum v j ≤ psum v i + ((j : Int) - i)
  | i, j, h, hj => by
    induction j with
    | zero =>
      have : i = 0 := by omega
      subst this
      omega
    | succ j ih =>
      by_cases e : i = j + 1
      · subst e
        omega
      · have z := ih (by omega) (by omega)
        have := hv j (by omega)
        show psum v i ≤ psum v j + v j ∧ psum v j + v j ≤ _
        omega
theorem spread_ok {v : Nat → Int} {n : Nat} (hv : ∀ i, i < n → v i = 0 ∨ v i = 1) (h1 : ∃ i, i < n ∧ v i = 1) {a m b : Int} (f : LeastFit (psum v) (n + 1) a m) (o : Off (psum v) (n + 1) a m b) : 1 ≤ a ∧ a ≤ m ∧ 0 ≤ b ∧ b ≤ m - 1 := by
  have m1 := f.1
  have a1 : 1 ≤ a := by
    obtain ⟨i, hi, e⟩ := h1
    have z := (f.2.1 i (i + 1) (by omega) (by omega)).1
    have e2 : psum v (i + 1) = psum v i + v i := rfl
    rw [e2, e] at z
    have : psum v i + 1 - psum v i - 1 = 0 := by omega
    rw [this, Int.zero_mul, show (((i + 1 : Nat) : Int) - i) = 1 by omega] at z
    omega
  have b0 : 0 ≤ b := by
    have := o.1 0 (by omega)
    have e : psum v 0 = 0 := rfl
    rw [e] at this
    omega
  have b1 : b ≤ m - 1 := by
    have z := line_ok m1 f.2.1 o (show 0 < n + 1 by omega)
    have e : psum v 0 = 0 := rfl
    rw [e, Int.ediv_eq_iff_of_pos (by omega)] at z
    omega
  refine ⟨a1, ?_, b0, b1⟩
  apply Int.not_lt.mp
  intro h
  have all1 : ∀ i, i < n → v i = 1 := fun i hi => by
    rcases hv i hi with e | e
    · have z := (f.2.1 i (i + 1) (by omega) (by omega)).2
      have e2 : psum v (i + 1) = psum v i + v i := rfl
      rw [e2, e, show (((i + 1 : Nat) : Int) - i) = 1 by omega] at z
      have : (psum v i + 0 - psum v i + 1) * m = m := by
        rw [show psum v i + 0 - psum v i + 1 = 1 by omega, Int.one_mul]
      omega
    · exact e
  have ps : ∀ k : Nat, k ≤ n → psum v k = k := fun k => by
    induction k with
    | zero => exact fun _ => rfl
    | succ k ih =>
      intro hk
      show psum v k + v k = _
      rw [ih (by omega), all1 k (by omega)]
      omega
  have fit1 : Fit (psum v) (n + 1) 1 1 := fun i j hij hj => by
    rw [ps i (by omega), ps j (by omega)]
    constructor <;> omega
  have z := f.2.2 1 1 (by decide) fit1
  have : m = 1 := by omega
  have := z.2 this.symm
  omega
theorem psum_zero {v : Nat → Int} {n : Nat} (h : ∀ i, i < n → v i = 0) : ∀ k : Nat, k ≤ n → psum v k = 0
  | 0, _ => rfl
  | k + 1, hk => by
    show psum v k + v k = 0
    rw [psum_zero h k (by omega), h k (by omega)]
    omega
end M50
/-! what evidence of rows says: the mathematics -/
namespace M50
theorem Best.eq {l : Int × Int} {h : Option (Int × Int)} {p q p' q' : Int} (b : Best l h p q) (b' : Best l h p' q') : p = p' ∧ q = q' := by
  have x := b.least p' q' b'.q1 b'.lo b'.hi
  have y := b'.least p q b.q1 b.lo b.hi
  have e : q' = q := by omega
  have := x.2.1 e
  have := y.2.1 e.symm
  omega
/-- the least number above l m, over m, is below h -/
def Btw (l h : Int × Int) (m : Int) : Prop := (l.1 * m / l.2 + 1) * h.2 < h.1 * m
instance (l h : Int × Int) (m : Int) : Decidable (Btw l h m) := inferInstanceAs (Decidable (_ < _))
theorem floor_lt {z c p : Int} (hc : 0 < c) (h : z < p * c) : z / c + 1 ≤ p := by
  have := Int.ediv_lt_of_lt_mul hc h
  omega
theorem lt_floor {z c : Int} (hc : 0 < c) : z < (z / c + 1) * c := Int.lt_ediv_add_one_mul_self z hc
theorem best_iff {l h : Int × Int} {a m : Int} (hl : 0 < l.2) (hh : 0 < h.2) : Best l (some h) a m ↔ 1 ≤ m ∧ (∀ m', 1 ≤ m' → m' < m → ¬ Btw l h m') ∧ Btw l h m ∧ l.1 * m / l.2 + 1 = a := by
  constructor
  · intro b
    have hi := b.hi h rfl
    have f1 := floor_lt hl b.lo
    have f2 : Btw l h m := by
      unfold Btw
      have : (l.1 * m / l.2 + 1) * h.2 ≤ a * h.2 := Int.mul_le_mul_of_nonneg_right f1 (by omega)
      omega
    refine ⟨b.q1, fun m' h1 h2 z => ?_, f2, ?_⟩
    · have := (b.least _ m' h1 (lt_floor hl) (fun r e => by cases e; exact z)).1
      omega
    · have := (b.least _ m b.q1 (lt_floor hl) (fun r e => by cases e; exact f2)).2.1 rfl
      omega
  · rintro ⟨m1, none, here, rfl⟩
    refine ⟨m1, lt_floor hl, fun r e => by cases e; exact here, fun p' q' h1 h2 h3 => ?_⟩
    have h3 := h3 h rfl
    have f1 := floor_lt hl h2
    have f2 : Btw l h q' := by
      unfold Btw
      have : (l.1 * q' / l.2 + 1) * h.2 ≤ p' * h.2 := Int.mul_le_mul_of_nonneg_right f1 (by omega)
      omega
    have f3 : m ≤ q' := by
      apply Classical.byContradiction
      intro z
      exact none q' h1 (by omega) f2
    refine ⟨f3, fun e => by rw [← e]; exact f1, fun l0 => ?_⟩
    have a1 : l.1 * m ≤ l.1 * q' := Int.mul_le_mul_of_nonneg_left f3 l0
    exact floor_lt hl (by omega)
/-- the line between: low is below high -/
theorem between_lt {l h : Int × Int} {a m : Int} (hl : 0 < l.2) (hh : 0 < h.2) (hm : 0 < m) (h1 : l.1 * m < a * l.2) (h2 : a * h.2 < h.1 * m) : l.1 * h.2 < h.1 * l.2 := mul3' hl hm hh h1 (Int.le_of_lt h2)
def PairOk (n : Nat) (i j : Int) : Prop := 0 ≤ i ∧ i < j ∧ j < n
instance (n : Nat) (i j : Int) : Decidable (PairOk n i j) := inferInstanceAs (Decidable (_ ∧ _))
def lowOf (g : Nat → Int) (i j : Int) : Int × Int := (g j.toNat - g i.toNat - 1, j - i)
def highOf (g : Nat → Int) (i j : Int) : Int × Int := (g j.toNat - g i.toNat + 1, j - i)
/-- what a Stairs says of a row -/
def IsShown (g : Nat → Int) (n : Nat) (a b m i j k q : Int) : Prop := (∀ x : Nat, x < n → (a * (x : Int) + b) / m = g x) ∧ PairOk n i j ∧ PairOk n k q ∧ Best (lowOf g i j) (some (highOf g k q)) a m ∧ Off g n a m b
/-- what a Crooked says of a row -/
def IsBent (g : Nat → Int) (n : Nat) (i j k q : Int) : Prop := PairOk n i j ∧ PairOk n k q ∧ ¬ (lowOf g i j).1 * (highOf g k q).2 < (highOf g k q).1 * (lowOf g i j).2
theorem lowOf_nat (g : Nat → Int) (i j : Nat) : lowOf g i j = (g j - g i - 1, (j : Int) - i) := by
  unfold lowOf
  rw [Int.toNat_natCast, Int.toNat_natCast]
theorem highOf_nat (g : Nat → Int) (i j : Nat) : highOf g i j = (g j - g i + 1, (j : Int) - i) := by
  unfold highOf
  rw [Int.toNat_natCast, Int.toNat_natCast]
theorem pair_nat {n i j : Nat} (h1 : i < j) (h2 : j < n) : PairOk n i j := ⟨by omega, by omega, by omega⟩
theorem shown_of {g : Nat → Int} {n i j k q : Nat} (lo : LoAt g n i j) (up : UpAt g n k q) {a b m : Int} (bst : Best (g j - g i - 1, (j : Int) - i) (some (g q - g k + 1, (q : Int) - k)) a m) (off : Off g n a m b) : IsShown g n a b m i j k q := by
  have lf := leastFit_of lo up bst
  refine ⟨fun x hx => line_ok lf.1 lf.2.1 off hx, pair_nat lo.1 lo.2.1, pair_nat up.1 up.2.1, ?_, off⟩
  rw [lowOf_nat, highOf_nat]
  exact bst
theorem bent_of {g : Nat → Int} {n i j k q : Nat} (lo : LoAt g n i j) (up : UpAt g n k q) (h : ¬ (g j - g i - 1) * ((q : Int) - k) < (g q - g k + 1) * ((j : Int) - i)) : IsBent g n i j k q := by
  refine ⟨pair_nat lo.1 lo.2.1, pair_nat up.1 up.2.1, ?_⟩
  rw [lowOf_nat, highOf_nat]
  exact h
theorem not_twice {g : Nat → Int} {n : Nat} {a b m i j k q t : Int} (s : IsShown g n a b m i j k q) : ¬ IsShown g n (a * 2) t (m * 2) i j k q := fun z => by
  have b1 := s.2.2.2.1
  have b2 := z.2.2.2.1
  have := b1.eq b2
  have := b1.q1
  omega
theorem not_raised {g : Nat → Int} {n : Nat} {a b m i j k q : Int} (s : IsShown g n a b m i j k q) : ¬ IsShown g n a (b + 1) m i j k q := fun z => by
  have := s.2.2.2.2.eq z.2.2.2.2
  omega
/-- what the line's own numbers tell of its slope -/
theorem slope_in {g : Nat → Int} {n : Nat} {a b m i j k q : Int} (m1 : 1 ≤ m) (line : ∀ x : Nat, x < n → (a * (x : Int) + b) / m = g x) (p1 : PairOk n i j) (p2 : PairOk n k q) :
    0 < (lowOf g i j).2 ∧ 0 < (highOf g k q).2 ∧ (lowOf g i j).1 * (highOf g k q).2 < (highOf g k q).1 * (lowOf g i j).2 := by
  obtain ⟨i0, ij, jn⟩ := p1
  obtain ⟨k0, kq, qn⟩ := p2
  have f := fit_of_line m1 line
  have f1 := (f i.toNat j.toNat (by omega) (by omega)).1
  have f2 := (f k.toNat q.toNat (by omega) (by omega)).2
  rw [Int.toNat_of_nonneg i0, Int.toNat_of_nonneg (show 0 ≤ j by omega)] at f1
  rw [Int.toNat_of_nonneg k0, Int.toNat_of_nonneg (show 0 ≤ q by omega)] at f2
  have a1 : 0 < (lowOf g i j).2 := by show 0 < j - i; omega
  have a2 : 0 < (highOf g k q).2 := by show 0 < q - k; omega
  exact ⟨a1, a2, between_lt a1 a2 (by omega) f1 f2⟩
end M50
namespace K14
open PySem PySem.Spec PyProof.Rows L2 My
/-! ### the text -/
def topS (i : Nat) : Stmt := PySem.Challenge.pw_pointorstrip_k14_whole_stairs.main.body.getD i (.Pass ⟨0, 0, 0, 0⟩)
abbrev s_is_number : Stmt := topS 6
theorem sc_is_number : FnScope ["value"] ["value"] (defScope s_is_number) := ⟨rfl, rfl, rfl, by decide +kernel, rfl, by decide +kernel, by decide +kernel⟩
abbrev s_check_numbers : Stmt := topS 7
theorem sc_check_numbers : FnScope ["values", "value"] ["values"] (defScope s_check_numbers) := ⟨rfl, rfl, rfl, by decide +kernel, rfl, by decide +kernel, by decide +kernel⟩
abbrev s_check_from : Stmt := topS 8
theorem sc_check_from : FnScope ["least", "value"] ["least", "value"] (defScope s_check_from) := ⟨rfl, rfl, rfl, by decide +kernel, rfl, by decide +kernel, by decide +kernel⟩
abbrev s_is_pair : Stmt := topS 9
theorem sc_is_pair : FnScope ["value"] ["value"] (defScope s_is_pair) := ⟨rfl, rfl, rfl, by decide +kernel, rfl, by decide +kernel, by decide +kernel⟩
abbrev s_below : Stmt := topS 11
theorem sc_below : FnScope ["one", "other"] ["one", "other"] (defScope s_below) := ⟨rfl, rfl, rfl, by decide +kernel, rfl, by decide +kernel, by decide +kernel⟩
abbrev s_floor_of : Stmt := topS 12
theorem sc_floor_of : FnScope ["fraction"] ["fraction"] (defScope s_floor_of) := ⟨rfl, rfl, rfl, by decide +kernel, rfl, by decide +kernel, by decide +kernel⟩
abbrev s_simplest_between : Stmt := topS 13
theorem sc_simplest_between : FnScope ["low", "high", "parts", "whole", "rest", "p", "q", "part"] ["low", "high"] (defScope s_simplest_between) := ⟨rfl, rfl, rfl, by decide +kernel, rfl, by decide +kernel, by decide +kernel⟩
abbrev s_Line___init__ : Stmt := inClass (topS 15) 0
theorem sc_Line___init__ : FnScope ["self", "a", "b", "m"] ["self", "a", "b", "m"] (defScope s_Line___init__) := ⟨rfl, rfl, rfl, by decide +kernel, rfl, by decide +kernel, by decide +kernel⟩
abbrev s_Line___eq__ : Stmt := inClass (topS 15) 1
theorem sc_Line___eq__ : FnScope ["self", "other"] ["self", "other"] (defScope s_Line___eq__) := ⟨rfl, rfl, rfl, by decide +kernel, rfl, by decide +kernel, by decide +kernel⟩
abbrev s_Line_at : Stmt := inClass (topS 15) 2
theorem sc_Line_at : FnScope ["self", "x"] ["self", "x"] (defScope s_Line_at) := ⟨rfl, rfl, rfl, by decide +kernel, rfl, by decide +kernel, by decide +kernel⟩
abbrev s_Stairs___init__ : Stmt := inClass (topS 19) 0
theorem sc_Stairs___init__ : FnScope ["self", "line", "low", "high"] ["self", "line", "low", "high"] (defScope s_Stairs___init__) := ⟨rfl, rfl, rfl, by decide +kernel, rfl, by decide +kernel, by decide +kernel⟩
abbrev s_Stairs___bool__ : Stmt := inClass (topS 19) 1
theorem sc_Stairs___bool__ : FnScope ["self"] ["self"] (defScope s_Stairs___bool__) := ⟨rfl, rfl, rfl, by decide +kernel, rfl, by decide +kernel, by decide +kernel⟩
abbrev s_Stairs___eq__ : Stmt := inClass (topS 19) 2
theorem sc_Stairs___eq__ : FnScope ["self", "other"] ["self", "other"] (defScope s_Stairs___eq__) := ⟨rfl, rfl, rfl, by decide +kernel, rfl, by decide +kernel, by decide +kernel⟩
abbrev s_Stairs_shows : Stmt := inClass (topS 19) 3
theorem sc_Stairs_shows : FnScope ["self", "row", "line", "low", "high"] ["self", "row"] (defScope s_Stairs_shows) := ⟨rfl, rfl, rfl, by decide +kernel, rfl, by decide +kernel, by decide +kernel⟩
abbrev s_Crooked___init__ : Stmt := inClass (topS 20) 0
theorem sc_Crooked___init__ : FnScope ["self", "low", "high"] ["self", "low", "high"] (defScope s_Crooked___init__) := ⟨rfl, rfl, rfl, by decide +kernel, rfl, by decide +kernel, by decide +kernel⟩
abbrev s_Crooked___bool__ : Stmt := inClass (topS 20) 1
theorem sc_Crooked___bool__ : FnScope ["self"] ["self"] (defScope s_Crooked___bool__) := ⟨rfl, rfl, rfl, by decide +kernel, rfl, by decide +kernel, by decide +kernel⟩
abbrev s_Crooked___eq__ : Stmt := inClass (topS 20) 2
theorem sc_Crooked___eq__ : FnScope ["self", "other"] ["self", "other"] (defScope s_Crooked___eq__) := ⟨rfl, rfl, rfl, by decide +kernel, rfl, by decide +kernel, by decide +kernel⟩
abbrev s_Crooked_shows : Stmt := inClass (topS 20) 3
theorem sc_Crooked_shows : FnScope ["self", "row"] ["self", "row"] (defScope s_Crooked_shows) := ⟨rfl, rfl, rfl, by decide +kernel, rfl, by decide +kernel, by decide +kernel⟩
abbrev s_are_places : Stmt := topS 21
theorem sc_are_places : FnScope ["pair", "row"] ["pair", "row"] (defScope s_are_places) := ⟨rfl, rfl, rfl, by decide +kernel, rfl, by decide +kernel, by decide +kernel⟩
abbrev s_has_numbers : Stmt := topS 22
theorem sc_has_numbers : FnScope ["line", "row", "x", "number"] ["line", "row"] (defScope s_has_numbers) := ⟨rfl, rfl, rfl, by decide +kernel, rfl, by decide +kernel, by decide +kernel⟩
abbrev s_lower_bound : Stmt := topS 23
theorem sc_lower_bound : FnScope ["row", "pair", "first", "last"] ["row", "pair"] (defScope s_lower_bound) := ⟨rfl, rfl, rfl, by decide +kernel, rfl, by decide +kernel, by decide +kernel⟩
abbrev s_upper_bound : Stmt := topS 24
theorem sc_upper_bound : FnScope ["row", "pair", "first", "last"] ["row", "pair"] (defScope s_upper_bound) := ⟨rfl, rfl, rfl, by decide +kernel, rfl, by decide +kernel, by decide +kernel⟩
abbrev s_least_offset : Stmt := topS 25
theorem sc_least_offset : FnScope ["row", "a", "m", "x", "number"] ["row", "a", "m"] (defScope s_least_offset) := ⟨rfl, rfl, rfl, by decide +kernel, rfl, by decide +kernel, by decide +kernel⟩
abbrev s_stairs : Stmt := topS 26
theorem sc_stairs : FnScope ["row"] ["row"] (defScope s_stairs) := ⟨rfl, rfl, rfl, by decide +kernel, rfl, by decide +kernel, by decide +kernel⟩
abbrev s_stairs_of : Stmt := topS 27
theorem sc_stairs_of : FnScope ["row", "low", "high", "last", "first", "pair", "least", "greatest", "a", "m"] ["row"] (defScope s_stairs_of) := ⟨rfl, rfl, rfl, by decide +kernel, rfl, by decide +kernel, by decide +kernel⟩
abbrev s__law_number : Stmt := topS 29
theorem sc__law_number : FnScope ["script", "index", "cell", "turn", "rest", "step", "blend"] ["script", "index"] (defScope s__law_number) := ⟨rfl, rfl, rfl, by decide +kernel, rfl, by decide +kernel, by decide +kernel⟩
abbrev s__law_take : Stmt := topS 30
theorem sc__law_take : FnScope ["draw", "many"] ["draw", "many"] (defScope s__law_take) := ⟨rfl, rfl, rfl, by decide +kernel, rfl, by decide +kernel, by decide +kernel⟩
abbrev s__law_pick : Stmt := topS 31
theorem sc__law_pick : FnScope ["draw", "items"] ["draw", "items"] (defScope s__law_pick) := ⟨rfl, rfl, rfl, by decide +kernel, rfl, by decide +kernel, by decide +kernel⟩
abbrev s__law_long : Stmt := topS 32
theorem sc__law_long : FnScope ["draw", "figures", "found", "turn"] ["draw", "figures"] (defScope s__law_long) := ⟨rfl, rfl, rfl, by decide +kernel, rfl, by decide +kernel, by decide +kernel⟩
abbrev s__law_is_number : Stmt := topS 33
theorem sc__law_is_number : FnScope ["value"] ["value"] (defScope s__law_is_number) := ⟨rfl, rfl, rfl, by decide +kernel, rfl, by decide +kernel, by decide +kernel⟩
abbrev s__law_at : Stmt := topS 34
theorem sc__law_at : FnScope ["line", "x"] ["line", "x"] (defScope s__law_at) := ⟨rfl, rfl, rfl, by decide +kernel, rfl, by decide +kernel, by decide +kernel⟩
abbrev s__law_bounds_of : Stmt := topS 35
theorem sc__law_bounds_of : FnScope ["row", "low", "high"] ["row", "low", "high"] (defScope s__law_bounds_of) := ⟨rfl, rfl, rfl, by decide +kernel, rfl, by decide +kernel, by decide +kernel⟩
abbrev s__law_is_pair : Stmt := topS 36
theorem sc__law_is_pair : FnScope ["pair", "many", "one"] ["pair", "many"] (defScope s__law_is_pair) := ⟨rfl, rfl, rfl, by decide +kernel, rfl, by decide +kernel, by decide +kernel⟩
abbrev s__law_between : Stmt := topS 37
theorem sc__law_between : FnScope ["above", "below_v", "m", "number"] ["above", "below_v", "m"] (defScope s__law_between) := ⟨rfl, rfl, rfl, by decide +kernel, rfl, by decide +kernel, by decide +kernel⟩
abbrev s__law_is_right : Stmt := topS 38
theorem sc__law_is_right : FnScope ["row", "told", "above", "below_v", "a", "b", "m", "x", "less", "number"] ["row", "told"] (defScope s__law_is_right) := ⟨rfl, rfl, rfl, by decide +kernel, rfl, by decide +kernel, by decide +kernel⟩
abbrev s__law_has_line : Stmt := topS 39
theorem sc__law_has_line : FnScope ["row", "m", "low", "high", "a", "b", "x", "number"] ["row", "m"] (defScope s__law_has_line) := ⟨rfl, rfl, rfl, by decide +kernel, rfl, by decide +kernel, by decide +kernel⟩
abbrev s__law_fault : Stmt := topS 40
theorem sc__law_fault : FnScope ["deed", "fault"] ["deed"] (defScope s__law_fault) := ⟨rfl, rfl, rfl, by decide +kernel, rfl, by decide +kernel, by decide +kernel⟩
abbrev s_law : Stmt := topS 41
theorem sc_law : FnScope ["script", "draw", "again", "line", "many", "row", "told", "low", "high", "late", "more", "at", "bad", "long", "x", "m"] ["script"] (defScope s_law) := ⟨rfl, rfl, rfl, by decide +kernel, rfl, by decide +kernel, by decide +kernel⟩
/-- the built-in names that are still built-in, the package's constants -/
structure Nm (mg : Str → Option Value) : Prop where
  len : mg "len" = none
  range : mg "range" = none
  int : mg "int" = none
  bool : mg "bool" = none
  isinstance : mg "isinstance" = none
  list : mg "list" = none
  tuple : mg "tuple" = none
  max : mg "max" = none
  min : mg "min" = none
  any : mg "any" = none
  all : mg "all" = none
  enumerate : mg "enumerate" = none
  LEAST_MANY : ∃ t, mg "LEAST_MANY" = some (.int 2 t)
  MOST_MANY : ∃ t, mg "MOST_MANY" = some (.int 200 t)
end K14
namespace K14
open PySem PySem.Spec PyProof.Rows L2 My M50
local macro_rules | `(tactic| walk_at "side") => `(tactic| (first
  | assumption
  | (refine OkMod.mk ?_; omega)
  | (refine mulOkL ?_ ?_ <;> omega)
  | (refine mulOkR ?_ ?_ <;> omega)
  | (refine divOk ?_ ?_ <;> omega)))
local macro_rules | `(tactic| walk_at "rd") => `(tactic| (first
  | with_reducible refine ⟨_, rfl, ?_⟩
  | refine ⟨_, rfl, ?_⟩
  | refine ⟨_, _, rfl, rfl, ?_⟩
  | refine And.intro (by walk_at "side") ?_
  | refine ⟨_, _, rfl, asm (by assumption), ?_⟩
  | refine ⟨_, _, rfl, asm ?_⟩))
section
variable {P : Program} {w : World} {K : PySem.W.Frag} {mg : Str → Option Value} {base : Heap}
/-! ### the draws -/
def spNumber (K : PySem.W.Frag) : Sp := fun vs H Q _ => ∃ (s : Addr) (i : Int) (ns : List Int), vs = [.ref s, .int i] ∧ SqL K H s (ns.map V.int) ∧ ns.length ≤ 63 ∧ ∀ (v : Int) H', Same H H' → Q (.int v) H'
theorem dpAll_ints {K : PySem.W.Frag} {H : Hp} : ∀ ns : List Int, DpAll K H (ns.map V.int) (ns.map PyData.int)
  | [] => .nil
  | n :: r => .cons (.int n) (dpAll_ints r)
theorem atI_mod {ns : List Int} (i : Int) (h : 0 < ns.length) : ∃ c : Int, atI (ns.map V.int) (i % ((ns.map V.int).length : Int)) = some (.int c) := by
  rw [List.length_map]
  have h0 := Int.emod_nonneg i (show ((ns.length : Nat) : Int) ≠ 0 by omega)
  have h1 := Int.emod_lt_of_pos i (show (0 : Int) < ((ns.length : Nat) : Int) by omega)
  generalize i % ((ns.length : Nat) : Int) = k at h0 h1
  obtain ⟨j, rfl⟩ := Int.eq_ofNat_of_zero_le h0
  have hj : j < ns.length := by omega
  refine ⟨ns[j], atI_nat ?_⟩
  rw [List.getElem?_map, List.getElem?_eq_getElem hj]
  rfl
theorem ok__law_number {f : Addr} {fd : FuncData} (T : Nm mg) (F : Fun K "_law_number" "_law_number" s__law_number f fd) : FnOk P w K mg base CX0 1 f fd ["script", "index"] (spNumber K) := by
  refine F.ok sc__law_number (fun vs H Q E h => ?_) (fun cdv A outer s H vs Q E hr h => ?_)
  · obtain ⟨s, i, ns, rfl, _⟩ := h
    rfl
  · obtain ⟨a, i, ns, rfl, hS, hl, q⟩ := h
    refine ⟨_, (pss_cons (ps_asg (pe_ifExp (pt_cmpR (op_neD hr.units) (pv 0) (pe_lst pa_nil) (nomark _)) (pe_tup (pa_cons (pe_ix ix_list (pv 0) (pe_op op_modA (pv 1) (pe_callB call_lenL (by rfl) T.len (by decide +kernel) (pa_cons (pv 0) pa_nil))) (fun _ _ => rfl)) (pa_cons (pe_op op_fdivA (pv 1) (pe_callB call_lenL (by rfl) T.len (by decide +kernel) (pa_cons (pv 0) pa_nil))) pa_nil))) (pe_tup (pa_cons pe_int (pa_cons pe_int pa_nil)))) (pg_tup rfl (pgs_cons (pg_name (i := 2) sc__law_number.nd rfl (Or.inl rfl)) (pgs_cons (pg_name (i := 3) sc__law_number.nd rfl (Or.inl rfl)) pgs_nil))))
    (pss_cons (ps_set (i := 4) sc__law_number.nd rfl (Or.inl rfl) (pe_ifExp (pt_cmpR op_lt (pv 3) pe_int (nomark _)) (pe_op op_sub (pv 2) (pe_op op_pow pe_int pe_int)) pe_int))
    (pss_cons (ps_for PassesOwn.never rfl (pi_range1 rfl T.range (pa_cons (pe_op op_modA (pe_callTy call_intI (by rfl) T.int (by decide +kernel) (pa_cons (pv 3) pa_nil)) pe_int) pa_nil)) (pg_name (i := 5) sc__law_number.nd rfl (Or.inl rfl))
      (pss_one (ps_set (i := 4) sc__law_number.nd rfl (Or.inl rfl) (pe_op op_fdivA (pv 4) pe_int))))
    (pss_cons (ps_if (pt_cmpR op_gt (pv 4) pe_int (nomark _))
      (pss_one (ps_ret (pe_op op_modA (pe_callTy call_intI (by rfl) T.int (by decide +kernel) (pa_cons (pv 4) pa_nil)) pe_int)))
      pss_nil)
    (pss_cons (ps_set (i := 6) sc__law_number.nd rfl (Or.inl rfl) (pe_op op_modA (pe_op op_add (pe_op op_mulA (pe_callTy call_intI (by rfl) T.int (by decide +kernel) (pa_cons (pe_op op_add (pv 2) (pe_op op_mulA pe_int (pv 1))) pa_nil)) pe_int) (pe_op op_mulA pe_int (pe_callB call_lenL (by rfl) T.len (by decide +kernel) (pa_cons (pv 0) pa_nil)))) pe_int))
    (pss_cons (ps_set (i := 6) sc__law_number.nd rfl (Or.inl rfl) (pe_op op_modA (pe_op op_add (pe_op op_mulA (pv 6) (pv 6)) (pe_op op_mulA pe_int (pv 1))) pe_int))
    (pss_one (ps_ret (pe_callTy call_intI (by rfl) T.int (by decide +kernel) (pa_cons (pe_op op_modA (pe_op op_add (pe_op op_mulA (pv 6) pe_int) (pe_op op_fdivA (pv 6) pe_int)) pe_int) pa_nil)))))))))), ?_⟩
    refine tIf_via (fun v H1 => ∃ p, ∃ c t : Int, v = .ref p ∧ Same H H1 ∧ H1 p = some (.tup [.int c, .int t])) (fun Q' h' => ?_) ?_
    · replace h' : ∀ p (c t : Int) H1, Same H H1 → H1 p = some (.tup [.int c, .int t]) → Q' (.ref p) H1 := fun p c t H1 a b => h' _ _ ⟨p, c, t, rfl, a, b⟩
      refine ⟨_, rfl, Nat.zero_le _, fun p np => ?_⟩
      have s1 : Same H (upd H p (.lst [])) := same_upd np
      have hS1 := s1.seq hS
      refine ⟨.list (ns.map PyData.int), .list [], .lst hS1 (dpAll_ints ns), .lst (.inl (.inl upd_same)) .nil, PySem.W.ke_shaped_ints ns, rfl, _, rfl, ?_⟩
      by_cases hn : ns = []
      · subst hn
        refine iteF ?_
        refine ⟨by show 2 ≤ sizeLine; decide, fun t nt => h' t _ _ _ (s1.trans (same_upd nt)) upd_same⟩
      · have e : (PyData.list (ns.map PyData.int)).eqv (PyData.list []) = false := by
          cases ns with
          | nil => exact absurd rfl hn
          | cons n r => rfl
        rw [e]
        refine iteT ?_
        have l0 : 0 < ns.length := List.length_pos_iff.mpr hn
        have l1 : (0 : Int) < ((ns.map V.int).length : Int) := by
          rw [List.length_map]
          omega
        have l2 : OkDiv i ((ns.map V.int).length : Int) := divOk l1 (by rw [List.length_map]; omega)
        obtain ⟨c, hc⟩ := atI_mod i l0
        have l3 : OkMod i ((ns.map V.int).length : Int) := ⟨l1⟩
        repeat (walk_at "rd")
        refine ⟨_, _, _, _, rfl, rfl, hS1, hc, ?_⟩
        repeat (walk_at "rd")
        exact ⟨by show 2 ≤ sizeLine; decide, fun t nt => h' t _ _ _ (s1.trans (same_upd nt)) upd_same⟩
    rintro _ H1 ⟨p, c, t, rfl, s1, hp⟩
    have hS1 := s1.seq hS
    refine ⟨p, _, rfl, .inl (.inl hp), rfl, _, _, rfl, _, _, rfl, rfl, ?_⟩
    -- rest = cell - 10 ** 18 if turn < 60 else 0
    dsimp only
    refine sIf_via (fun v H' => ∃ r : Int, v = .int r ∧ H1 = H') (fun Q' h' => ?_) ?_
    · replace h' : ∀ r : Int, Q' (.int r) H1 := fun r => h' _ _ ⟨r, rfl, rfl⟩
      refine ⟨_, rfl, _, _, rfl, rfl, _, rfl, ite2 (fun _ => ?_) (fun _ => h' 0)⟩
      exact ⟨_, rfl, _, _, rfl, rfl, ⟨by decide, by decide, by decide⟩, _, _, rfl, rfl, h' _⟩
    -- the loop
    rintro _ _ ⟨r, rfl, rfl⟩
    have c60 : OkMod t 60 := ⟨by omega⟩
    have t0 := Int.emod_nonneg t (show (60 : Int) ≠ 0 by decide)
    have t1 := Int.emod_lt_of_pos t (show (0 : Int) < 60 by decide)
    repeat (walk_at "rd")
    refine ⟨(by omega), (by omega), for_range (n := (t % 60).toNat) (fun i' σ H' => ∃ (r : Int), ∃ y, σ = [some (.ref a), some (.int i), some (.int c), some (.int t), some (.int r), y, none] ∧ H' = H1) ⟨r, none, rfl, rfl⟩ ?_ ?_⟩
    · rintro j σ H' hj ⟨r, y, rfl, rfl⟩
      have d : OkDiv r 1009 := divOk (by omega) (by omega)
      repeat (walk_at "rd")
      rfl
    rintro σ H' ⟨r, y, rfl, rfl⟩
    have c9 : OkMod r 1009 := ⟨by omega⟩
    refine ⟨_, rfl, _, _, rfl, rfl, _, rfl, ite2 (fun _ => ?_) (fun _ => ?_)⟩
    · repeat (walk_at "rd")
      exact q _ _ s1
    repeat (walk_at "rd")
    exact q _ _ s1
def spTake (K : PySem.W.Frag) : Sp := fun vs H Q _ => ∃ (d s : Addr) (m : Int) (ns : List Int), vs = [.ref d, .int m] ∧ DrawAt K H d s ns ∧ 0 < m ∧ ∀ (r : Int) H', 0 ≤ r → r < m → Keep d H H' → DrawAt K H' d s ns → Q (.int r) H'
theorem ok__law_take {f f1 : Addr} {fd fd1 : FuncData} (T : Nm mg) (C__law_number : Has P w K mg base "_law_number" 1 ["script", "index"] (spNumber K) f1 fd1) (F : Fun K "_law_take" "_law_take" s__law_take f fd) : FnOk P w K mg base CX0 2 f fd ["draw", "many"] (spTake K) := by
  refine F.ok sc__law_take (fun vs H Q E h => ?_) (fun cdv A outer s H vs Q E hr h => ?_)
  · obtain ⟨d, s, m, ns, rfl, _⟩ := h
    rfl
  · obtain ⟨d, s, m, ns, rfl, hD, hm, q⟩ := h
    obtain ⟨k, h1, h3, h4⟩ := id hD
    refine ⟨_, (pss_cons (ps_augS (pv 0) pe_int pget_list pe_int ip_add set_list)
    (pss_one (ps_ret (pe_op op_modA (pe_callTy call_intI (by rfl) T.int (by decide +kernel) (pa_cons (pe_call C__law_number.G (hr.mono (by decide)) (by rfl) C__law_number.g C__law_number.k C__law_number.b .nil pass0 (pa_cons (pe_ix ix_list (pv 0) pe_int (fun _ _ => rfl)) (pa_cons (pe_callTy call_intI (by rfl) T.int (by decide +kernel) (pa_cons (pe_ix ix_list (pv 0) pe_int (fun _ _ => rfl)) pa_nil)) pa_nil))) pa_nil)) (pv 1))))), ?_⟩
    refine ⟨_, rfl, d, _, _, _, rfl, rfl, .inl (.inl h1), rfl, _, _, rfl, rfl, d, _, _, 1, rfl, rfl, h1, rfl, ?_⟩
    have D1 : DrawAt K (upd H d (.lst [.ref s, .int (k + 1)])) d s ns := hD.set
    have K1 : Keep d H (upd H d (.lst [.ref s, .int (k + 1)])) := Keep.upd d H _
    refine ⟨_, rfl, d, _, _, _, rfl, rfl, .inl (.inl upd_same), rfl, _, rfl, d, _, _, _, rfl, rfl, .inl (.inl upd_same), rfl, _, rfl, ?_⟩
    refine ⟨s, k + 1, ns, rfl, K1.seqS h1 h3, h4, fun v H' sm => ?_⟩
    refine ⟨_, rfl, _, rfl, _, _, rfl, rfl, ⟨hm⟩, ?_⟩
    exact q _ _ (Int.emod_nonneg _ (by omega)) (Int.emod_lt_of_pos _ hm) (K1.trans (Keep.of sm)) (D1.same sm)
def spPick (K : PySem.W.Frag) : Sp := fun vs H Q _ => ∃ (d s l : Addr) (ns : List Int) (xs : List V), vs = [.ref d, .ref l] ∧ DrawAt K H d s ns ∧ l ≠ d ∧ SqL K H l xs ∧ 0 < xs.length ∧ ∀ v H', v ∈ xs → Keep d H H' → DrawAt K H' d s ns → Q v H'
theorem atI_in {α : Type} {xs : List α} {r : Int} (h0 : 0 ≤ r) (h1 : r < xs.length) : ∃ v, atI xs r = some v ∧ v ∈ xs := by
  obtain ⟨j, rfl⟩ := Int.eq_ofNat_of_zero_le h0
  have hj : j < xs.length := by omega
  exact ⟨xs[j], atI_nat (List.getElem?_eq_getElem hj), List.getElem_mem hj⟩
theorem ok__law_pick {f f1 : Addr} {fd fd1 : FuncData} (T : Nm mg) (C__law_take : Has P w K mg base "_law_take" 2 ["draw", "many"] (spTake K) f1 fd1) (F : Fun K "_law_pick" "_law_pick" s__law_pick f fd) : FnOk P w K mg base CX0 3 f fd ["draw", "items"] (spPick K) := by
  refine F.ok sc__law_pick (fun vs H Q E h => ?_) (fun cdv A outer s H vs Q E hr h => ?_)
  · obtain ⟨d, s, l, ns, xs, rfl, _⟩ := h
    rfl
  · obtain ⟨d, s, l, ns, xs, rfl, hD, hl, hX, h0, q⟩ := h
    refine ⟨_, (pss_one (ps_ret (pe_ix ix_list (pv 1) (pe_call C__law_take.G (hr.mono (by decide)) (by rfl) C__law_take.g C__law_take.k C__law_take.b .nil pass0 (pa_cons (pv 0) (pa_cons (pe_callB call_lenL (by rfl) T.len (by decide +kernel) (pa_cons (pv 1) pa_nil)) pa_nil))) (fun _ _ => rfl)))), ?_⟩
    refine ⟨_, rfl, _, rfl, _, rfl, l, xs, rfl, hX, ?_⟩
    refine ⟨d, s, _, ns, rfl, hD, by omega, fun r H' r0 r1 kp D' => ?_⟩
    obtain ⟨v, hv, hm⟩ := atI_in r0 r1
    exact ⟨l, xs, r, v, rfl, rfl, kp.seq hl hX, hv, q v H' hm kp D'⟩
def spLong (K : PySem.W.Frag) : Sp := fun vs H Q _ => ∃ (d s : Addr) (n : Int) (ns : List Int), vs = [.ref d, .int n] ∧ DrawAt K H d s ns ∧ 0 ≤ n ∧ n ≤ 1000 ∧ ∀ (r : Int) H', r.natAbs < 10 ^ n.toNat → Keep d H H' → DrawAt K H' d s ns → Q (.int r) H'
theorem ok__law_long {f f1 : Addr} {fd fd1 : FuncData} (T : Nm mg) (C__law_take : Has P w K mg base "_law_take" 2 ["draw", "many"] (spTake K) f1 fd1) (F : Fun K "_law_long" "_law_long" s__law_long f fd) : FnOk P w K mg base CX0 3 f fd ["draw", "figures"] (spLong K) := by
  refine F.ok sc__law_long (fun vs H Q E h => ?_) (fun cdv A outer s H vs Q E hr h => ?_)
  · obtain ⟨d, s, n, ns, rfl, _⟩ := h
    rfl
  · obtain ⟨d, s, n, ns, rfl, hD, n0, n1, q⟩ := h
    refine ⟨_, (pss_cons (ps_set (i := 2) sc__law_long.nd rfl (Or.inl rfl) pe_int)
    (pss_cons (ps_for PassesOwn.never rfl (pi_range1 rfl T.range (pa_cons (pe_call C__law_take.G (hr.mono (by decide)) (by rfl) C__law_take.g C__law_take.k C__law_take.b .nil pass0 (pa_cons (pv 0) (pa_cons (pe_op op_add (pv 1) pe_int) pa_nil))) pa_nil)) (pg_name (i := 3) sc__law_long.nd rfl (Or.inl rfl))
      (pss_one (ps_set (i := 2) sc__law_long.nd rfl (Or.inl rfl) (pe_op op_add (pe_op op_mulA pe_int (pv 2)) (pe_call C__law_take.G (hr.mono (by decide)) (by rfl) C__law_take.g C__law_take.k C__law_take.b .nil pass0 (pa_cons (pv 0) (pa_cons pe_int pa_nil)))))))
    (pss_one (ps_ret (pe_ifExp (pt_cmpR op_eq (pe_call C__law_take.G (hr.mono (by decide)) (by rfl) C__law_take.g C__law_take.k C__law_take.b .nil pass0 (pa_cons (pv 0) (pa_cons pe_int pa_nil))) pe_int (nomark _)) (pv 2) (pe_op op_sub pe_int (pv 2))))))), ?_⟩
    refine ⟨_, rfl, _, rfl, _, _, rfl, rfl, d, s, n + 1, ns, rfl, hD, by omega, fun many H1 m0 m1 K1 D1 => ?_⟩
    refine ⟨_, rfl, by omega, by omega, for_range (n := many.toNat) (fun i σ H' => ∃ (r : Int), ∃ y, σ = [some (.ref d), some (.int n), some (.int r), y] ∧ 0 ≤ r ∧ r.natAbs < 10 ^ i ∧ Keep d H H' ∧ DrawAt K H' d s ns) ⟨0, none, rfl, by omega, by decide, K1, D1⟩ ?_ ?_⟩
    · rintro i σ H2 hi ⟨r, y, rfl, r0, rb, K2, D2⟩
      refine ⟨_, rfl, _, _, rfl, rfl, mulOkL (by omega) (by omega), _, rfl, d, s, 10, ns, rfl, D2, by omega, fun c H3 c0 c1 K3 D3 => ?_⟩
      refine ⟨_, _, rfl, rfl, 10 * r + c, _, rfl, by omega, ?_, K2.trans K3, D3⟩
      rw [Nat.pow_succ]
      omega
    · rintro σ H2 ⟨r, y, rfl, r0, rb, K2, D2⟩
      refine ⟨_, rfl, d, s, 2, ns, rfl, D2, by omega, fun c H3 c0 c1 K3 D3 => ?_⟩
      have hb : r.natAbs < 10 ^ n.toNat := Nat.lt_of_lt_of_le rb (Nat.pow_le_pow_right (by omega) (by omega))
      refine ⟨rfl, _, rfl, ite2 (fun _ => ?_) (fun _ => ?_)⟩
      · exact ⟨_, rfl, q _ _ hb (K2.trans K3) D3⟩
      · exact ⟨_, rfl, _, _, rfl, rfl, q _ _ (by omega) (K2.trans K3) D3⟩
end
end K14
namespace K14
open PySem PySem.Spec PyProof.Rows L2 My M50
local macro_rules | `(tactic| walk_at "side") => `(tactic| (first
  | assumption
  | (refine OkMod.mk ?_; omega)
  | (refine mulOkL ?_ ?_ <;> omega)
  | (refine mulOkR ?_ ?_ <;> omega)
  | (refine divOk ?_ ?_ <;> omega)))
local macro_rules | `(tactic| walk_at "rd") => `(tactic| (first
  | with_reducible refine ⟨_, rfl, ?_⟩
  | refine ⟨_, rfl, ?_⟩
  | refine ⟨_, _, rfl, rfl, ?_⟩
  | refine And.intro (by walk_at "side") ?_
  | refine ⟨_, _, rfl, asm (by assumption), ?_⟩
  | refine ⟨_, _, rfl, asm ?_⟩))
section
variable {P : Program} {w : World} {K : PySem.W.Frag} {mg : Str → Option Value} {base : Heap}

/-- as Has, of a def that may raise -/
structure HasX (P : Program) (w : World) (K : PySem.W.Frag) (mg : Str → Option Value) (base : Heap) (x : Str) (k : Nat) (ps : List Str) (sp : Sp) (f : Addr) (fd : FuncData) : Prop where
  G : FnOk P w K mg base (L2.CX P w) k f fd ps sp
  g : mg x = some (.ref f)
  k : PySem.W.keepIn K (.ref f) = true
  b : Binds K fd ps []
/-! ### is_number, check_numbers, check_from, is_pair -/
def numV : V → Option Bool
  | .int _ => some true
  | .bl _ => some false
  | .non => some false
  | .str _ => some false
  | _ => none
/-- whether it is a number -/
def NumB (K : PySem.W.Frag) (H : Hp) (v : V) (b : Bool) : Prop := numV v = some b ∨ (b = false ∧ ∃ a xs, v = .ref a ∧ SqT K H a xs)
theorem NumB.same {H H' : Hp} {v : V} {b : Bool} (e : Same H H') (h : NumB K H v b) : NumB K H' v b := h.imp id fun ⟨h1, a, xs, h2, h3⟩ => ⟨h1, a, xs, h2, Same.tup e h3⟩
theorem numB_int {H : Hp} (i : Int) : NumB K H (.int i) true := .inl rfl
theorem tyT {H : Hp} {a : Addr} {xs : List V} (h : SqT K H a xs) : TyX K H (.ref a) (.type "tuple") := by
  rcases h with (h | ⟨o, h⟩) | ⟨o, its, n, h, c, _⟩
  · exact .base (.tup h)
  · exact .fTuple h
  · exact .kTuple h c
def spIsNum (K : PySem.W.Frag) : Sp := fun vs H Q _ => ∃ v b, vs = [v] ∧ NumB K H v b ∧ Q (.bl b) H
theorem ok_is_number {f : Addr} {fd : FuncData} (T : Nm mg) (F : Fun K "is_number" "is_number" s_is_number f fd) : FnOk P w K mg base CX0 1 f fd ["value"] (spIsNum K) := by
  refine F.ok sc_is_number (fun vs H Q E h => ?_) (fun cdv A outer s H vs Q E hr h => ?_)
  · obtain ⟨v, b, rfl, _⟩ := h
    rfl
  · obtain ⟨v, b, rfl, hv, q⟩ := h
    refine ⟨_, (pss_one (ps_ret (pe_and (pe_callB call_isi (by rfl) T.isinstance (by decide +kernel) (pa_cons (pv 0) (pa_cons (pe_ty (n := "int") (by rfl) T.int (by decide +kernel)) pa_nil))) (pe_one (pe_not (pe_callB call_isi (by rfl) T.isinstance (by decide +kernel) (pa_cons (pv 0) (pa_cons (pe_ty (n := "bool") (by rfl) T.bool (by decide +kernel)) pa_nil)))))))), ?_⟩
    rcases hv with hv | ⟨rfl, a, xs, rfl, ht⟩
    · cases v with
      | int i =>
        cases hv
        refine ⟨_, rfl, _, _, _, _, _, rfl, .ty _, .base (.int _), kit_ty (by decide +kernel), true, rfl, iteT ?_⟩
        exact ⟨_, rfl, _, _, _, _, _, rfl, .ty _, .base (.int _), kit_ty (by decide +kernel), false, rfl, q⟩
      | bl i =>
        cases hv
        refine ⟨_, rfl, _, _, _, _, _, rfl, .ty _, .base (.bl _), kit_ty (by decide +kernel), true, rfl, iteT ?_⟩
        exact ⟨_, rfl, _, _, _, _, _, rfl, .ty _, .base (.bl _), kit_ty (by decide +kernel), true, rfl, q⟩
      | non =>
        cases hv
        exact ⟨_, rfl, _, _, _, _, _, rfl, .ty _, .base .non, kit_ty (by decide +kernel), false, rfl, iteF q⟩
      | str i =>
        cases hv
        exact ⟨_, rfl, _, _, _, _, _, rfl, .ty _, .base (.str _), kit_ty (by decide +kernel), false, rfl, iteF q⟩
      | _ => cases hv
    · exact ⟨_, rfl, _, _, _, _, _, rfl, .ty _, tyT ht, kit_ty (by decide +kernel), false, rfl, iteF q⟩
theorem ok__law_is_number {f : Addr} {fd : FuncData} (T : Nm mg) (F : Fun K "_law_is_number" "_law_is_number" s__law_is_number f fd) : FnOk P w K mg base CX0 1 f fd ["value"] (spIsNum K) := by
  refine F.ok sc__law_is_number (fun vs H Q E h => ?_) (fun cdv A outer s H vs Q E hr h => ?_)
  · obtain ⟨v, b, rfl, _⟩ := h
    rfl
  · obtain ⟨v, b, rfl, hv, q⟩ := h
    refine ⟨_, (pss_one (ps_ret (pe_and (pe_callB call_isi (by rfl) T.isinstance (by decide +kernel) (pa_cons (pv 0) (pa_cons (pe_ty (n := "int") (by rfl) T.int (by decide +kernel)) pa_nil))) (pe_one (pe_not (pe_callB call_isi (by rfl) T.isinstance (by decide +kernel) (pa_cons (pv 0) (pa_cons (pe_ty (n := "bool") (by rfl) T.bool (by decide +kernel)) pa_nil)))))))), ?_⟩
    rcases hv with hv | ⟨rfl, a, xs, rfl, ht⟩
    · cases v with
      | int i =>
        cases hv
        refine ⟨_, rfl, _, _, _, _, _, rfl, .ty _, .base (.int _), kit_ty (by decide +kernel), true, rfl, iteT ?_⟩
        exact ⟨_, rfl, _, _, _, _, _, rfl, .ty _, .base (.int _), kit_ty (by decide +kernel), false, rfl, q⟩
      | bl i =>
        cases hv
        refine ⟨_, rfl, _, _, _, _, _, rfl, .ty _, .base (.bl _), kit_ty (by decide +kernel), true, rfl, iteT ?_⟩
        exact ⟨_, rfl, _, _, _, _, _, rfl, .ty _, .base (.bl _), kit_ty (by decide +kernel), true, rfl, q⟩
      | non =>
        cases hv
        exact ⟨_, rfl, _, _, _, _, _, rfl, .ty _, .base .non, kit_ty (by decide +kernel), false, rfl, iteF q⟩
      | str i =>
        cases hv
        exact ⟨_, rfl, _, _, _, _, _, rfl, .ty _, .base (.str _), kit_ty (by decide +kernel), false, rfl, iteF q⟩
      | _ => cases hv
    · exact ⟨_, rfl, _, _, _, _, _, rfl, .ty _, tyT ht, kit_ty (by decide +kernel), false, rfl, iteF q⟩
/-- all are numbers, or the first that is none -/
def spCheckNums (K : PySem.W.Frag) (CB : Addr) : Sp := fun vs H Q E => ∃ (a : Addr) (xs : List V), vs = [.ref a] ∧ SqA K H a xs ∧
  (((∀ x ∈ xs, ∃ i, x = .int i) ∧ Q .non H) ∨ ∃ (i : Nat) (v : V), xs[i]? = some v ∧ (∀ (k : Nat) (x : V), k < i → xs[k]? = some x → ∃ z, x = .int z) ∧ NumB K H v false ∧ ∀ d, H d = none → E (.ref CB) (some d) (upd H d (.xd [(("value" : Str), v)])))
theorem ok_check_numbers {f f1 CB fI cda cc : Addr} {fd fd1 : FuncData} (B : Xc.Own P K mg "BadNumber" "value" CB fI cda cc) (C_is_number : Has P w K mg base "is_number" 1 ["value"] (spIsNum K) f1 fd1) (F : Fun K "check_numbers" "check_numbers" s_check_numbers f fd) : FnOk P w K mg base (L2.CX P w) 2 f fd ["values"] (spCheckNums K CB) := by
  refine F.okX sc_check_numbers (fun vs H Q E h => ?_) (fun cdv A outer s H vs Q E hr h => ?_)
  · obtain ⟨a, xs, rfl, _⟩ := h
    rfl
  · obtain ⟨a, xs, rfl, hS, h⟩ := h
    refine ⟨_, (pss_one (ps_for (passes_of rfl) rfl (pi_seqV (pv 0)) (pg_name (i := 1) sc_check_numbers.nd rfl (Or.inl rfl))
      (pss_one (ps_if (pt_not (pt_val (pe_call C_is_number.G (hr.mono (by decide)) (by rfl) C_is_number.g C_is_number.k C_is_number.b .nil pass0 (pa_cons (pv 1) pa_nil))))
      (pss_one (ps_raiseX rfl B Xc.fld_value hr (takes_of rfl rfl rfl rfl) (pa_cons (pv 1) pa_nil) (by rfl) (by decide)))
      pss_nil)))), ?_⟩
    rcases h with ⟨hn, q⟩ | ⟨j, v, hv, hn, nb, q⟩
    · refine ⟨a, xs, rfl, hS, fun J G g0 gk wk => for_it wk (fun i σ H' => ∃ y, σ = [some (.ref a), y] ∧ H' = H) ⟨none, rfl, rfl⟩ (fun i σ H' _ ⟨_, _, e⟩ => e ▸ g0) ?_ ?_⟩
      · rintro i x σ H' H2 hi ⟨y, rfl, rfl⟩ ⟨rfl, hx⟩
        obtain ⟨z, rfl⟩ := hn x (List.mem_of_getElem? hx)
        exact ⟨_, rfl, _, true, rfl, numB_int z, true, rfl, iteF ⟨_, rfl, rfl⟩⟩
      · rintro σ H' ⟨y, rfl, rfl⟩
        exact q
    · refine ⟨a, xs, rfl, hS, fun J G g0 gk wk => for_it wk (fun i σ H' => i ≤ j ∧ ∃ y, σ = [some (.ref a), y] ∧ H' = H) ⟨Nat.zero_le _, none, rfl, rfl⟩ (fun i σ H' _ ⟨_, _, _, e⟩ => e ▸ g0) ?_ ?_⟩
      · rintro i x σ H' H2 hi ⟨hij, y, rfl, rfl⟩ ⟨rfl, hx⟩
        by_cases e : i = j
        · subst e
          rw [hv] at hx
          obtain rfl := Option.some.inj hx
          exact ⟨_, rfl, _, false, rfl, nb, false, rfl, iteT ⟨_, rfl, _, rfl, q⟩⟩
        · obtain ⟨z, rfl⟩ := hn i x (by omega) hx
          exact ⟨_, rfl, _, true, rfl, numB_int z, true, rfl, iteF ⟨by omega, _, rfl, rfl⟩⟩
      · rintro σ H' ⟨hij, _⟩
        have := (List.getElem?_eq_some_iff.mp hv).1
        omega
def spCheckFrom : Sp := fun vs H Q _ => ∃ l i : Int, vs = [.int l, .int i] ∧ l ≤ i ∧ Q .non H
theorem ok_check_from {f fN : Addr} {fd fdN : FuncData} (C_is_number : Has P w K mg base "is_number" 1 ["value"] (spIsNum K) fN fdN) (F : Fun K "check_from" "check_from" s_check_from f fd) : FnOk P w K mg base CX0 2 f fd ["least", "value"] spCheckFrom := by
  refine F.ok sc_check_from (fun vs H Q E h => ?_) (fun cdv A outer s H vs Q E hr h => ?_)
  · obtain ⟨l, i, rfl, _⟩ := h
    rfl
  · obtain ⟨l, i, rfl, hl, q⟩ := h
    refine ⟨_, (pss_one (ps_if (PW.pt (pw_or (pt_not (pt_val (pe_call C_is_number.G (hr.mono (by decide)) (by rfl) C_is_number.g C_is_number.k C_is_number.b .nil pass0 (pa_cons (pv 1) pa_nil)))) (pw_or1 (pt_cmpR op_lt (pv 1) (pv 0) (nomark _)))))
      (pss_one ps_never)
      pss_nil)), ?_⟩
    refine ⟨_, rfl, _, true, rfl, numB_int i, true, rfl, iteF ?_⟩
    refine ⟨_, rfl, _, rfl, _, _, rfl, rfl, _, rfl, ?_⟩
    rw [decide_eq_false (show ¬ i < l by omega)]
    exact iteF q
theorem call_lenT {X : Cx} : CallR X (.builtin "len") (fun xs H Q => ∃ p ys, xs = [.ref p] ∧ SqT X.K H p ys ∧ Q (.int ys.length) H) := fun pins s σ H xs us Q I r ⟨p, ys, e, h, q⟩ => call_len_seq pins s σ H xs us Q I r ⟨p, ys, e, .inr h, q⟩
def spIsPair (K : PySem.W.Frag) : Sp := fun vs H Q _ => ∃ (a : Addr) (i j : Int), vs = [.ref a] ∧ SqT K H a [.int i, .int j] ∧ Q (.bl true) H
theorem ok_is_pair {f fN : Addr} {fd fdN : FuncData} (T : Nm mg) (C_is_number : Has P w K mg base "is_number" 1 ["value"] (spIsNum K) fN fdN) (F : Fun K "is_pair" "is_pair" s_is_pair f fd) : FnOk P w K mg base CX0 2 f fd ["value"] (spIsPair K) := by
  refine F.ok sc_is_pair (fun vs H Q E h => ?_) (fun cdv A outer s H vs Q E hr h => ?_)
  · obtain ⟨a, i, j, rfl, _⟩ := h
    rfl
  · obtain ⟨a, i, j, rfl, ht, q⟩ := h
    refine ⟨_, (pss_cons (ps_if (PW.pt (pw_or (pt_not (pt_val (pe_callB call_isi (by rfl) T.isinstance (by decide +kernel) (pa_cons (pv 0) (pa_cons (pe_ty (n := "tuple") (by rfl) T.tuple (by decide +kernel)) pa_nil))))) (pw_or1 (pt_cmpR op_ne (pe_callB call_lenT (by rfl) T.len (by decide +kernel) (pa_cons (pv 0) pa_nil)) pe_int (nomark _)))))
      (pss_one (ps_ret pe_bl))
      pss_nil)
    (pss_one (ps_ret (pe_and (pe_call C_is_number.G (hr.mono (by decide)) (by rfl) C_is_number.g C_is_number.k C_is_number.b .nil pass0 (pa_cons (pe_ix ix_tup (pv 0) pe_int (fun _ _ => rfl)) pa_nil)) (pe_one (pe_call C_is_number.G (hr.mono (by decide)) (by rfl) C_is_number.g C_is_number.k C_is_number.b .nil pass0 (pa_cons (pe_ix ix_tup (pv 0) pe_int (fun _ _ => rfl)) pa_nil))))))), ?_⟩
    refine ⟨_, rfl, _, _, _, _, _, rfl, .ty _, tyT ht, kit_ty (by decide +kernel), true, rfl, iteF ?_⟩
    refine ⟨_, rfl, a, _, rfl, ht, rfl, _, rfl, ?_⟩
    refine iteF ?_
    refine ⟨_, rfl, a, _, 0, _, rfl, rfl, ht, rfl, _, true, rfl, numB_int i, true, rfl, ?_⟩
    exact iteT ⟨_, rfl, a, _, 1, _, rfl, rfl, ht, rfl, _, true, rfl, numB_int j, q⟩
/-! ### below, floor_of -/
def Med (i : Int) : Prop := -(2 ^ 62) < i ∧ i < 2 ^ 62
theorem Med.l {i j : Int} (h : Med i) : OkMul i j := mulOkL (by have := h.1; omega) (by have := h.2; omega)
theorem Med.r {i j : Int} (h : Med j) : OkMul i j := mulOkR (by have := h.1; omega) (by have := h.2; omega)
def spBelow (K : PySem.W.Frag) : Sp := fun vs H Q _ => ∃ (a b : Addr) (l h : Int × Int), vs = [.ref a, .ref b] ∧ SqT K H a [.int l.1, .int l.2] ∧ SqT K H b [.int h.1, .int h.2] ∧ Med l.2 ∧ Med h.2 ∧ Q (.bl (decide (l.1 * h.2 < h.1 * l.2))) H
theorem ok_below {f : Addr} {fd : FuncData} (F : Fun K "below" "below" s_below f fd) : FnOk P w K mg base CX0 1 f fd ["one", "other"] (spBelow K) := by
  refine F.ok sc_below (fun vs H Q E h => ?_) (fun cdv A outer s H vs Q E hr h => ?_)
  · obtain ⟨a, b, l, h, rfl, _⟩ := h
    rfl
  · obtain ⟨a, b, l, h, rfl, ha, hb, m1, m2, q⟩ := h
    refine ⟨_, (pss_one (ps_ret (pe_cmpR op_lt (pe_op op_mulA (pe_ix ix_tup (pv 0) pe_int (fun _ _ => rfl)) (pe_ix ix_tup (pv 1) pe_int (fun _ _ => rfl))) (pe_op op_mulA (pe_ix ix_tup (pv 1) pe_int (fun _ _ => rfl)) (pe_ix ix_tup (pv 0) pe_int (fun _ _ => rfl))) (nomark _)))), ?_⟩
    refine ⟨_, rfl, a, _, _, _, rfl, rfl, ha, rfl, _, rfl, b, _, _, _, rfl, rfl, hb, rfl, _, _, rfl, rfl, m2.r, ?_⟩
    exact ⟨_, rfl, b, _, _, _, rfl, rfl, hb, rfl, _, rfl, a, _, _, _, rfl, rfl, ha, rfl, _, _, rfl, rfl, m1.r, _, _, rfl, rfl, q⟩
def spFloor (K : PySem.W.Frag) : Sp := fun vs H Q _ => ∃ (a : Addr) (l : Int × Int), vs = [.ref a] ∧ SqT K H a [.int l.1, .int l.2] ∧ 0 < l.2 ∧ Med l.2 ∧ Q (.int (l.1 / l.2)) H
theorem ok_floor_of {f : Addr} {fd : FuncData} (F : Fun K "floor_of" "floor_of" s_floor_of f fd) : FnOk P w K mg base CX0 1 f fd ["fraction"] (spFloor K) := by
  refine F.ok sc_floor_of (fun vs H Q E h => ?_) (fun cdv A outer s H vs Q E hr h => ?_)
  · obtain ⟨a, l, rfl, _⟩ := h
    rfl
  · obtain ⟨a, l, rfl, ha, l0, m1, q⟩ := h
    refine ⟨_, (pss_one (ps_ret (pe_op op_fdivA (pe_ix ix_tup (pv 0) pe_int (fun _ _ => rfl)) (pe_ix ix_tup (pv 0) pe_int (fun _ _ => rfl))))), ?_⟩
    exact ⟨_, rfl, a, _, _, _, rfl, rfl, ha, rfl, _, rfl, a, _, _, _, rfl, rfl, ha, rfl, _, _, rfl, rfl, divOk l0 (by have := m1.2; omega), q⟩

end
end K14

namespace K14
open PySem PySem.Spec PyProof.Rows L2 My M50
local macro_rules | `(tactic| walk_at "side") => `(tactic| (first
  | assumption
  | (refine OkMod.mk ?_; omega)
  | (refine mulOkL ?_ ?_ <;> omega)
  | (refine mulOkR ?_ ?_ <;> omega)
  | (refine divOk ?_ ?_ <;> omega)))
local macro_rules | `(tactic| walk_at "rd") => `(tactic| (first
  | with_reducible refine ⟨_, rfl, ?_⟩
  | refine ⟨_, rfl, ?_⟩
  | refine ⟨_, _, rfl, rfl, ?_⟩
  | refine And.intro (by walk_at "side") ?_
  | refine ⟨_, _, rfl, asm (by assumption), ?_⟩
  | refine ⟨_, _, rfl, asm ?_⟩))
section
variable {P : Program} {w : World} {K : PySem.W.Frag} {mg : Str → Option Value} {base : Heap}

theorem keep_tupD {K : PySem.W.Frag} {d a : Addr} {H H' : Hp} {zs xs : List V} (e : Keep d H H') (hd : H d = some (.lst zs)) (h : SqT K H a xs) : SqT K H' a xs := by
  have ne : ∀ o, H a = some o → (∀ l, o ≠ .lst l) → a ≠ d := fun o ho hn z => by
    rw [z, hd] at ho
    exact hn _ (Option.some.inj ho).symm
  rcases h with (h | ⟨o, h⟩) | h
  · exact .inl (.inl (e _ _ (ne _ h fun _ z => nomatch z) h))
  · exact .inl (.inr ⟨o, e _ _ (ne _ h fun _ z => nomatch z) h⟩)
  · exact .inr h
/-! ### simplest_between -/
def HiV (K : PySem.W.Frag) (H : Hp) (v : V) : Option (Int × Int) → Prop
  | none => v = .non
  | some r => ∃ b, v = .ref b ∧ SqT K H b [.int r.1, .int r.2]
theorem HiV.same {H H' : Hp} {v : V} (e : Same H H') : ∀ {h : Option (Int × Int)}, HiV K H v h → HiV K H' v h
  | none, h => h
  | some _, ⟨b, h, t⟩ => ⟨b, h, Same.tup e t⟩
def den : Option (Int × Int) → Nat
  | none => 0
  | some r => r.2.toNat
def Ends4 (l : Int × Int) (h : Option (Int × Int)) : Prop := 0 < l.2 ∧ l.2 ≤ 1000 ∧ ∀ r, h = some r → 0 < r.2 ∧ r.2 ≤ 1000 ∧ l.1 * r.2 < r.1 * l.2
theorem small_ends {l : Int × Int} {h : Option (Int × Int)} (s : Small l h) : Ends4 l h := ⟨s.2.2.1, s.2.2.2.1, fun r e => have z := s.2.2.2.2 r e; ⟨z.2.2.1, z.2.2.2.1, z.2.2.2.2⟩⟩
def spSimplest (K : PySem.W.Frag) : Sp := fun vs H Q _ => ∃ (a b : Addr) (l h : Int × Int), vs = [.ref a, .ref b] ∧ SqT K H a [.int l.1, .int l.2] ∧ SqT K H b [.int h.1, .int h.2] ∧ Ends4 l (some h) ∧
  ∀ t (p q : Int) H', Same H H' → H' t = some (.tup [.int p, .int q]) → Best l (some h) p q → Q (.ref t) H'
theorem rev_at {ws : List Int} {i : Nat} {x : V} (h : ((ws.map V.int).reverse)[i]? = some x) : ∃ us w, ws.take (ws.length - i) = us ++ [w] ∧ ws.take (ws.length - (i + 1)) = us ∧ x = .int w := by
  have hi : i < ws.length := by
    have := (List.getElem?_eq_some_iff.mp h).1
    simpa using this
  rw [← List.map_reverse, List.getElem?_map, List.getElem?_reverse hi] at h
  have hj : ws.length - 1 - i < ws.length := by omega
  rw [List.getElem?_eq_getElem hj] at h
  refine ⟨ws.take (ws.length - (i + 1)), ws[ws.length - 1 - i], ?_, rfl, (Option.some.inj h).symm⟩
  rw [show ws.length - i = (ws.length - 1 - i) + 1 by omega, List.take_succ_eq_append_getElem hj]
  rw [show ws.length - (i + 1) = ws.length - 1 - i by omega]
theorem ok_simplest_between {f f1 f2 : Addr} {fd fd1 fd2 : FuncData} (C_below : Has P w K mg base "below" 1 ["one", "other"] (spBelow K) f1 fd1) (C_floor_of : Has P w K mg base "floor_of" 1 ["fraction"] (spFloor K) f2 fd2)
    (F : Fun K "simplest_between" "simplest_between" s_simplest_between f fd) : FnOk P w K mg base CX0 2 f fd ["low", "high"] (spSimplest K) := by
  refine F.ok sc_simplest_between (fun vs H Q E h => ?_) (fun cdv A outer s H vs Q E hr h => ?_)
  · obtain ⟨a, b, l, h, rfl, _⟩ := h
    rfl
  · obtain ⟨a0, b0, l0, h0, rfl, ha0, hb0, e0, q⟩ := h
    refine ⟨_, (pss_cons (ps_set (i := 2) sc_simplest_between.nd rfl (Or.inl rfl) (pe_lst pa_nil))
    (pss_cons (ps_while PassesOwn.never (pt_val pe_bl)
      (pss_cons (ps_set (i := 3) sc_simplest_between.nd rfl (Or.inl rfl) (pe_call C_floor_of.G (hr.mono (by decide)) (by rfl) C_floor_of.g C_floor_of.k C_floor_of.b .nil pass0 (pa_cons (pv 0) pa_nil)))
    (pss_cons (ps_if (PW.pt (pw_or (pt_cmpR op_isN (pv 1) pe_non (nomark _)) (pw_or1 (pt_val (pe_call C_below.G (hr.mono (by decide)) (by rfl) C_below.g C_below.k C_below.b .nil pass0 (pa_cons (pe_tup (pa_cons (pe_op op_add (pv 3) pe_int) (pa_cons pe_int pa_nil))) (pa_cons (pv 1) pa_nil)))))))
      (pss_one ps_break)
      pss_nil)
    (pss_cons (ps_expr (pe_bm PySem.F.plainAttrs_list PySem.F.slot_list_append PySem.F.type_list_append mt_append (pv 2) (pa_cons (pv 3) pa_nil)))
    (pss_cons (ps_set (i := 4) sc_simplest_between.nd rfl (Or.inl rfl) (pe_tup (pa_cons (pe_op op_sub (pe_ix ix_tup (pv 0) pe_int (fun _ _ => rfl)) (pe_op op_mulA (pv 3) (pe_ix ix_tup (pv 0) pe_int (fun _ _ => rfl)))) (pa_cons (pe_ix ix_tup (pv 0) pe_int (fun _ _ => rfl)) pa_nil))))
    (pss_cons (ps_set (i := 0) sc_simplest_between.nd rfl (Or.inl rfl) (pe_tup (pa_cons (pe_ix ix_tup (pv 1) pe_int (fun _ _ => rfl)) (pa_cons (pe_op op_sub (pe_ix ix_tup (pv 1) pe_int (fun _ _ => rfl)) (pe_op op_mulA (pv 3) (pe_ix ix_tup (pv 1) pe_int (fun _ _ => rfl)))) pa_nil))))
    (pss_one (ps_set (i := 1) sc_simplest_between.nd rfl (Or.inl rfl) (pe_ifExp (pt_truth (pe_ix ix_tup (pv 4) pe_int (fun _ _ => rfl)) (by intro _; rfl)) (pe_tup (pa_cons (pe_ix ix_tup (pv 4) pe_int (fun _ _ => rfl)) (pa_cons (pe_ix ix_tup (pv 4) pe_int (fun _ _ => rfl)) pa_nil))) pe_non)))))))))
    (pss_cons (ps_par (i := 5) (j := 6) (by rfl) sc_simplest_between.nd rfl rfl (by decide) rfl rfl (pa_cons (pe_op op_add (pv 3) pe_int) (pa_cons pe_int pa_nil)) (by rfl))
    (pss_cons (ps_for PassesOwn.never rfl (pi_list (pe_revL (pv 2))) (pg_name (i := 7) sc_simplest_between.nd rfl (Or.inl rfl))
      (pss_one (ps_par (i := 5) (j := 6) (by rfl) sc_simplest_between.nd rfl rfl (by decide) rfl rfl (pa_cons (pe_op op_add (pe_op op_mulA (pv 7) (pv 5)) (pv 6)) (pa_cons (pv 5) pa_nil)) (by rfl))))
    (pss_one (ps_ret (pe_tup (pa_cons (pv 5) (pa_cons (pv 6) pa_nil))))))))), ?_⟩
    refine ⟨Nat.zero_le _, fun L nL => ?_⟩
    refine ⟨fun μ σ H' => ∃ (a : Addr) (l : Int × Int) (h : Option (Int × Int)) (hv : V) (ws : List Int) (y3 y4 : Option V), σ = [some (.ref a), some hv, some (.ref L), y3, y4, none, none, none] ∧ Same H H' ∧ H' L = some (.lst (ws.map V.int)) ∧
        SqT K H' a [.int l.1, .int l.2] ∧ HiV K H' hv h ∧ Ends4 l h ∧ Steps ws (l0, some h0) (l, h) ∧ ws.length + μ ≤ 2000 ∧ μ = l.2.toNat + den h,
      ⟨_, a0, l0, some h0, _, [], none, none, rfl, same_upd nL, upd_same, Same.tup (same_upd nL) ha0, ⟨b0, rfl, Same.tup (same_upd nL) hb0⟩, e0, rfl, ?_, rfl⟩, ?_⟩
    · have := e0.2.1
      have := (e0.2.2 h0 rfl).2.1
      show 0 + (l0.2.toNat + h0.2.toNat) ≤ 2000
      omega
    rintro μ σ H1 ⟨a, l, h, hv, ws, y3, y4, rfl, s1, hL, ha, hh, en, st, hμ, rfl⟩
    refine ⟨true, rfl, iteT ?_⟩
    refine ⟨fun σ' H' => ∃ m', m' < l.2.toNat + den h ∧ _, fun _ _ z => z, ?_⟩
    have l0' := en.1
    have l1' := en.2.1
    have ml : Med l.2 := ⟨by omega, by omega⟩
    refine ⟨_, rfl, a, l, rfl, ha, l0', ml, ?_⟩
    dsimp only [gName]
    refine sTest_via (fun b H2 => Same H1 H2 ∧ (b = true ↔ ∀ r, h = some r → (l.1 / l.2 + 1) * r.2 < r.1)) (fun Q' k => ?_) ?_
    · cases h with
      | none =>
        obtain rfl : hv = .non := hh
        exact ⟨_, rfl, rfl, true, rfl, iteT (k _ _ ⟨fun _ _ z => z, iff_of_true rfl fun _ z => nomatch z⟩)⟩
      | some r =>
        obtain ⟨b, rfl, hb⟩ := hh
        have r0 := (en.2.2 r rfl).1
        have r1 := (en.2.2 r rfl).2.1
        refine ⟨_, rfl, rfl, false, rfl, iteF ?_⟩
        refine ⟨_, rfl, _, _, rfl, rfl, by show 2 ≤ sizeLine; decide, fun p np => ?_⟩
        have s2 := same_upd (o := .tup [.int (l.1 / l.2 + 1), .int 1]) np
        refine ⟨_, rfl, p, b, (l.1 / l.2 + 1, 1), r, rfl, .inl (.inl upd_same), Same.tup s2 hb, ⟨by show (-(2 ^ 62) : Int) < 1; decide, by show (1 : Int) < 2 ^ 62; decide⟩, ⟨by omega, by omega⟩, ?_⟩
        refine ⟨_, rfl, k _ _ ⟨s2, ?_⟩⟩
        rw [decide_eq_true_iff, Int.mul_one]
        exact ⟨fun z r' e => by cases e; exact z, fun z => z r rfl⟩
    rintro b H2 ⟨s2, hb⟩
    cases b with
    | true =>
      refine iteT ?_
      have hb := hb.mp rfl
      have hL2 := s2 _ _ hL
      have s02 := s1.trans s2
      refine ⟨_, rfl, _, _, rfl, rfl, _, _, rfl, ?_⟩
      refine ⟨_, rfl, L, _, rfl, .inl (.inl hL2), fun R nR => ?_⟩
      have s3 := same_upd (o := .lst (ws.map V.int).reverse) nR
      refine ⟨R, rfl, ⟨_, .inl (.inl upd_same)⟩, for_list (K := K) (a := R) (xs := (ws.map V.int).reverse) (fun i σ H' => H' = upd H2 R (.lst (ws.map V.int).reverse) ∧ ∃ c p q y7, σ = [some (.ref a), some hv, some (.ref L), some (.int (l.1 / l.2)), y4, some (.int p), some (.int q), y7] ∧ Steps (ws.take (ws.length - i)) (l0, some h0) c ∧ Best c.1 c.2 p q)
        ⟨rfl, (l, h), _, _, none, rfl, by rw [Nat.sub_zero, List.take_length]; exact st, best_base l0' hb⟩ (fun i σ H' _ ⟨e, _⟩ => by rw [e]; exact .inl (.inl upd_same)) ?_ ?_⟩
      · rintro i x σ H4 hi ⟨rfl, c, p, q', y7, rfl, sc, bc⟩
        obtain ⟨us, wx, e1, e2, rfl⟩ := rev_at hi
        rw [e1] at sc
        obtain ⟨b, sb, hb2, sm⟩ := sc.last
        have z := bc.small sm
        refine ⟨_, rfl, _, rfl, _, _, rfl, rfl, mulOkR (by omega) (by omega), _, rfl, _, _, rfl, rfl, _, rfl, _, _, rfl, ?_⟩
        exact ⟨rfl, b, _, _, _, rfl, by rw [e2]; exact sb, hb2 _ _ bc⟩
      · rintro σ H4 ⟨rfl, c, p, q', y7, rfl, sc, bc⟩
        rw [List.length_reverse, List.length_map, Nat.sub_self, List.take_zero] at sc
        cases sc
        refine ⟨_, rfl, _, rfl, by show 2 ≤ sizeLine; decide, fun t nt => ?_⟩
        exact q t p q' _ (s02.trans (s3.trans (same_upd nt))) upd_same bc
    | false =>
      refine iteF ?_
      have hb : ¬ ∀ r, h = some r → (l.1 / l.2 + 1) * r.2 < r.1 := fun z => nomatch hb.mpr z
      cases h with
      | none => exact absurd (fun r e => nomatch e) hb
      | some r =>
        have hb : ¬ (l.1 / l.2 + 1) * r.2 < r.1 := fun z => hb fun r' e => by cases e; exact z
        obtain ⟨b, rfl, hbT⟩ := HiV.same s2 hh
        have haT := Same.tup s2 ha
        have hL2 := s2 _ _ hL
        have s02 := s1.trans s2
        obtain ⟨r0, r1, lt⟩ := en.2.2 r rfl
        have stp := step_of l0' l1' r0 r1 lt hb
        have e3 := small_ends stp.2
        have mr : Med r.2 := ⟨by omega, by omega⟩
        -- parts.append(whole)
        refine ⟨_, rfl, .inl ⟨rfl, _, .inl (.inl hL2)⟩, _, rfl, L, _, _, rfl, rfl, hL2, ?_, ?_⟩
        · rw [List.length_map]
          have : 2000 < sizeLine := by decide
          omega
        have k3 := Keep.upd L H2 (.lst (ws.map V.int ++ [.int (l.1 / l.2)]))
        have s03 := same_keep nL s02 k3
        have ha3 := keep_tupD k3 hL2 haT
        have hb3 := keep_tupD k3 hL2 hbT
        have hL3 : (upd H2 L (.lst (ws.map V.int ++ [.int (l.1 / l.2)]))) L = some (.lst ((ws ++ [l.1 / l.2]).map V.int)) := by
          rw [upd_same, List.map_append]
          rfl
        generalize upd H2 L (.lst (ws.map V.int ++ [.int (l.1 / l.2)])) = H3 at *
        -- rest
        refine ⟨_, rfl, a, _, _, _, rfl, rfl, ha3, rfl, _, rfl, _, rfl, a, _, _, _, rfl, rfl, ha3, rfl, _, _, rfl, rfl, ml.r, _, _, rfl, rfl, _, rfl, a, _, _, _, rfl, rfl, ha3, rfl, by show 2 ≤ sizeLine; decide, fun t4 n4 => ?_⟩
        have s4 := same_upd (o := .tup [.int (l.1 - l.1 / l.2 * l.2), .int l.2]) n4
        have ht4 : SqT K (upd H3 t4 (.tup [.int (l.1 - l.1 / l.2 * l.2), .int l.2])) t4 [.int (l.1 - l.1 / l.2 * l.2), .int l.2] := .inl (.inl upd_same)
        generalize upd H3 t4 (.tup [.int (l.1 - l.1 / l.2 * l.2), .int l.2]) = H4 at *
        have hb4 := Same.tup s4 hb3
        -- low
        refine ⟨_, rfl, b, _, _, _, rfl, rfl, hb4, rfl, _, rfl, b, _, _, _, rfl, rfl, hb4, rfl, _, rfl, _, rfl, b, _, _, _, rfl, rfl, hb4, rfl, _, _, rfl, rfl, mr.r, _, _, rfl, rfl, by show 2 ≤ sizeLine; decide, fun t5 n5 => ?_⟩
        have s5 := same_upd (o := .tup [.int r.2, .int (r.1 - l.1 / l.2 * r.2)]) n5
        have ht5 : SqT K (upd H4 t5 (.tup [.int r.2, .int (r.1 - l.1 / l.2 * r.2)])) t5 [.int (nextL (l.1 / l.2) r).1, .int (nextL (l.1 / l.2) r).2] := .inl (.inl upd_same)
        generalize upd H4 t5 (.tup [.int r.2, .int (r.1 - l.1 / l.2 * r.2)]) = H5 at *
        have ht4 := Same.tup s5 ht4
        have s05 := s03.trans (s4.trans s5)
        have hL5 := s5 _ _ (s4 _ _ hL3)
        -- high
        refine ⟨_, rfl, t4, _, _, _, rfl, rfl, ht4, rfl, _, rfl, ?_⟩
        have lenok : (ws ++ [l.1 / l.2]).length = ws.length + 1 := by simp
        have hμ2 : ws.length + (l.2.toNat + r.2.toNat) ≤ 2000 := hμ
        have stn := st.snoc stp
        have dl := e3.1
        have kp : (nextL (l.1 / l.2) r).2 = r.1 - l.1 / l.2 * r.2 := rfl
        have k1 := Int.ediv_mul_le l.1 (show l.2 ≠ 0 by omega)
        have k2 := Int.lt_ediv_add_one_mul_self l.1 l0'
        have e1 : (l.1 / l.2 + 1) * r.2 = l.1 / l.2 * r.2 + r.2 := by grind
        have e2 : (l.1 / l.2 + 1) * l.2 = l.1 / l.2 * l.2 + l.2 := by grind
        by_cases hz : l.1 - l.1 / l.2 * l.2 = 0
        · have eN : nextH (l.1 / l.2) l = none := if_pos hz
          rw [eN] at stn e3
          have dm : (nextL (l.1 / l.2) r).2.toNat + den none < l.2.toNat + r.2.toNat := by
            rw [kp]
            show (r.1 - l.1 / l.2 * r.2).toNat + 0 < _
            omega
          rw [show ((l.1 - l.1 / l.2 * l.2) != 0) = false by rw [hz]; rfl]
          refine iteF ?_
          refine ⟨_, dm, t5, _, none, _, ws ++ [l.1 / l.2], _, _, rfl, s05, hL5, ht5, rfl, e3, stn, ?_, rfl⟩
          rw [lenok]
          omega
        · have eN : nextH (l.1 / l.2) l = some (l.2, l.1 - l.1 / l.2 * l.2) := if_neg hz
          rw [eN] at stn e3
          have dm : (nextL (l.1 / l.2) r).2.toNat + den (some (l.2, l.1 - l.1 / l.2 * l.2)) < l.2.toNat + r.2.toNat := by
            rw [kp]
            show (r.1 - l.1 / l.2 * r.2).toNat + (l.1 - l.1 / l.2 * l.2).toNat < _
            omega
          rw [show ((l.1 - l.1 / l.2 * l.2) != 0) = true from bne_iff_ne.mpr hz]
          refine iteT ?_
          refine ⟨_, rfl, t4, _, _, _, rfl, rfl, ht4, rfl, _, rfl, t4, _, _, _, rfl, rfl, ht4, rfl, by show 2 ≤ sizeLine; decide, fun t6 n6 => ?_⟩
          have s6 := same_upd (o := .tup [.int l.2, .int (l.1 - l.1 / l.2 * l.2)]) n6
          refine ⟨_, dm, t5, _, some (l.2, l.1 - l.1 / l.2 * l.2), _, ws ++ [l.1 / l.2], _, _, rfl, s05.trans s6, s6 _ _ hL5, Same.tup s6 ht5, ⟨t6, rfl, .inl (.inl upd_same)⟩, e3, stn, ?_, rfl⟩
          rw [lenok]
          omega
end
end K14

namespace K14
open PySem PySem.Spec PyProof.Rows L2 My M50
local macro_rules | `(tactic| walk_at "side") => `(tactic| (first
  | assumption
  | (refine OkMod.mk ?_; omega)
  | (refine mulOkL ?_ ?_ <;> omega)
  | (refine mulOkR ?_ ?_ <;> omega)
  | (refine divOk ?_ ?_ <;> omega)))
local macro_rules | `(tactic| walk_at "rd") => `(tactic| (first
  | with_reducible refine ⟨_, rfl, ?_⟩
  | refine ⟨_, rfl, ?_⟩
  | refine ⟨_, _, rfl, rfl, ?_⟩
  | refine And.intro (by walk_at "side") ?_
  | refine ⟨_, _, rfl, asm (by assumption), ?_⟩
  | refine ⟨_, _, rfl, asm ?_⟩))
section
variable {P : Program} {w : World} {K : PySem.W.Frag} {mg : Str → Option Value} {base : Heap}

/-! ### Line, Stairs, Crooked -/
structure LineC (K : PySem.W.Frag) (C : Addr) : Prop where
  cl : Cls K C
  na : NoAttr K C "a"
  nb : NoAttr K C "b"
  nm : NoAttr K C "m"
def LineAt (H : Hp) (C x : Addr) (a b m : Int) : Prop := ∃ dx, H x = some (.ins C dx [("a", .int a), ("b", .int b), ("m", .int m)])
theorem LineAt.same {H H' : Hp} {C x : Addr} {a b m : Int} (e : Same H H') : LineAt H C x a b m → LineAt H' C x a b m := fun ⟨dx, h⟩ => ⟨dx, e _ _ h⟩
def spLineI (C : Addr) : Sp := fun vs H Q _ => ∃ x dx a b m, vs = [.ref x, .int a, .int b, .int m] ∧ H x = some (.ins C dx []) ∧ 1 ≤ m ∧ ∀ H', Keep x H H' → H' x = some (.ins C dx [("a", .int a), ("b", .int b), ("m", .int m)]) → Q .non H'
theorem ok_LineI {f f1 f2 C CB : Addr} {fd fd1 fd2 : FuncData} (R : LineC K C) (C_check_numbers : HasX P w K mg base "check_numbers" 2 ["values"] (spCheckNums K CB) f1 fd1) (C_check_from : Has P w K mg base "check_from" 2 ["least", "value"] spCheckFrom f2 fd2)
    (F : Fun K "__init__" "Line.__init__" s_Line___init__ f fd) : FnOk P w K mg base CX0 3 f fd ["self", "a", "b", "m"] (spLineI C) := by
  refine F.ok sc_Line___init__ (fun vs H Q E h => ?_) (fun cdv A outer s H vs Q E hr h => ?_)
  · obtain ⟨x, dx, a, b, m, rfl, _⟩ := h
    rfl
  · obtain ⟨x, dx, a, b, m, rfl, hx, hm, q⟩ := h
    refine ⟨_, (pss_cons (ps_expr (pe_call C_check_numbers.G (hr.mono (by decide)) (by rfl) C_check_numbers.g C_check_numbers.k C_check_numbers.b .nil passL (pa_cons (pe_lst (pa_cons (pv 1) (pa_cons (pv 2) (pa_cons (pv 3) pa_nil)))) pa_nil)))
    (pss_cons (ps_expr (pe_call C_check_from.G (hr.mono (by decide)) (by rfl) C_check_from.g C_check_from.k C_check_from.b .nil pass0 (pa_cons pe_int (pa_cons (pv 3) pa_nil))))
    (pss_cons (ps_fld (pv 0) (pv 1) rfl)
    (pss_cons (ps_fld (pv 0) (pv 2) rfl)
    (pss_one (ps_fld (pv 0) (pv 3) rfl)))))), ?_⟩
    refine ⟨_, rfl, _, rfl, _, rfl, by show 3 ≤ sizeLine; decide, fun p np => ?_⟩
    refine ⟨p, _, rfl, .inl (.inl (.inl upd_same)), .inl ⟨fun z hz => ?_, ?_⟩⟩
    · simp only [List.mem_cons, List.not_mem_nil, or_false] at hz
      rcases hz with rfl | rfl | rfl <;> exact ⟨_, rfl⟩
    refine ⟨_, rfl, 1, m, rfl, hm, ?_⟩
    have s1 := same_upd (o := .lst [.int a, .int b, .int m]) np
    have hx1 := s1 _ _ hx
    generalize upd H p (.lst [.int a, .int b, .int m]) = H1 at *
    refine ⟨_, rfl, _, rfl, x, C, dx, _, rfl, hx1, R.cl, R.na, by show 0 < 1000; decide, ?_⟩
    refine ⟨_, rfl, _, rfl, x, C, dx, _, rfl, upd_same, R.cl, R.nb, by show 1 < 1000; decide, ?_⟩
    refine ⟨_, rfl, _, rfl, x, C, dx, _, rfl, upd_same, R.cl, R.nm, by show 2 < 1000; decide, ?_⟩
    exact q _ ((Keep.of s1).trans ((Keep.upd x _ _).trans ((Keep.upd x _ _).trans (Keep.upd x _ _)))) upd_same
def spLineAt (C : Addr) : Sp := fun vs H Q _ => ∃ p a b m x, vs = [.ref p, .int x] ∧ LineAt H C p a b m ∧ 1 ≤ m ∧ Med m ∧ Med x ∧ Q (.int ((a * x + b) / m)) H
theorem ok_LineAt {f C : Addr} {fd : FuncData} (R : LineC K C) (F : Fun K "at" "Line.at" s_Line_at f fd) : FnOk P w K mg base CX0 1 f fd ["self", "x"] (spLineAt C) := by
  refine F.ok sc_Line_at (fun vs H Q E h => ?_) (fun cdv A outer s H vs Q E hr h => ?_)
  · obtain ⟨p, a, b, m, x, rfl, _⟩ := h
    rfl
  · obtain ⟨p, a, b, m, x, rfl, ⟨dx, hp⟩, m1, mm, mx, q⟩ := h
    refine ⟨_, (pss_one (ps_ret (pe_op op_fdivA (pe_op op_add (pe_op op_mulA (pe_fld (pv 0) rfl) (pv 1)) (pe_fld (pv 0) rfl)) (pe_fld (pv 0) rfl)))), ?_⟩
    refine ⟨_, rfl, p, C, dx, _, _, rfl, hp, R.cl, R.na, rfl, _, rfl, _, _, rfl, rfl, mx.r, _, rfl, p, C, dx, _, _, rfl, hp, R.cl, R.nb, rfl, _, _, rfl, rfl, ?_⟩
    exact ⟨_, rfl, p, C, dx, _, _, rfl, hp, R.cl, R.nm, rfl, _, _, rfl, rfl, divOk (by omega) (by have := mm.2; omega), q⟩
structure StairsC (K : PySem.W.Frag) (C : Addr) : Prop where
  cl : Cls K C
  nl : NoAttr K C "line"
  no : NoAttr K C "low"
  nh : NoAttr K C "high"
structure CrookC (K : PySem.W.Frag) (C : Addr) : Prop where
  cl : Cls K C
  no : NoAttr K C "low"
  nh : NoAttr K C "high"
def spStairsI (C : Addr) : Sp := fun vs H Q _ => ∃ x dx l o h, vs = [.ref x, l, o, h] ∧ H x = some (.ins C dx []) ∧ ∀ H', Keep x H H' → H' x = some (.ins C dx [("line", l), ("low", o), ("high", h)]) → Q .non H'
theorem ok_StairsI {f C : Addr} {fd : FuncData} (R : StairsC K C) (F : Fun K "__init__" "Stairs.__init__" s_Stairs___init__ f fd) : FnOk P w K mg base CX0 1 f fd ["self", "line", "low", "high"] (spStairsI C) := by
  refine F.ok sc_Stairs___init__ (fun vs H Q E h => ?_) (fun cdv A outer s H vs Q E hr h => ?_)
  · obtain ⟨x, dx, l, o, h, rfl, _⟩ := h
    rfl
  · obtain ⟨x, dx, l, o, h, rfl, hx, q⟩ := h
    refine ⟨_, (pss_cons (ps_fld (pv 0) (pv 1) rfl)
    (pss_cons (ps_fld (pv 0) (pv 2) rfl)
    (pss_one (ps_fld (pv 0) (pv 3) rfl)))), ?_⟩
    refine ⟨_, rfl, _, rfl, x, C, dx, _, rfl, hx, R.cl, R.nl, by show 0 < 1000; decide, ?_⟩
    refine ⟨_, rfl, _, rfl, x, C, dx, _, rfl, upd_same, R.cl, R.no, by show 1 < 1000; decide, ?_⟩
    refine ⟨_, rfl, _, rfl, x, C, dx, _, rfl, upd_same, R.cl, R.nh, by show 2 < 1000; decide, ?_⟩
    exact q _ ((Keep.upd x _ _).trans ((Keep.upd x _ _).trans (Keep.upd x _ _))) upd_same
def spCrookI (C : Addr) : Sp := fun vs H Q _ => ∃ x dx o h, vs = [.ref x, o, h] ∧ H x = some (.ins C dx []) ∧ ∀ H', Keep x H H' → H' x = some (.ins C dx [("low", o), ("high", h)]) → Q .non H'
theorem ok_CrookI {f C : Addr} {fd : FuncData} (R : CrookC K C) (F : Fun K "__init__" "Crooked.__init__" s_Crooked___init__ f fd) : FnOk P w K mg base CX0 1 f fd ["self", "low", "high"] (spCrookI C) := by
  refine F.ok sc_Crooked___init__ (fun vs H Q E h => ?_) (fun cdv A outer s H vs Q E hr h => ?_)
  · obtain ⟨x, dx, o, h, rfl, _⟩ := h
    rfl
  · obtain ⟨x, dx, o, h, rfl, hx, q⟩ := h
    refine ⟨_, (pss_cons (ps_fld (pv 0) (pv 1) rfl)
    (pss_one (ps_fld (pv 0) (pv 2) rfl))), ?_⟩
    refine ⟨_, rfl, _, rfl, x, C, dx, _, rfl, hx, R.cl, R.no, by show 0 < 1000; decide, ?_⟩
    refine ⟨_, rfl, _, rfl, x, C, dx, _, rfl, upd_same, R.cl, R.nh, by show 1 < 1000; decide, ?_⟩
    exact q _ ((Keep.upd x _ _).trans (Keep.upd x _ _)) upd_same
/-! ### Line.__eq__ -/
def spEqLine (C : Addr) : Sp := fun vs H Q _ => ∃ x a b m, vs = [.ref x, .ref x] ∧ LineAt H C x a b m ∧ Q (.bl true) H
theorem ok_LineEq {f CL : Addr} {fd : FuncData} (T : Nm mg) (gL : mg "Line" = some (.ref CL)) (R : LineC K CL) (IL : ClsI K CL) (IO : ObjI K) (F : Fun K "__eq__" "Line.__eq__" s_Line___eq__ f fd) : FnOk P w K mg base CX0 1 f fd ["self", "other"] (spEqLine CL) := by
  refine F.ok sc_Line___eq__ (fun vs H Q E h => ?_) (fun cdv A outer s H vs Q E hr h => ?_)
  · obtain ⟨x, a, b, m, rfl, _⟩ := h
    rfl
  · obtain ⟨x, a, b, m, rfl, ⟨dx, hx⟩, q⟩ := h
    refine ⟨_, (pss_one (ps_ret (pe_and (pe_callB call_isi (by rfl) T.isinstance (by decide +kernel) (pa_cons (pv 1) (pa_cons (pe_glob (v := .ref CL) rfl gL rfl) pa_nil))) (pe_and (pe_cmpR op_eq (pe_fld (pv 0) rfl) (pe_fld (pv 1) rfl) (nomark _)) (pe_and (pe_cmpR op_eq (pe_fld (pv 0) rfl) (pe_fld (pv 1) rfl) (nomark _)) (pe_one (pe_cmpR op_eq (pe_fld (pv 0) rfl) (pe_fld (pv 1) rfl) (nomark _)))))))), ?_⟩
    refine ⟨_, rfl, _, _, _, _, _, rfl, .own CL, .base (.ins hx R.cl IL.ha IO.hn IO.ht IL.hm), IL.own, true, rfl, iteT ?_⟩
    refine ⟨_, rfl, x, CL, dx, _, _, rfl, hx, R.cl, R.na, rfl, _, rfl, x, CL, dx, _, _, rfl, hx, R.cl, R.na, rfl, rfl, _, rfl, ?_⟩
    rw [decide_eq_true (rfl : V.int a = V.int a)]
    refine iteT ?_
    refine ⟨_, rfl, x, CL, dx, _, _, rfl, hx, R.cl, R.nb, rfl, _, rfl, x, CL, dx, _, _, rfl, hx, R.cl, R.nb, rfl, rfl, _, rfl, ?_⟩
    rw [decide_eq_true (rfl : V.int b = V.int b)]
    refine iteT ?_
    refine ⟨_, rfl, x, CL, dx, _, _, rfl, hx, R.cl, R.nm, rfl, _, rfl, x, CL, dx, _, _, rfl, hx, R.cl, R.nm, rfl, rfl, ?_⟩
    rw [decide_eq_true (rfl : V.int m = V.int m)]
    exact q
def spBool (b : Bool) : Sp := fun vs H Q _ => ∃ x, vs = [x] ∧ Q (.bl b) H
theorem ok_StairsB {f : Addr} {fd : FuncData} (F : Fun K "__bool__" "Stairs.__bool__" s_Stairs___bool__ f fd) : FnOk P w K mg base CX0 1 f fd ["self"] (spBool true) := by
  refine F.ok sc_Stairs___bool__ (fun vs H Q E h => ?_) (fun cdv A outer s H vs Q E hr h => ?_)
  · obtain ⟨x, rfl, _⟩ := h
    rfl
  · obtain ⟨x, rfl, q⟩ := h
    exact ⟨_, (pss_one (ps_ret pe_bl)), q⟩
theorem ok_CrookB {f : Addr} {fd : FuncData} (F : Fun K "__bool__" "Crooked.__bool__" s_Crooked___bool__ f fd) : FnOk P w K mg base CX0 1 f fd ["self"] (spBool false) := by
  refine F.ok sc_Crooked___bool__ (fun vs H Q E h => ?_) (fun cdv A outer s H vs Q E hr h => ?_)
  · obtain ⟨x, rfl, _⟩ := h
    rfl
  · obtain ⟨x, rfl, q⟩ := h
    exact ⟨_, (pss_one (ps_ret pe_bl)), q⟩
/-! ### bounds of a row's numbers -/
def rowL (g : Nat → Int) (n : Nat) : List V := (List.range n).map fun x => V.int (g x)
theorem rowL_at {g : Nat → Int} {n i : Nat} (h : i < n) : (rowL g n)[i]? = some (.int (g i)) := by
  unfold rowL
  rw [List.getElem?_map, List.getElem?_range h]
  rfl
theorem rowL_len (g : Nat → Int) (n : Nat) : (rowL g n).length = n := by
  unfold rowL
  rw [List.length_map, List.length_range]
theorem rowL_ints (g : Nat → Int) (n : Nat) : rowL g n = ((List.range n).map g).map V.int := by
  unfold rowL
  rw [List.map_map]
  rfl
theorem rowL_snoc (g : Nat → Int) (n : Nat) : rowL g (n + 1) = rowL g n ++ [.int (g n)] := by
  unfold rowL
  rw [List.range_succ, List.map_append]
  rfl
def spBound (K : PySem.W.Frag) (c : Int) : Sp := fun vs H Q _ => ∃ (r p : Addr) (g : Nat → Int) (n i j : Nat), vs = [.ref r, .ref p] ∧ SqA K H r (rowL g n) ∧ SqT K H p [.int i, .int j] ∧ i < n ∧ j < n ∧
  ∀ t H', Same H H' → H' t = some (.tup [.int (g j - g i + c), .int ((j : Int) - i)]) → Q (.ref t) H'
theorem ok_lower_bound {f : Addr} {fd : FuncData} (F : Fun K "lower_bound" "lower_bound" s_lower_bound f fd) : FnOk P w K mg base CX0 1 f fd ["row", "pair"] (spBound K (-1)) := by
  refine F.ok sc_lower_bound (fun vs H Q E h => ?_) (fun cdv A outer s H vs Q E hr h => ?_)
  · obtain ⟨r, p, g, n, i, j, rfl, _⟩ := h
    rfl
  · obtain ⟨r, p, g, n, i, j, rfl, hr', hp, hi, hj, q⟩ := h
    refine ⟨_, (pss_cons (ps_asg (pv 1) (pg_tup rfl (pgs_cons (pg_name (i := 2) sc_lower_bound.nd rfl (Or.inl rfl)) (pgs_cons (pg_name (i := 3) sc_lower_bound.nd rfl (Or.inl rfl)) pgs_nil))))
    (pss_one (ps_ret (pe_tup (pa_cons (pe_op op_sub (pe_op op_sub (pe_ix My.ix_seq (pv 0) (pv 3) (fun _ _ => rfl)) (pe_ix My.ix_seq (pv 0) (pv 2) (fun _ _ => rfl))) pe_int) (pa_cons (pe_op op_sub (pv 3) (pv 2)) pa_nil)))))), ?_⟩
    refine ⟨_, rfl, p, _, rfl, hp, rfl, _, _, rfl, _, _, rfl, rfl, ?_⟩
    refine ⟨_, rfl, _, rfl, r, _, _, _, rfl, rfl, hr', atI_nat (rowL_at hj), _, rfl, _, rfl, r, _, _, _, rfl, rfl, hr', atI_nat (rowL_at hi), _, _, rfl, rfl, _, _, rfl, rfl, ?_⟩
    refine ⟨_, rfl, _, rfl, _, _, rfl, rfl, by show 2 ≤ sizeLine; decide, fun t nt => ?_⟩
    exact q t _ (same_upd nt) upd_same
theorem ok_upper_bound {f : Addr} {fd : FuncData} (F : Fun K "upper_bound" "upper_bound" s_upper_bound f fd) : FnOk P w K mg base CX0 1 f fd ["row", "pair"] (spBound K 1) := by
  refine F.ok sc_upper_bound (fun vs H Q E h => ?_) (fun cdv A outer s H vs Q E hr h => ?_)
  · obtain ⟨r, p, g, n, i, j, rfl, _⟩ := h
    rfl
  · obtain ⟨r, p, g, n, i, j, rfl, hr', hp, hi, hj, q⟩ := h
    refine ⟨_, (pss_cons (ps_asg (pv 1) (pg_tup rfl (pgs_cons (pg_name (i := 2) sc_upper_bound.nd rfl (Or.inl rfl)) (pgs_cons (pg_name (i := 3) sc_upper_bound.nd rfl (Or.inl rfl)) pgs_nil))))
    (pss_one (ps_ret (pe_tup (pa_cons (pe_op op_add (pe_op op_sub (pe_ix My.ix_seq (pv 0) (pv 3) (fun _ _ => rfl)) (pe_ix My.ix_seq (pv 0) (pv 2) (fun _ _ => rfl))) pe_int) (pa_cons (pe_op op_sub (pv 3) (pv 2)) pa_nil)))))), ?_⟩
    refine ⟨_, rfl, p, _, rfl, hp, rfl, _, _, rfl, _, _, rfl, rfl, ?_⟩
    refine ⟨_, rfl, _, rfl, r, _, _, _, rfl, rfl, hr', atI_nat (rowL_at hj), _, rfl, _, rfl, r, _, _, _, rfl, rfl, hr', atI_nat (rowL_at hi), _, _, rfl, rfl, _, _, rfl, rfl, ?_⟩
    refine ⟨_, rfl, _, rfl, _, _, rfl, rfl, by show 2 ≤ sizeLine; decide, fun t nt => ?_⟩
    exact q t _ (same_upd nt) upd_same
theorem tYes_in {A B : Hp → Prop} {σ : L2.St} {H : Hp} (h : A H) : tYes σ H (fun b H3 => if b = true then A H3 else B H3) := by
  show if true = true then A H else B H
  exact iteT h
/-! ### least_offset -/
def spOffset (K : PySem.W.Frag) : Sp := fun vs H Q _ => ∃ (r : Addr) (a m : Int) (g : Nat → Int) (n : Nat), vs = [.ref r, .int a, .int m] ∧ SqA K H r (rowL g n) ∧ 0 < n ∧ n ≤ 100000 ∧ Med m ∧ ∀ (b : Int) H', Same H H' → Off g n a m b → Q (.int b) H'
theorem ok_least_offset {f : Addr} {fd : FuncData} (T : Nm mg) (F : Fun K "least_offset" "least_offset" s_least_offset f fd) : FnOk P w K mg base CX0 1 f fd ["row", "a", "m"] (spOffset K) := by
  refine F.ok sc_least_offset (fun vs H Q E h => ?_) (fun cdv A outer s H vs Q E hr h => ?_)
  · obtain ⟨r, a, m, g, n, rfl, _⟩ := h
    rfl
  · obtain ⟨r, a, m, g, n, rfl, hr', n0, n1, mm, q⟩ := h
    refine ⟨_, (pss_one (ps_ret (pe_callB (cr_max rfl) (by rfl) T.max (by decide +kernel) (pa_cons (pe_lc (own := [("x", 3), ("number", 4)]) (g := gTup K 2 (gCons (gName 3) (gCons (gName 4) (gNil)))) (by rfl) sc_least_offset.nd (pi_enumV (pv 0) (by rfl) T.enumerate) (by exact blkOk_by (N := ["row", "a", "m", "x", "number"]) (sc := defScope s_least_offset) (by decide +kernel)) (fun _ _ _ _ _ => by exact (pg_tup rfl (pgs_cons (pg_name (i := 3) sc_least_offset.nd rfl (Or.inl rfl)) (pgs_cons (pg_name (i := 4) sc_least_offset.nd rfl (Or.inl rfl)) pgs_nil)))) (fun _ _ _ _ _ => pts_nil) (fun _ _ _ _ _ => (pe_op op_sub (pe_op op_mulA (pv 2) (pv 4)) (pe_op op_mulA (pv 1) (pv 3))))) pa_nil)))), ?_⟩
    refine ⟨r, _, rfl, hr', fun J G g0 gk wk => ?_⟩
    refine fun D hD => lc_it wk (fun i H' => Same H H' ∧ H' D = some (.lst (((List.range i).map fun x => m * g x - a * (x : Int)).map V.int))) ⟨same_upd hD, upd_same⟩ (fun i H' _ z => gk H' (Same.seq z.1) (Same.tup z.1)) ?_ ?_
    · rintro i x H1 H2 hi ⟨s1, h1⟩ ⟨T, u, v, rfl, nT, rfl, e1, e2⟩
      rw [rowL_len] at hi
      have e2 : (rowL g n)[i]? = some v := e2
      rw [rowL_at hi] at e2
      cases e1
      cases e2
      refine ⟨T, _, rfl, .inl (.inl upd_same), rfl, _, _, rfl, _, _, rfl, rfl, rfl, tYes_in ?_⟩
      have mi : Med (i : Int) := ⟨by omega, by omega⟩
      have s2 := same_upd (o := .tup [.int (i : Int), .int (g i)]) nT
      refine ⟨_, rfl, _, rfl, _, _, rfl, rfl, mm.l, _, rfl, _, rfl, _, _, rfl, rfl, mi.r, _, _, rfl, rfl, _, s2 _ _ h1, ?_, ?_, ?_⟩
      · rw [List.length_map, List.length_map, List.length_range]
        have : 100000 < sizeLine := by decide
        omega
      · exact same_keep hD (s1.trans s2) (Keep.upd D _ _)
      · rw [upd_same, List.range_succ, List.map_append, List.map_append]
        rfl
    · rintro H1 ⟨s1, h1⟩
      refine ⟨D, _, rfl, .inl (.inl h1), by rw [List.length_map, List.length_range]; rw [rowL_len]; exact n0, fun b hb hm => q b H1 s1 ?_⟩
      rw [rowL_len] at hb hm
      refine ⟨fun x hx => hm _ (List.mem_map.mpr ⟨x, List.mem_range.mpr hx, rfl⟩), ?_⟩
      obtain ⟨x, hx, e⟩ := List.mem_map.mp hb
      exact ⟨x, List.mem_range.mp hx, e.symm⟩
end
end K14

namespace K14
open PySem PySem.Spec PyProof.Rows L2 My M50
local macro_rules | `(tactic| walk_at "side") => `(tactic| (first
  | assumption
  | (refine OkMod.mk ?_; omega)
  | (refine mulOkL ?_ ?_ <;> omega)
  | (refine mulOkR ?_ ?_ <;> omega)
  | (refine divOk ?_ ?_ <;> omega)))
local macro_rules | `(tactic| walk_at "rd") => `(tactic| (first
  | with_reducible refine ⟨_, rfl, ?_⟩
  | refine ⟨_, rfl, ?_⟩
  | refine ⟨_, _, rfl, rfl, ?_⟩
  | refine And.intro (by walk_at "side") ?_
  | refine ⟨_, _, rfl, asm (by assumption), ?_⟩
  | refine ⟨_, _, rfl, asm ?_⟩))
section
variable {P : Program} {w : World} {K : PySem.W.Frag} {mg : Str → Option Value} {base : Heap}

/-! ### stairs_of -/
def StairsAt (K : PySem.W.Frag) (H : Hp) (CS CL : Addr) (g : Nat → Int) (n : Nat) (p : Addr) (a b m : Int) : Prop := ∃ dx l o h, ∃ i j k q : Nat, H p = some (.ins CS dx [("line", .ref l), ("low", .ref o), ("high", .ref h)]) ∧ LineAt H CL l a b m ∧ SqT K H o [.int i, .int j] ∧ SqT K H h [.int k, .int q] ∧
  LoAt g n i j ∧ UpAt g n k q ∧ Best (g j - g i - 1, (j : Int) - i) (some (g q - g k + 1, (q : Int) - k)) a m ∧ Off g n a m b ∧ m ≤ 2000
def CrookAt (K : PySem.W.Frag) (H : Hp) (CC : Addr) (g : Nat → Int) (n : Nat) (p : Addr) : Prop := ∃ dx o h, ∃ i j k q : Nat, H p = some (.ins CC dx [("low", .ref o), ("high", .ref h)]) ∧ SqT K H o [.int i, .int j] ∧ SqT K H h [.int k, .int q] ∧
  LoAt g n i j ∧ UpAt g n k q ∧ ¬ (g j - g i - 1) * ((q : Int) - k) < (g q - g k + 1) * ((j : Int) - i)
theorem StairsAt.same {H H' : Hp} {CS CL p : Addr} {g : Nat → Int} {n : Nat} {a b m : Int} (e : Same H H') : StairsAt K H CS CL g n p a b m → StairsAt K H' CS CL g n p a b m :=
  fun ⟨dx, l, o, h, i, j, k, q, h1, h2, h3, h4, h5⟩ => ⟨dx, l, o, h, i, j, k, q, e _ _ h1, h2.same e, Same.tup e h3, Same.tup e h4, h5⟩
theorem CrookAt.same {H H' : Hp} {CC p : Addr} {g : Nat → Int} {n : Nat} (e : Same H H') : CrookAt K H CC g n p → CrookAt K H' CC g n p :=
  fun ⟨dx, o, h, i, j, k, q, h1, h3, h4, h5⟩ => ⟨dx, o, h, i, j, k, q, e _ _ h1, Same.tup e h3, Same.tup e h4, h5⟩
def spStairsOf (K : PySem.W.Frag) (CS CC CL : Addr) : Sp := fun vs H Q _ => ∃ (r : Addr) (g : Nat → Int) (n : Nat), vs = [.ref r] ∧ SqA K H r (rowL g n) ∧ 2 ≤ n ∧ n ≤ 200 ∧
  ∀ p H', Same H H' → ((∃ a b m, StairsAt K H' CS CL g n p a b m) ∨ CrookAt K H' CC g n p) → Q (.ref p) H'
structure PairI (K : PySem.W.Frag) (H : Hp) (n : Nat) (p : Addr) (i j : Nat) : Prop where
  t : SqT K H p [.int i, .int j]
  lt : i < j
  lj : j < n
theorem PairI.same {H H' : Hp} {n i j : Nat} {p : Addr} (e : Same H H') (z : PairI K H n p i j) : PairI K H' n p i j := ⟨Same.tup e z.t, z.lt, z.lj⟩
theorem ok_stairs_of {f f1 f2 f3 f4 f5 f6 f7 f8 CS CC CL : Addr} {fd fd1 fd2 fd3 fd4 fd5 fd6 fd7 fd8 : FuncData} (T : Nm mg) (C_below : Has P w K mg base "below" 1 ["one", "other"] (spBelow K) f1 fd1) (C_simplest_between : Has P w K mg base "simplest_between" 2 ["low", "high"] (spSimplest K) f2 fd2)
    (C_lower_bound : Has P w K mg base "lower_bound" 1 ["row", "pair"] (spBound K (-1)) f3 fd3) (C_upper_bound : Has P w K mg base "upper_bound" 1 ["row", "pair"] (spBound K 1) f4 fd4) (C_least_offset : Has P w K mg base "least_offset" 1 ["row", "a", "m"] (spOffset K) f5 fd5)
    (C_Line : Made P w K mg base "Line" 3 ["self", "a", "b", "m"] (spLineI CL) CL f6 fd6) (C_Stairs : Made P w K mg base "Stairs" 1 ["self", "line", "low", "high"] (spStairsI CS) CS f7 fd7) (C_Crooked : Made P w K mg base "Crooked" 1 ["self", "low", "high"] (spCrookI CC) CC f8 fd8)
    (F : Fun K "stairs_of" "stairs_of" s_stairs_of f fd) : FnOk P w K mg base CX0 5 f fd ["row"] (spStairsOf K CS CC CL) := by
  refine F.ok sc_stairs_of (fun vs H Q E h => ?_) (fun cdv A outer s H vs Q E hr h => ?_)
  · obtain ⟨r, g, n, rfl, _⟩ := h
    rfl
  · obtain ⟨r, g, n, rfl, hr', n2, n3, q⟩ := h
    have qS : ∀ p H' a b m, Same H H' → StairsAt K H' CS CL g n p a b m → Q (.ref p) H' := fun p H' a b m s z => q p H' s (.inl ⟨a, b, m, z⟩)
    have qC : ∀ p H', Same H H' → CrookAt K H' CC g n p → Q (.ref p) H' := fun p H' s z => q p H' s (.inr z)
    clear q
    refine ⟨_, (pss_cons (ps_asg2 (pe_tup (pa_cons pe_int (pa_cons pe_int pa_nil))) (pg_name (i := 1) sc_stairs_of.nd rfl (Or.inl rfl)) (pg_name (i := 2) sc_stairs_of.nd rfl (Or.inl rfl)))
    (pss_cons (ps_for PassesOwn.never rfl (pi_range2 rfl T.range (pa_cons pe_int (pa_cons (pe_callB call_lenA (by rfl) T.len (by decide +kernel) (pa_cons (pv 0) pa_nil)) pa_nil))) (pg_name (i := 3) sc_stairs_of.nd rfl (Or.inl rfl))
      (pss_one (ps_for PassesOwn.never rfl (pi_range1 rfl T.range (pa_cons (pv 3) pa_nil)) (pg_name (i := 4) sc_stairs_of.nd rfl (Or.inl rfl))
      (pss_cons (ps_set (i := 5) sc_stairs_of.nd rfl (Or.inl rfl) (pe_tup (pa_cons (pv 4) (pa_cons (pv 3) pa_nil))))
    (pss_cons (ps_if (pt_val (pe_call C_below.G (hr.mono (by decide)) (by rfl) C_below.g C_below.k C_below.b .nil pass0 (pa_cons (pe_call C_lower_bound.G (hr.mono (by decide)) (by rfl) C_lower_bound.g C_lower_bound.k C_lower_bound.b .nil pass0 (pa_cons (pv 0) (pa_cons (pv 1) pa_nil))) (pa_cons (pe_call C_lower_bound.G (hr.mono (by decide)) (by rfl) C_lower_bound.g C_lower_bound.k C_lower_bound.b .nil pass0 (pa_cons (pv 0) (pa_cons (pv 5) pa_nil))) pa_nil))))
      (pss_one (ps_set (i := 1) sc_stairs_of.nd rfl (Or.inl rfl) (pv 5)))
      pss_nil)
    (pss_one (ps_if (pt_val (pe_call C_below.G (hr.mono (by decide)) (by rfl) C_below.g C_below.k C_below.b .nil pass0 (pa_cons (pe_call C_upper_bound.G (hr.mono (by decide)) (by rfl) C_upper_bound.g C_upper_bound.k C_upper_bound.b .nil pass0 (pa_cons (pv 0) (pa_cons (pv 5) pa_nil))) (pa_cons (pe_call C_upper_bound.G (hr.mono (by decide)) (by rfl) C_upper_bound.g C_upper_bound.k C_upper_bound.b .nil pass0 (pa_cons (pv 0) (pa_cons (pv 2) pa_nil))) pa_nil))))
      (pss_one (ps_set (i := 2) sc_stairs_of.nd rfl (Or.inl rfl) (pv 5)))
      pss_nil)))))))
    (pss_cons (ps_set (i := 6) sc_stairs_of.nd rfl (Or.inl rfl) (pe_call C_lower_bound.G (hr.mono (by decide)) (by rfl) C_lower_bound.g C_lower_bound.k C_lower_bound.b .nil pass0 (pa_cons (pv 0) (pa_cons (pv 1) pa_nil))))
    (pss_cons (ps_set (i := 7) sc_stairs_of.nd rfl (Or.inl rfl) (pe_call C_upper_bound.G (hr.mono (by decide)) (by rfl) C_upper_bound.g C_upper_bound.k C_upper_bound.b .nil pass0 (pa_cons (pv 0) (pa_cons (pv 2) pa_nil))))
    (pss_cons (ps_if (pt_not (pt_val (pe_call C_below.G (hr.mono (by decide)) (by rfl) C_below.g C_below.k C_below.b .nil pass0 (pa_cons (pv 6) (pa_cons (pv 7) pa_nil)))))
      (pss_one (ps_ret (pe_make C_Crooked.M C_Crooked.G (hr.mono (by decide)) (by rfl) C_Crooked.g C_Crooked.b .nil pass0 (pa_cons (pv 1) (pa_cons (pv 2) pa_nil)))))
      pss_nil)
    (pss_cons (ps_asg (pe_call C_simplest_between.G (hr.mono (by decide)) (by rfl) C_simplest_between.g C_simplest_between.k C_simplest_between.b .nil pass0 (pa_cons (pv 6) (pa_cons (pv 7) pa_nil))) (pg_tup rfl (pgs_cons (pg_name (i := 8) sc_stairs_of.nd rfl (Or.inl rfl)) (pgs_cons (pg_name (i := 9) sc_stairs_of.nd rfl (Or.inl rfl)) pgs_nil))))
    (pss_one (ps_ret (pe_make C_Stairs.M C_Stairs.G (hr.mono (by decide)) (by rfl) C_Stairs.g C_Stairs.b .nil pass0 (pa_cons (pe_make C_Line.M C_Line.G (hr.mono (by decide)) (by rfl) C_Line.g C_Line.b .nil pass0 (pa_cons (pv 8) (pa_cons (pe_call C_least_offset.G (hr.mono (by decide)) (by rfl) C_least_offset.g C_least_offset.k C_least_offset.b .nil pass0 (pa_cons (pv 0) (pa_cons (pv 8) (pa_cons (pv 9) pa_nil)))) (pa_cons (pv 9) pa_nil)))) (pa_cons (pv 1) (pa_cons (pv 2) pa_nil)))))))))))), ?_⟩
    refine ⟨by show 2 ≤ sizeLine; decide, fun t0 nt0 => ?_⟩
    have s0 := same_upd (o := .tup [.int 0, .int 1]) nt0
    have p0 : PairI K (upd H t0 (.tup [.int 0, .int 1])) n t0 0 1 := ⟨.inl (.inl upd_same), by omega, by omega⟩
    generalize upd H t0 (.tup [.int 0, .int 1]) = H0 at *
    -- the greatest and the least bound
    refine ⟨_, rfl, r, _, rfl, SqA.same s0 hr', 1, _, rfl, ⟨by decide, by decide, by omega, by rw [rowL_len]; omega⟩, for_range (lo := 1) (n := (((rowL g n).length : Int) - 1).toNat) (fun i σ H' => Same H H' ∧ ∃ al ah, ∃ i0 j0 i1 j1 : Nat, ∃ y3 y4 y5, σ = [some (.ref r), some (.ref al), some (.ref ah), y3, y4, y5, none, none, none, none] ∧
      PairI K H' n al i0 j0 ∧ PairI K H' n ah i1 j1 ∧ LoB g (Upto (i + 1) 0) i0 j0 ∧ UpB g (Upto (i + 1) 0) i1 j1) ⟨s0, t0, t0, 0, 1, 0, 1, none, none, none, rfl, p0, p0, ?_, ?_⟩ ?_ ?_⟩
    · intro i' j' h
      unfold Upto at h
      omega
    · intro i' j' h
      unfold Upto at h
      omega
    · rintro i σ H1 hi ⟨s1, al, ah, i0, j0, i1, j1, y3, y4, y5, rfl, hal, hah, bl, bu⟩
      rw [rowL_len] at hi
      have eL : (1 : Int) + (i : Int) = ((i + 1 : Nat) : Int) := by omega
      refine ⟨_, rfl, _, rfl, by omega, by omega, for_range (n := (1 + (i : Int)).toNat) (fun u σ H' => Same H H' ∧ ∃ al ah, ∃ i0 j0 i1 j1 : Nat, ∃ y4 y5, σ = [some (.ref r), some (.ref al), some (.ref ah), some (.int (1 + (i : Int))), y4, y5, none, none, none, none] ∧
        PairI K H' n al i0 j0 ∧ PairI K H' n ah i1 j1 ∧ LoB g (Upto (i + 1) u) i0 j0 ∧ UpB g (Upto (i + 1) u) i1 j1) ⟨s1, al, ah, i0, j0, i1, j1, y4, y5, rfl, hal, hah, bl, bu⟩ ?_ ?_⟩
      · clear hal hah bl bu s1
        rintro u σ H2 hu ⟨s2, al, ah, i0, j0, i1, j1, y4, y5, rfl, hal, hah, bl, bu⟩
        have eU : (0 : Int) + (u : Int) = (u : Int) := by omega
        refine ⟨_, rfl, _, rfl, by show 2 ≤ sizeLine; decide, fun tp np => ?_⟩
        have s3 := same_upd (o := .tup [.int (0 + (u : Int)), .int (1 + (i : Int))]) np
        have hp : PairI K (upd H2 tp (.tup [.int (0 + (u : Int)), .int (1 + (i : Int))])) n tp u (i + 1) := ⟨.inl (.inl (by rw [upd_same, eU, eL])), by omega, by omega⟩
        generalize upd H2 tp (.tup [.int (0 + (u : Int)), .int (1 + (i : Int))]) = H3 at *
        have hal := hal.same s3
        have hah := hah.same s3
        have s30 := s2.trans s3
        clear s2 s3
        have s3 := s30
        clear s30
        -- the lower ones
        dsimp only [gName]
        refine sTest_via (fun b H4 => Same H3 H4 ∧ (b = true ↔ (g j0 - g i0 - 1) * (((i + 1 : Nat) : Int) - u) < (g (i + 1) - g u - 1) * ((j0 : Int) - i0))) (fun Q' k => ?_) ?_
        · refine ⟨_, rfl, _, rfl, r, al, g, n, i0, j0, rfl, SqA.same s3 hr', hal.t, by have := hal.lt; have := hal.lj; omega, hal.lj, fun ta H4 s4 h4 => ?_⟩
          refine ⟨_, rfl, _, rfl, r, tp, g, n, u, i + 1, rfl, SqA.same (s3.trans s4) hr', Same.tup s4 hp.t, by omega, by omega, fun tb H5 s5 h5 => ?_⟩
          refine ⟨ta, tb, (g j0 - g i0 - 1, (j0 : Int) - i0), (g (i + 1) - g u - 1, ((i + 1 : Nat) : Int) - u), rfl, .inl (.inl (s5 _ _ h4)), .inl (.inl h5), ⟨by have := hal.lt; have := hal.lj; show -(2 ^ 62) < (j0 : Int) - i0; omega, by have := hal.lt; have := hal.lj; show (j0 : Int) - i0 < 2 ^ 62; omega⟩, ⟨by show -(2 ^ 62) < ((i + 1 : Nat) : Int) - u; omega, by show ((i + 1 : Nat) : Int) - u < 2 ^ 62; omega⟩, ?_⟩
          exact ⟨_, rfl, k _ _ ⟨s4.trans s5, decide_eq_true_iff⟩⟩
        -- low, as it is or new
        have step : ∀ (lo : Addr) (i2 j2 : Nat) H4, Same H H4 → Same H3 H4 → PairI K H4 n lo i2 j2 → LoB g (Upto (i + 1) (u + 1)) i2 j2 → PairI K H4 n ah i1 j1 → PairI K H4 n tp u (i + 1) →
            ∀ (D : Ends), (∀ H5 (hi' : Addr) (i3 j3 : Nat), Same H H5 → PairI K H5 n lo i2 j2 → PairI K H5 n hi' i3 j3 → UpB g (Upto (i + 1) (u + 1)) i3 j3 → D.nx [some (.ref r), some (.ref lo), some (.ref hi'), some (.int (1 + (i : Int))), some (.int (0 + (u : Int))), some (.ref tp), none, none, none, none] H5) →
            tIfS (tB (tCall (spBelow K) [] E0 (tCons (tCall (spBound K 1) [] E0 (tCons (tVar 0) (tCons (tVar 5) tNil))) (tCons (tCall (spBound K 1) [] E0 (tCons (tVar 0) (tCons (tVar 2) tNil))) tNil)))) (tAsg (tVar 5) (gName 2)) tNext D
              [some (.ref r), some (.ref lo), some (.ref ah), some (.int (1 + (i : Int))), some (.int (0 + (u : Int))), some (.ref tp), none, none, none, none] H4 := by
          intro lo i2 j2 H4 sH s4 hlo hb hah hp D kD
          refine sLast_via (fun b H5 => Same H4 H5 ∧ (b = true ↔ (g (i + 1) - g u + 1) * ((j1 : Int) - i1) < (g j1 - g i1 + 1) * (((i + 1 : Nat) : Int) - u))) (fun Q' k => ?_) ?_
          · refine ⟨_, rfl, _, rfl, r, tp, g, n, u, i + 1, rfl, SqA.same sH hr', hp.t, by omega, by omega, fun ta H5 s5 h5 => ?_⟩
            refine ⟨_, rfl, _, rfl, r, ah, g, n, i1, j1, rfl, SqA.same (sH.trans s5) hr', Same.tup s5 hah.t, by have := hah.lt; have := hah.lj; omega, hah.lj, fun tb H6 s6 h6 => ?_⟩
            refine ⟨ta, tb, (g (i + 1) - g u + 1, ((i + 1 : Nat) : Int) - u), (g j1 - g i1 + 1, (j1 : Int) - i1), rfl, .inl (.inl (s6 _ _ h5)), .inl (.inl h6), ⟨by show -(2 ^ 62) < ((i + 1 : Nat) : Int) - u; omega, by show ((i + 1 : Nat) : Int) - u < 2 ^ 62; omega⟩, ⟨by have := hah.lt; have := hah.lj; show -(2 ^ 62) < (j1 : Int) - i1; omega, by have := hah.lt; have := hah.lj; show (j1 : Int) - i1 < 2 ^ 62; omega⟩, ?_⟩
            exact ⟨_, rfl, k _ _ ⟨s5.trans s6, decide_eq_true_iff⟩⟩
          rintro b H5 ⟨s5, hb5⟩
          cases b with
          | true =>
            refine iteT ⟨_, rfl, kD H5 tp u (i + 1) (sH.trans s5) (hlo.same s5) (hp.same s5) (bu.move hah.lt (by omega) (hb5.mp rfl))⟩
          | false =>
            exact iteF (kD H5 ah i1 j1 (sH.trans s5) (hlo.same s5) (hah.same s5) (bu.stay fun z => nomatch hb5.mpr z))
        rintro b H4 ⟨s4, hb4⟩
        cases b with
        | true =>
          refine iteT ⟨_, rfl, ?_⟩
          exact step tp u (i + 1) H4 (s3.trans s4) s4 (hp.same s4) (bl.move hal.lt (by omega) (hb4.mp rfl)) (hah.same s4) (hp.same s4) _ fun H5 hi' i3 j3 sH h1 h2 h3 => ⟨sH, tp, hi', u, i + 1, i3, j3, _, _, rfl, h1, h2, bl.move hal.lt (by omega) (hb4.mp rfl), h3⟩
        | false =>
          refine iteF ?_
          have bl' := bl.stay fun z => nomatch hb4.mpr z
          exact step al i0 j0 H4 (s3.trans s4) s4 (hal.same s4) bl' (hah.same s4) (hp.same s4) _ fun H5 hi' i3 j3 sH h1 h2 h3 => ⟨sH, al, hi', i0, j0, i3, j3, _, _, rfl, h1, h2, bl', h3⟩
      · rintro σ H2 ⟨s2, al, ah, i0, j0, i1, j1, y4, y5, rfl, hal, hah, bl, bu⟩
        have eI : (1 + (i : Int)).toNat = i + 1 := by omega
        rw [eI] at bl bu
        exact ⟨s2, al, ah, i0, j0, i1, j1, _, _, _, rfl, hal, hah, fun i' j' h => bl i' j' (upto_row h), fun i' j' h => bu i' j' (upto_row h)⟩
    · rintro σ H1 ⟨s1, al, ah, i0, j0, i1, j1, y3, y4, y5, rfl, hal, hah, bl, bu⟩
      rw [rowL_len] at bl bu
      have lo : LoAt g n i0 j0 := ⟨hal.lt, hal.lj, fun i' j' h1 h2 => bl i' j' ⟨h1, .inl (by omega)⟩⟩
      have up : UpAt g n i1 j1 := ⟨hah.lt, hah.lj, fun i' j' h1 h2 => bu i' j' ⟨h1, .inl (by omega)⟩⟩
      clear bl bu
      have dl := hal.lt
      have el := hal.lj
      have dh := hah.lt
      have eh := hah.lj
      refine ⟨_, rfl, _, rfl, r, al, g, n, i0, j0, rfl, SqA.same s1 hr', hal.t, by omega, by omega, fun ta H2 s2 h2 => ?_⟩
      have s02 := s1.trans s2
      refine ⟨_, rfl, _, rfl, r, ah, g, n, i1, j1, rfl, SqA.same s02 hr', Same.tup s2 hah.t, by omega, by omega, fun tb H3 s3 h3 => ?_⟩
      have s03 := s02.trans s3
      have hal := hal.same (s2.trans s3)
      have hah := hah.same (s2.trans s3)
      have hta : SqT K H3 ta [.int (g j0 - g i0 - 1), .int ((j0 : Int) - i0)] := .inl (.inl (s3 _ _ h2))
      have htb : SqT K H3 tb [.int (g j1 - g i1 + 1), .int ((j1 : Int) - i1)] := .inl (.inl h3)
      refine ⟨_, rfl, _, rfl, ta, tb, (g j0 - g i0 - 1, (j0 : Int) - i0), (g j1 - g i1 + 1, (j1 : Int) - i1), rfl, hta, htb, ⟨by show -(2 ^ 62) < (j0 : Int) - i0; omega, by show (j0 : Int) - i0 < 2 ^ 62; omega⟩, ⟨by show -(2 ^ 62) < (j1 : Int) - i1; omega, by show (j1 : Int) - i1 < 2 ^ 62; omega⟩, ?_⟩
      refine ⟨_, rfl, ?_⟩
      by_cases lt : (g j0 - g i0 - 1) * ((j1 : Int) - i1) < (g j1 - g i1 + 1) * ((j0 : Int) - i0)
      · refine iteNS (c := (g j0 - g i0 - 1) * ((j1 : Int) - i1) < (g j1 - g i1 + 1) * ((j0 : Int) - i0)) lt ?_
        refine ⟨_, rfl, _, rfl, ta, tb, (g j0 - g i0 - 1, (j0 : Int) - i0), (g j1 - g i1 + 1, (j1 : Int) - i1), rfl, hta, htb, ⟨by show 0 < (j0 : Int) - i0; omega, by show (j0 : Int) - i0 ≤ 1000; omega, fun rr e => by cases e; exact ⟨by show 0 < (j1 : Int) - i1; omega, by show (j1 : Int) - i1 ≤ 1000; omega, lt⟩⟩, fun tp a m H4 s4 h4 bst => ?_⟩
        have m1 := bst.q1
        have m2 := bst.den (by show 0 < (j0 : Int) - i0; omega) (by show 0 < (j1 : Int) - i1; omega) lt
        have m3 : m ≤ 2000 := by
          have : m ≤ ((j0 : Int) - i0) + ((j1 : Int) - i1) := m2
          omega
        have s04 := s03.trans s4
        refine ⟨tp, _, rfl, .inl (.inl h4), rfl, _, _, rfl, _, _, rfl, rfl, ?_⟩
        refine ⟨_, rfl, _, rfl, _, rfl, _, rfl, r, a, m, g, n, rfl, SqA.same s04 hr', by omega, by omega, ⟨by omega, by omega⟩, fun b H5 s5 off => ?_⟩
        refine ⟨_, rfl, fun x dx nx nd ne => ⟨x, dx, a, b, m, rfl, upd_same, m1, fun H6 k6 hx => ⟨rfl, ?_⟩⟩⟩
        have s6 := same_make nx nd ne k6
        have s46 := s4.trans (s5.trans s6)
        refine ⟨_, rfl, _, rfl, fun y dy ny ndy ney => ⟨y, dy, .ref x, .ref al, .ref ah, rfl, upd_same, fun H7 k7 hy => ⟨rfl, ?_⟩⟩⟩
        have s7 := same_make ny ndy ney k7
        exact qS y H7 a b m (s03.trans (s46.trans s7)) ⟨dy, x, al, ah, i0, j0, i1, j1, hy, ⟨dx, s7 _ _ hx⟩, Same.tup (s46.trans s7) hal.t, Same.tup (s46.trans s7) hah.t, lo, up, bst, off, m3⟩
      · refine iteN (c := (g j0 - g i0 - 1) * ((j1 : Int) - i1) < (g j1 - g i1 + 1) * ((j0 : Int) - i0)) lt ?_
        refine ⟨_, rfl, _, rfl, fun y dy ny ndy ney => ⟨y, dy, .ref al, .ref ah, rfl, upd_same, fun H7 k7 hy => ⟨rfl, ?_⟩⟩⟩
        have s7 := same_make ny ndy ney k7
        exact qC y H7 (s03.trans s7) ⟨dy, al, ah, i0, j0, i1, j1, hy, Same.tup s7 hal.t, Same.tup s7 hah.t, lo, up, lt⟩
/-! ### stairs -/
theorem list_or {H : Hp} {a : Addr} {xs : List V} (h : SqA K H a xs) : ∃ t, TyX K H (.ref a) t ∧ PySem.W.kitAny K t [.type "list", .type "tuple"] = some true := by
  rcases h with h | h
  · refine ⟨.type "list", ?_, kitAny_cons (b := true) (kit_ty (by decide +kernel)) (fun z => Bool.noConfusion z) fun _ => rfl⟩
    rcases h with (h | ⟨o, h⟩) | ⟨o, its, n, h, c, _⟩
    · exact .base (.lst h)
    · exact .base (.frz h)
    · exact .kList h c
  · exact ⟨.type "tuple", tyT h, kitAny_cons (b := false) (kit_ty (by decide +kernel)) (fun _ => kitAny_cons (b := true) (kit_ty (by decide +kernel)) (fun z => Bool.noConfusion z) fun _ => rfl) fun z => Bool.noConfusion z⟩
/-- so many numbers, too few or too many, or one that is none -/
def spStairs (K : PySem.W.Frag) (CS CC CL CB CT : Addr) : Sp := fun vs H Q E => ∃ (r : Addr) (xs : List V), vs = [.ref r] ∧ SqA K H r xs ∧
  ((∃ (g : Nat → Int) (n : Nat), xs = rowL g n ∧ ((2 ≤ n ∧ n ≤ 200 ∧ ∀ p H', Same H H' → ((∃ a b m, StairsAt K H' CS CL g n p a b m) ∨ CrookAt K H' CC g n p) → Q (.ref p) H') ∨
      ((n < 2 ∨ 200 < n) ∧ ∀ d H', Same H H' → H' d = some (.xd [(("number" : Str), .int (n : Int))]) → E (.ref CT) (some d) H'))) ∨
    ∃ (i : Nat) (v : V), xs[i]? = some v ∧ (∀ (k : Nat) (x : V), k < i → xs[k]? = some x → ∃ z, x = .int z) ∧ NumB K H v false ∧ ∀ d H', Same H H' → H' d = some (.xd [(("value" : Str), v)]) → E (.ref CB) (some d) H')
theorem ok_stairs {f f1 f2 CS CC CL CB CT fT cdT ccT : Addr} {fd fd1 fd2 : FuncData} (T : Nm mg) (BT : Xc.Own P K mg "TooLarge" "number" CT fT cdT ccT) (C_check_numbers : HasX P w K mg base "check_numbers" 2 ["values"] (spCheckNums K CB) f1 fd1) (C_stairs_of : Has P w K mg base "stairs_of" 5 ["row"] (spStairsOf K CS CC CL) f2 fd2)
    (F : Fun K "stairs" "stairs" s_stairs f fd) : FnOk P w K mg base (L2.CX P w) 6 f fd ["row"] (spStairs K CS CC CL CB CT) := by
  obtain ⟨_, c_LEAST_MANY⟩ := T.LEAST_MANY
  obtain ⟨_, c_MOST_MANY⟩ := T.MOST_MANY
  refine F.okX sc_stairs (fun vs H Q E h => ?_) (fun cdv A outer s H vs Q E hr h => ?_)
  · obtain ⟨r, xs, rfl, _⟩ := h
    rfl
  · obtain ⟨r, xs, rfl, hr', h⟩ := h
    refine ⟨_, (pss_cons (ps_if (pt_not (pt_val (pe_callB call_isiT (by rfl) T.isinstance (by decide +kernel) (pa_cons (pv 0) (pa_cons (pe_tup (pa_cons (pe_ty (n := "list") (by rfl) T.list (by decide +kernel)) (pa_cons (pe_ty (n := "tuple") (by rfl) T.tuple (by decide +kernel)) pa_nil))) pa_nil)))))
      (pss_one ps_never)
      pss_nil)
    (pss_cons (ps_expr (pe_call C_check_numbers.G (hr.mono (by decide)) (by rfl) C_check_numbers.g C_check_numbers.k C_check_numbers.b .nil (passO (takes_of rfl rfl rfl rfl)) (pa_cons (pv 0) pa_nil)))
    (pss_cons (ps_if (PW.pt (pw_or (pt_cmpR op_lt (pe_callB call_lenA (by rfl) T.len (by decide +kernel) (pa_cons (pv 0) pa_nil)) (pe_glob (v := .int 2) rfl c_LEAST_MANY ⟨_, rfl⟩) (nomark _)) (pw_or1 (pt_cmpR op_gt (pe_callB call_lenA (by rfl) T.len (by decide +kernel) (pa_cons (pv 0) pa_nil)) (pe_glob (v := .int 200) rfl c_MOST_MANY ⟨_, rfl⟩) (nomark _)))))
      (pss_one (ps_raiseX rfl BT Xc.fld_number hr (takes_of rfl rfl rfl rfl) (pa_cons (pe_callB call_lenA (by rfl) T.len (by decide +kernel) (pa_cons (pv 0) pa_nil)) pa_nil) (by rfl) (by decide)))
      pss_nil)
    (pss_one (ps_ret (pe_call C_stairs_of.G (hr.mono (by decide)) (by rfl) C_stairs_of.g C_stairs_of.k C_stairs_of.b .nil pass0 (pa_cons (pv 0) pa_nil))))))), ?_⟩
    refine ⟨_, rfl, by show 2 ≤ sizeLine; decide, fun p np => ?_⟩
    have s1 := same_upd (o := .tup [.ty "list", .ty "tuple"]) np
    have hr1 := hr'.same s1
    obtain ⟨t, ty, kt⟩ := list_or hr1
    refine ⟨_, p, _, t, _, true, rfl, upd_same, .cons (.ty _) (.cons (.ty _) .nil), ty, kt, true, rfl, iteF ?_⟩
    generalize upd H p (.tup [.ty "list", .ty "tuple"]) = H1 at *
    rcases h with ⟨g, n, rfl, h⟩ | ⟨i, v, hv, hn, nb, q⟩
    · refine ⟨_, rfl, r, _, rfl, hr1, .inl ⟨fun x hx => ?_, ?_⟩⟩
      · rw [rowL_ints] at hx
        obtain ⟨z, _, rfl⟩ := List.mem_map.mp hx
        exact ⟨z, rfl⟩
      refine ⟨_, rfl, r, _, rfl, hr1, _, _, rfl, rfl, _, rfl, ?_⟩
      rcases h with ⟨n2, n3, q⟩ | ⟨hn, q⟩
      · rw [decide_eq_false (show ¬ (((rowL g n).length : Int) < 2) by rw [rowL_len]; omega)]
        refine iteF ?_
        refine ⟨_, rfl, r, _, rfl, hr1, _, _, rfl, rfl, _, rfl, ?_⟩
        rw [decide_eq_false (show ¬ ((200 : Int) < ((rowL g n).length : Int)) by rw [rowL_len]; omega)]
        refine iteF ?_
        exact ⟨_, rfl, r, g, n, rfl, hr1, n2, n3, fun p H' s2 z => q p H' (s1.trans s2) z⟩
      · have big : ∀ d, H1 d = none → E (.ref CT) (some d) (upd H1 d (.xd [(("number" : Str), .int ((rowL g n).length : Int))])) := fun d nd => q d _ (s1.trans (same_upd nd)) (by rw [upd_same, rowL_len])
        by_cases lt : n < 2
        · rw [decide_eq_true (show (((rowL g n).length : Int) < 2) by rw [rowL_len]; omega)]
          exact iteT ⟨_, rfl, r, _, rfl, hr1, _, rfl, big⟩
        · rw [decide_eq_false (show ¬ (((rowL g n).length : Int) < 2) by rw [rowL_len]; omega)]
          refine iteF ?_
          refine ⟨_, rfl, r, _, rfl, hr1, _, _, rfl, rfl, _, rfl, ?_⟩
          rw [decide_eq_true (show ((200 : Int) < ((rowL g n).length : Int)) by rw [rowL_len]; omega)]
          exact iteT ⟨_, rfl, r, _, rfl, hr1, _, rfl, big⟩
    · exact ⟨_, rfl, r, _, rfl, hr1, .inr ⟨i, v, hv, hn, nb.same s1, fun d nd => q d _ (s1.trans (same_upd nd)) upd_same⟩⟩
end
end K14

namespace K14
open PySem PySem.Spec PyProof.Rows L2 My M50
local macro_rules | `(tactic| walk_at "side") => `(tactic| (first
  | assumption
  | (refine OkMod.mk ?_; omega)
  | (refine mulOkL ?_ ?_ <;> omega)
  | (refine mulOkR ?_ ?_ <;> omega)
  | (refine divOk ?_ ?_ <;> omega)))
local macro_rules | `(tactic| walk_at "rd") => `(tactic| (first
  | with_reducible refine ⟨_, rfl, ?_⟩
  | refine ⟨_, rfl, ?_⟩
  | refine ⟨_, _, rfl, rfl, ?_⟩
  | refine And.intro (by walk_at "side") ?_
  | refine ⟨_, _, rfl, asm (by assumption), ?_⟩
  | refine ⟨_, _, rfl, asm ?_⟩))
section
variable {P : Program} {w : World} {K : PySem.W.Frag} {mg : Str → Option Value} {base : Heap}

/-! ### are_places, has_numbers -/
def spPlaces (K : PySem.W.Frag) : Sp := fun vs H Q _ => ∃ (p r : Addr) (i j : Int) (xs : List V), vs = [.ref p, .ref r] ∧ SqT K H p [.int i, .int j] ∧ SqA K H r xs ∧ Q (.bl (decide (PairOk xs.length i j))) H
theorem ok_are_places {f f1 : Addr} {fd fd1 : FuncData} (T : Nm mg) (C_is_pair : Has P w K mg base "is_pair" 2 ["value"] (spIsPair K) f1 fd1) (F : Fun K "are_places" "are_places" s_are_places f fd) : FnOk P w K mg base CX0 3 f fd ["pair", "row"] (spPlaces K) := by
  refine F.ok sc_are_places (fun vs H Q E h => ?_) (fun cdv A outer s H vs Q E hr h => ?_)
  · obtain ⟨p, r, i, j, xs, rfl, _⟩ := h
    rfl
  · obtain ⟨p, r, i, j, xs, rfl, ht, hx, q⟩ := h
    refine ⟨_, (pss_one (ps_ret (pe_and (pe_call C_is_pair.G (hr.mono (by decide)) (by rfl) C_is_pair.g C_is_pair.k C_is_pair.b .nil pass0 (pa_cons (pv 0) pa_nil)) (pe_one (pe_chain3 op_le op_lt op_lt pe_int (pe_ix ix_tup (pv 0) pe_int (fun _ _ => rfl)) (pe_ix ix_tup (pv 0) pe_int (fun _ _ => rfl)) (pe_callB call_lenA (by rfl) T.len (by decide +kernel) (pa_cons (pv 1) pa_nil))))))), ?_⟩
    refine ⟨_, rfl, p, i, j, rfl, ht, true, rfl, iteT ?_⟩
    refine ⟨_, rfl, p, _, 0, _, rfl, rfl, ht, rfl, _, _, rfl, rfl, _, rfl, ?_⟩
    by_cases h0 : 0 ≤ i
    · rw [decide_eq_true h0]
      refine iteT ?_
      refine ⟨_, rfl, p, _, 1, _, rfl, rfl, ht, rfl, _, _, rfl, rfl, _, rfl, ?_⟩
      by_cases h1 : i < j
      · rw [decide_eq_true h1]
        refine iteT ?_
        refine ⟨_, rfl, r, xs, rfl, hx, _, _, rfl, rfl, ?_⟩
        have e : decide (PairOk xs.length i j) = decide (j < (xs.length : Int)) := by
          unfold PairOk
          rw [Bool.eq_iff_iff]
          simp [h0, h1]
        show Q (.bl (decide (j < (xs.length : Int)))) H
        rw [← e]
        exact q
      · rw [decide_eq_false h1]
        refine iteF ?_
        rw [decide_eq_false (show ¬ PairOk xs.length i j from fun z => h1 z.2.1)] at q
        exact q
    · rw [decide_eq_false h0]
      refine iteF ?_
      rw [decide_eq_false (show ¬ PairOk xs.length i j from fun z => h0 z.1)] at q
      exact q
def spHasN (K : PySem.W.Frag) (C : Addr) : Sp := fun vs H Q _ => ∃ (l r : Addr) (a b m : Int) (g : Nat → Int) (n : Nat), vs = [.ref l, .ref r] ∧ LineAt H C l a b m ∧ 1 ≤ m ∧ Med m ∧ SqA K H r (rowL g n) ∧ n ≤ 1000 ∧
  ∀ (k : Bool) H', Same H H' → (k = true ↔ ∀ x : Nat, x < n → (a * (x : Int) + b) / m = g x) → Q (.bl k) H'
theorem ok_has_numbers {f f1 CL : Addr} {fd fd1 : FuncData} (T : Nm mg) (C_Line_at : Mth P w K mg base CL "at" 1 ["self", "x"] (spLineAt CL) f1 fd1) (F : Fun K "has_numbers" "has_numbers" s_has_numbers f fd) : FnOk P w K mg base CX0 2 f fd ["line", "row"] (spHasN K CL) := by
  refine F.ok sc_has_numbers (fun vs H Q E h => ?_) (fun cdv A outer s H vs Q E hr h => ?_)
  · obtain ⟨l, r, a, b, m, g, n, rfl, _⟩ := h
    rfl
  · obtain ⟨l, r, a, b, m, g, n, rfl, hl, m1, mm, hx, n1, q⟩ := h
    refine ⟨_, (pss_cons (ps_for PassesOwn.never rfl (pi_enumV (pv 1) (by rfl) T.enumerate) (pg_tup rfl (pgs_cons (pg_name (i := 2) sc_has_numbers.nd rfl (Or.inl rfl)) (pgs_cons (pg_name (i := 3) sc_has_numbers.nd rfl (Or.inl rfl)) pgs_nil)))
      (pss_one (ps_if (pt_cmpR op_ne (pe_meth (pv 0) C_Line_at.c C_Line_at.m C_Line_at.G (hr.mono (by decide)) C_Line_at.b .nil pass0 (pa_cons (pv 2) pa_nil)) (pv 3) (nomark _))
      (pss_one (ps_ret pe_bl))
      pss_nil)))
    (pss_one (ps_ret pe_bl))), ?_⟩
    refine ⟨r, _, rfl, hx, fun J G g0 gk wk => for_it wk (fun i σ H' => (∃ y2 y3, σ = [some (.ref l), some (.ref r), y2, y3]) ∧ Same H H' ∧ ∀ x : Nat, x < i → (a * (x : Int) + b) / m = g x) ⟨⟨none, none, rfl⟩, fun _ _ z => z, fun x h => absurd h (by omega)⟩ (fun i σ H' _ z => gk H' (Same.seq z.2.1) (Same.tup z.2.1)) ?_ ?_⟩
    · rintro i x σ H1 H2 hi ⟨⟨y2, y3, rfl⟩, s1, hd⟩ ⟨T, u, v, rfl, nT, rfl, e1, e2⟩
      rw [rowL_len] at hi
      have e2 : (rowL g n)[i]? = some v := e2
      rw [rowL_at hi] at e2
      cases e1
      cases e2
      refine ⟨T, _, rfl, .inl (.inl upd_same), rfl, _, _, rfl, _, _, rfl, rfl, ?_⟩
      have s2 := s1.trans (same_upd (o := .tup [.int (i : Int), .int (g i)]) nT)
      have hl2 := hl.same s2
      obtain ⟨dx, hl3⟩ := id hl2
      refine ⟨_, rfl, l, dx, _, rfl, hl3, rfl, _, rfl, l, a, b, m, (i : Int), rfl, hl2, m1, mm, ⟨by omega, by omega⟩, _, rfl, rfl, _, rfl, ?_⟩
      by_cases e : (a * (i : Int) + b) / m = g i
      · rw [e, decide_eq_true (rfl : V.int (g i) = V.int (g i))]
        refine iteF ⟨⟨_, _, rfl⟩, s2, fun x hx => ?_⟩
        rcases Nat.lt_succ_iff_lt_or_eq.mp hx with z | rfl
        · exact hd x z
        · exact e
      · rw [decide_eq_false (show ¬ V.int ((a * (i : Int) + b) / m) = V.int (g i) from fun z => e (V.int.inj z))]
        exact iteT (q false _ s2 ⟨(fun z => nomatch z), fun z => absurd (z i hi) e⟩)
    · rintro σ H1 ⟨⟨y2, y3, rfl⟩, s1, hd⟩
      rw [rowL_len] at hd
      exact q true _ s1 ⟨fun _ => hd, fun _ => rfl⟩
/-! ### == of evidence -/
structure EqX (P : Program) (w : World) (K : PySem.W.Frag) (mg : Str → Option Value) (base : Heap) (C : Addr) (k : Nat) (sp : Sp) (f : Addr) (fd : FuncData) : Prop where
  M : EqC K C f
  G : FnOk P w K mg base CX0 k f fd ["self", "other"] sp
  b : Binds K fd ["self", "other"] []
def pairD (i j : Int) : PyData := .tuple [.int i, .int j]
theorem pair_dp {H : Hp} {o : Addr} {i j : Int} (h : SqT K H o [.int i, .int j]) : Dp K H (.ref o) (pairD i j) := .tup h (.cons (.int _) (.cons (.int _) .nil))
theorem pair_eqv (i j i' j' : Int) : PyData.eqv (pairD i j) (pairD i' j') = decide (i = i' ∧ j = j') := by
  show ((i == i') && ((j == j') && true)) = _
  rw [Bool.eq_iff_iff]
  simp
def spEqS (K : PySem.W.Frag) (CS CL : Addr) : Sp := fun vs H Q _ => ∃ (x y dx dy l o o' h : Addr) (i j i' j' k q : Int), vs = [.ref x, .ref y] ∧ H x = some (.ins CS dx [("line", .ref l), ("low", .ref o), ("high", .ref h)]) ∧ H y = some (.ins CS dy [("line", .ref l), ("low", .ref o'), ("high", .ref h)]) ∧
  (∃ a b m, LineAt H CL l a b m) ∧ SqT K H o [.int i, .int j] ∧ SqT K H o' [.int i', .int j'] ∧ SqT K H h [.int k, .int q] ∧ Q (.bl (decide (i = i' ∧ j = j'))) H
theorem ok_StairsEq {f f1 CS CL : Addr} {fd fd1 : FuncData} (T : Nm mg) (gS : mg "Stairs" = some (.ref CS)) (R : StairsC K CS) (IS : ClsI K CS) (IO : ObjI K) (Q_Line : EqX P w K mg base CL 1 (spEqLine CL) f1 fd1) (F : Fun K "__eq__" "Stairs.__eq__" s_Stairs___eq__ f fd) : FnOk P w K mg base CX0 2 f fd ["self", "other"] (spEqS K CS CL) := by
  refine F.ok sc_Stairs___eq__ (fun vs H Q E h => ?_) (fun cdv A outer s H vs Q E hr h => ?_)
  · obtain ⟨x, y, dx, dy, l, o, o', h, i, j, i', j', k, q, rfl, _⟩ := h
    rfl
  · obtain ⟨x, y, dx, dy, l, o, o', h, i, j, i', j', k, q, rfl, hx, hy, ⟨a, b, m, hl⟩, ho, ho', hh, z⟩ := h
    refine ⟨_, (pss_one (ps_ret (pe_and (pe_callB call_isi (by rfl) T.isinstance (by decide +kernel) (pa_cons (pv 1) (pa_cons (pe_glob (v := .ref CS) rfl gS rfl) pa_nil))) (pe_and (pe_cmpR (op_eqI Q_Line.M Q_Line.G Q_Line.b pass0 (hr.mono (by decide))) (pe_fld (pv 0) rfl) (pe_fld (pv 1) rfl) (nomark _)) (pe_and (pe_cmpR (op_eqD hr.units) (pe_fld (pv 0) rfl) (pe_fld (pv 1) rfl) (nomark _)) (pe_one (pe_cmpR (op_eqD hr.units) (pe_fld (pv 0) rfl) (pe_fld (pv 1) rfl) (nomark _)))))))), ?_⟩
    obtain ⟨dl, hl2⟩ := id hl
    refine ⟨_, rfl, _, _, _, _, _, rfl, .own CS, .base (.ins hy R.cl IS.ha IO.hn IO.ht IS.hm), IS.own, true, rfl, iteT ?_⟩
    refine ⟨_, rfl, x, CS, dx, _, _, rfl, hx, R.cl, R.nl, rfl, _, rfl, y, CS, dy, _, _, rfl, hy, R.cl, R.nl, rfl, l, dl, _, rfl, hl2, .ins hl2, l, a, b, m, rfl, hl, _, rfl, _, rfl, iteT ?_⟩
    refine ⟨_, rfl, x, CS, dx, _, _, rfl, hx, R.cl, R.no, rfl, _, rfl, y, CS, dy, _, _, rfl, hy, R.cl, R.no, rfl, _, _, pair_dp ho, pair_dp ho', rfl, rfl, _, rfl, ?_⟩
    rw [pair_eqv]
    by_cases e : i = i' ∧ j = j'
    · rw [decide_eq_true e] at z ⊢
      refine iteT ?_
      refine ⟨_, rfl, x, CS, dx, _, _, rfl, hx, R.cl, R.nh, rfl, _, rfl, y, CS, dy, _, _, rfl, hy, R.cl, R.nh, rfl, _, _, pair_dp hh, pair_dp hh, rfl, rfl, ?_⟩
      rw [pair_eqv, decide_eq_true (show k = k ∧ q = q from ⟨rfl, rfl⟩)]
      exact z
    · rw [decide_eq_false e] at z ⊢
      exact iteF z
def spEqC (K : PySem.W.Frag) (CC CS : Addr) : Sp := fun vs H Q _ => ∃ (x y dx dy o h : Addr) (i j k q : Int), vs = [.ref x, .ref y] ∧ H x = some (.ins CC dx [("low", .ref o), ("high", .ref h)]) ∧ SqT K H o [.int i, .int j] ∧ SqT K H h [.int k, .int q] ∧
  ((∃ (o' : Addr) (i' j' : Int), H y = some (.ins CC dy [("low", .ref o'), ("high", .ref h)]) ∧ SqT K H o' [.int i', .int j'] ∧ Q (.bl (decide (i = i' ∧ j = j'))) H) ∨ ∃ gs, H y = some (.ins CS dy gs) ∧ Q (.bl false) H)
theorem ok_CrookEq {f CC CS : Addr} {fd : FuncData} (T : Nm mg) (gC : mg "Crooked" = some (.ref CC)) (R : CrookC K CC) (RS : StairsC K CS) (IC : ClsI K CC) (IS : ClsI K CS) (IO : ObjI K) (kSC : PySem.W.kitOne K (.ref CS) (.ref CC) = some false) (F : Fun K "__eq__" "Crooked.__eq__" s_Crooked___eq__ f fd) : FnOk P w K mg base CX0 1 f fd ["self", "other"] (spEqC K CC CS) := by
  refine F.ok sc_Crooked___eq__ (fun vs H Q E h => ?_) (fun cdv A outer s H vs Q E hr h => ?_)
  · obtain ⟨x, y, dx, dy, o, h, i, j, k, q, rfl, _⟩ := h
    rfl
  · obtain ⟨x, y, dx, dy, o, h, i, j, k, q, rfl, hx, ho, hh, z⟩ := h
    refine ⟨_, (pss_one (ps_ret (pe_and (pe_callB call_isi (by rfl) T.isinstance (by decide +kernel) (pa_cons (pv 1) (pa_cons (pe_glob (v := .ref CC) rfl gC rfl) pa_nil))) (pe_and (pe_cmpR (op_eqD hr.units) (pe_fld (pv 0) rfl) (pe_fld (pv 1) rfl) (nomark _)) (pe_one (pe_cmpR (op_eqD hr.units) (pe_fld (pv 0) rfl) (pe_fld (pv 1) rfl) (nomark _))))))), ?_⟩
    rcases z with ⟨o', i', j', hy, ho', z⟩ | ⟨gs, hy, z⟩
    · refine ⟨_, rfl, _, _, _, _, _, rfl, .own CC, .base (.ins hy R.cl IC.ha IO.hn IO.ht IC.hm), IC.own, true, rfl, iteT ?_⟩
      refine ⟨_, rfl, x, CC, dx, _, _, rfl, hx, R.cl, R.no, rfl, _, rfl, y, CC, dy, _, _, rfl, hy, R.cl, R.no, rfl, _, _, pair_dp ho, pair_dp ho', rfl, rfl, _, rfl, ?_⟩
      rw [pair_eqv]
      by_cases e : i = i' ∧ j = j'
      · rw [decide_eq_true e] at z ⊢
        refine iteT ?_
        refine ⟨_, rfl, x, CC, dx, _, _, rfl, hx, R.cl, R.nh, rfl, _, rfl, y, CC, dy, _, _, rfl, hy, R.cl, R.nh, rfl, _, _, pair_dp hh, pair_dp hh, rfl, rfl, ?_⟩
        rw [pair_eqv, decide_eq_true (show k = k ∧ q = q from ⟨rfl, rfl⟩)]
        exact z
      · rw [decide_eq_false e] at z ⊢
        exact iteF z
    · exact ⟨_, rfl, _, _, _, _, _, rfl, .own CC, .base (.ins hy RS.cl IS.ha IO.hn IO.ht IS.hm), kSC, false, rfl, iteF z⟩
/-! ### shows -/
def spShowS (K : PySem.W.Frag) (CS CL : Addr) : Sp := fun vs H Q _ => ∃ (p r dx l o h : Addr) (a b m i j k q : Int) (g : Nat → Int) (n : Nat), vs = [.ref p, .ref r] ∧ H p = some (.ins CS dx [("line", .ref l), ("low", .ref o), ("high", .ref h)]) ∧
  LineAt H CL l a b m ∧ 1 ≤ m ∧ Med m ∧ SqT K H o [.int i, .int j] ∧ SqT K H h [.int k, .int q] ∧ SqA K H r (rowL g n) ∧ 0 < n ∧ n ≤ 1000 ∧ ∀ (z : Bool) H', Same H H' → (z = true ↔ IsShown g n a b m i j k q) → Q (.bl z) H'
theorem ok_StairsShows {f f1 f2 f3 f4 f5 f6 CS CL : Addr} {fd fd1 fd2 fd3 fd4 fd5 fd6 : FuncData} (T : Nm mg) (gL : mg "Line" = some (.ref CL)) (R : StairsC K CS) (RL : LineC K CL) (IL : ClsI K CL) (IO : ObjI K)
    (C_has_numbers : Has P w K mg base "has_numbers" 2 ["line", "row"] (spHasN K CL) f1 fd1) (C_are_places : Has P w K mg base "are_places" 3 ["pair", "row"] (spPlaces K) f2 fd2)
    (C_lower_bound : Has P w K mg base "lower_bound" 1 ["row", "pair"] (spBound K (-1)) f3 fd3) (C_upper_bound : Has P w K mg base "upper_bound" 1 ["row", "pair"] (spBound K 1) f4 fd4) (C_simplest_between : Has P w K mg base "simplest_between" 2 ["low", "high"] (spSimplest K) f5 fd5)
    (C_least_offset : Has P w K mg base "least_offset" 1 ["row", "a", "m"] (spOffset K) f6 fd6) (F : Fun K "shows" "Stairs.shows" s_Stairs_shows f fd) : FnOk P w K mg base CX0 4 f fd ["self", "row"] (spShowS K CS CL) := by
  refine F.ok sc_Stairs_shows (fun vs H Q E h => ?_) (fun cdv A outer s H vs Q E hr h => ?_)
  · obtain ⟨p, r, dx, l, o, h, a, b, m, i, j, k, q, g, n, rfl, _⟩ := h
    rfl
  · obtain ⟨p, r, dx, l, o, h, a, b, m, i, j, k, q, g, n, rfl, hp, hl, m1, mm, ho, hh, hx, n0, n1, Z⟩ := h
    refine ⟨_, (pss_cons (ps_set (i := 2) sc_Stairs_shows.nd rfl (Or.inl rfl) (pe_fld (pv 0) rfl))
    (pss_cons (ps_if (PW.pt (pw_or (pt_not (pt_val (pe_callB call_isi (by rfl) T.isinstance (by decide +kernel) (pa_cons (pv 2) (pa_cons (pe_glob (v := .ref CL) rfl gL rfl) pa_nil))))) (pw_or1 (pt_not (pt_val (pe_call C_has_numbers.G (hr.mono (by decide)) (by rfl) C_has_numbers.g C_has_numbers.k C_has_numbers.b .nil pass0 (pa_cons (pv 2) (pa_cons (pv 1) pa_nil))))))))
      (pss_one (ps_ret pe_bl))
      pss_nil)
    (pss_cons (ps_if (PW.pt (pw_or (pt_not (pt_val (pe_call C_are_places.G (hr.mono (by decide)) (by rfl) C_are_places.g C_are_places.k C_are_places.b .nil pass0 (pa_cons (pe_fld (pv 0) rfl) (pa_cons (pv 1) pa_nil))))) (pw_or1 (pt_not (pt_val (pe_call C_are_places.G (hr.mono (by decide)) (by rfl) C_are_places.g C_are_places.k C_are_places.b .nil pass0 (pa_cons (pe_fld (pv 0) rfl) (pa_cons (pv 1) pa_nil))))))))
      (pss_one (ps_ret pe_bl))
      pss_nil)
    (pss_cons (ps_set (i := 3) sc_Stairs_shows.nd rfl (Or.inl rfl) (pe_call C_lower_bound.G (hr.mono (by decide)) (by rfl) C_lower_bound.g C_lower_bound.k C_lower_bound.b .nil pass0 (pa_cons (pv 1) (pa_cons (pe_fld (pv 0) rfl) pa_nil))))
    (pss_cons (ps_set (i := 4) sc_Stairs_shows.nd rfl (Or.inl rfl) (pe_call C_upper_bound.G (hr.mono (by decide)) (by rfl) C_upper_bound.g C_upper_bound.k C_upper_bound.b .nil pass0 (pa_cons (pv 1) (pa_cons (pe_fld (pv 0) rfl) pa_nil))))
    (pss_cons (ps_if (pt_cmpR (op_neD hr.units) (pe_call C_simplest_between.G (hr.mono (by decide)) (by rfl) C_simplest_between.g C_simplest_between.k C_simplest_between.b .nil pass0 (pa_cons (pv 3) (pa_cons (pv 4) pa_nil))) (pe_tup (pa_cons (pe_fld (pv 2) rfl) (pa_cons (pe_fld (pv 2) rfl) pa_nil))) (nomark _))
      (pss_one (ps_ret pe_bl))
      pss_nil)
    (pss_one (ps_ret (pe_cmpR op_eq (pe_fld (pv 2) rfl) (pe_call C_least_offset.G (hr.mono (by decide)) (by rfl) C_least_offset.g C_least_offset.k C_least_offset.b .nil pass0 (pa_cons (pv 1) (pa_cons (pe_fld (pv 2) rfl) (pa_cons (pe_fld (pv 2) rfl) pa_nil)))) (nomark _)))))))))), ?_⟩
    obtain ⟨dl, hl2⟩ := id hl
    refine ⟨_, rfl, p, CS, dx, _, _, rfl, hp, R.cl, R.nl, rfl, ?_⟩
    refine ⟨_, rfl, _, _, _, _, _, rfl, .own CL, .base (.ins hl2 RL.cl IL.ha IO.hn IO.ht IL.hm), IL.own, true, rfl, iteF ?_⟩
    refine ⟨_, rfl, _, rfl, l, r, a, b, m, g, n, rfl, hl, m1, mm, hx, n1, fun k1 H1 s1 hk1 => ⟨k1, rfl, ?_⟩⟩
    cases k1 with
    | false => exact iteT (Z false _ s1 ⟨(fun z => nomatch z), (fun z => nomatch hk1.mpr z.1)⟩)
    | true =>
      refine iteF ?_
      have line := hk1.mp rfl
      have hp1 := s1 _ _ hp
      have ho1 := Same.tup s1 ho
      have hh1 := Same.tup s1 hh
      have hx1 := hx.same s1
      have hl1 := hl.same s1
      refine ⟨_, rfl, p, CS, dx, _, _, rfl, hp1, R.cl, R.no, rfl, _, rfl, o, r, i, j, _, rfl, ho1, hx1, _, rfl, ?_⟩
      rw [rowL_len]
      by_cases p1 : PairOk n i j
      · rw [decide_eq_true p1]
        refine iteF ?_
        refine ⟨_, rfl, p, CS, dx, _, _, rfl, hp1, R.cl, R.nh, rfl, _, rfl, h, r, k, q, _, rfl, hh1, hx1, _, rfl, ?_⟩
        rw [rowL_len]
        by_cases p2 : PairOk n k q
        · rw [decide_eq_true p2]
          refine iteF ?_
          obtain ⟨d1, d2, d3⟩ := slope_in m1 line p1 p2
          obtain ⟨i, rfl⟩ := Int.eq_ofNat_of_zero_le p1.1
          obtain ⟨j, rfl⟩ := Int.eq_ofNat_of_zero_le (show 0 ≤ j by have := p1.1; have := p1.2.1; omega)
          obtain ⟨k, rfl⟩ := Int.eq_ofNat_of_zero_le p2.1
          obtain ⟨q, rfl⟩ := Int.eq_ofNat_of_zero_le (show 0 ≤ q by have := p2.1; have := p2.2.1; omega)
          have b1 := p1.2
          have b2 := p2.2
          refine ⟨_, rfl, _, rfl, p, CS, dx, _, _, rfl, hp1, R.cl, R.no, rfl, r, o, g, n, i, j, rfl, hx1, ho1, by omega, by omega, fun ta H2 s2 h2 => ?_⟩
          have hp2 := s2 _ _ hp1
          refine ⟨_, rfl, _, rfl, p, CS, dx, _, _, rfl, hp2, R.cl, R.nh, rfl, r, h, g, n, k, q, rfl, hx1.same s2, Same.tup s2 hh1, by omega, by omega, fun tb H3 s3 h3 => ?_⟩
          have s13 := s2.trans s3
          have hl3 := hl1.same s13
          obtain ⟨dl3, hl4⟩ := id hl3
          rw [lowOf_nat, highOf_nat] at d3
          have d3 : (g j - g i - 1) * ((q : Int) - k) < (g q - g k + 1) * ((j : Int) - i) := d3
          have em : g j - g i + -1 = g j - g i - 1 := by omega
          rw [em] at h2
          refine ⟨_, rfl, _, rfl, ta, tb, (g j - g i - 1, (j : Int) - i), (g q - g k + 1, (q : Int) - k), rfl, .inl (.inl (s3 _ _ h2)), .inl (.inl h3), ⟨by show 0 < (j : Int) - i; omega, by show (j : Int) - i ≤ 1000; omega, fun rr e => by cases e; exact ⟨by show 0 < (q : Int) - k; omega, by show (q : Int) - k ≤ 1000; omega, d3⟩⟩, fun t p' q' H4 s4 h4 bst => ?_⟩
          have s14 := s13.trans s4
          have hl5 := hl1.same s14
          obtain ⟨dl5, hl6⟩ := id hl5
          refine ⟨_, rfl, l, CL, dl5, _, _, rfl, hl6, RL.cl, RL.na, rfl, _, rfl, l, CL, dl5, _, _, rfl, hl6, RL.cl, RL.nm, rfl, by show 2 ≤ sizeLine; decide, fun t2 n2 => ?_⟩
          have s5 := same_upd (o := .tup [.int a, .int m]) n2
          have h5 : SqT K (upd H4 t2 (.tup [.int a, .int m])) t2 [.int a, .int m] := .inl (.inl upd_same)
          generalize upd H4 t2 (.tup [.int a, .int m]) = H5 at *
          refine ⟨_, _, pair_dp (.inl (.inl (s5 _ _ h4))), pair_dp h5, rfl, rfl, _, rfl, ?_⟩
          rw [pair_eqv]
          have s15 := s14.trans s5
          by_cases e : p' = a ∧ q' = m
          · obtain ⟨rfl, rfl⟩ := e
            rw [decide_eq_true ⟨rfl, rfl⟩]
            refine iteF ?_
            have hl7 := hl1.same s15
            obtain ⟨dl7, hl8⟩ := id hl7
            refine ⟨_, rfl, l, CL, dl7, _, _, rfl, hl8, RL.cl, RL.nb, rfl, ?_⟩
            refine ⟨_, rfl, _, rfl, l, CL, dl7, _, _, rfl, hl8, RL.cl, RL.na, rfl, _, rfl, l, CL, dl7, _, _, rfl, hl8, RL.cl, RL.nm, rfl, r, p', q', g, n, rfl, hx1.same s15, n0, by omega, mm, fun b' H6 s6 off => ⟨rfl, ?_⟩⟩
            refine Z _ _ (s1.trans (s15.trans s6)) ?_
            rw [decide_eq_true_iff]
            constructor
            · intro z
              rw [V.int.inj z]
              refine ⟨fun x hx => ?_, p1, p2, ?_, off⟩
              · rw [← V.int.inj z]
                exact line x hx
              · rw [lowOf_nat, highOf_nat]
                exact bst
            · rintro ⟨_, _, _, _, off'⟩
              rw [off'.eq off]
          · rw [decide_eq_false e]
            refine iteT (Z false _ (s1.trans s15) ⟨(fun z => nomatch z), fun z => absurd ?_ e⟩)
            have b2 := z.2.2.2.1
            rw [lowOf_nat, highOf_nat] at b2
            exact bst.eq b2
        · rw [decide_eq_false p2]
          exact iteT (Z false _ s1 ⟨(fun z => nomatch z), fun z => absurd z.2.2.1 p2⟩)
      · rw [decide_eq_false p1]
        exact iteT (Z false _ s1 ⟨(fun z => nomatch z), fun z => absurd z.2.1 p1⟩)
def spShowC (K : PySem.W.Frag) (CC : Addr) : Sp := fun vs H Q _ => ∃ (p r dx o h : Addr) (i j k q : Int) (g : Nat → Int) (n : Nat), vs = [.ref p, .ref r] ∧ H p = some (.ins CC dx [("low", .ref o), ("high", .ref h)]) ∧
  SqT K H o [.int i, .int j] ∧ SqT K H h [.int k, .int q] ∧ SqA K H r (rowL g n) ∧ n ≤ 1000 ∧ ∀ (z : Bool) H', Same H H' → (z = true ↔ IsBent g n i j k q) → Q (.bl z) H'
theorem ok_CrookShows {f f2 f3 f4 f5 CC : Addr} {fd fd2 fd3 fd4 fd5 : FuncData} (T : Nm mg) (R : CrookC K CC) (C_are_places : Has P w K mg base "are_places" 3 ["pair", "row"] (spPlaces K) f2 fd2) (C_below : Has P w K mg base "below" 1 ["one", "other"] (spBelow K) f5 fd5)
    (C_lower_bound : Has P w K mg base "lower_bound" 1 ["row", "pair"] (spBound K (-1)) f3 fd3) (C_upper_bound : Has P w K mg base "upper_bound" 1 ["row", "pair"] (spBound K 1) f4 fd4) (F : Fun K "shows" "Crooked.shows" s_Crooked_shows f fd) : FnOk P w K mg base CX0 4 f fd ["self", "row"] (spShowC K CC) := by
  refine F.ok sc_Crooked_shows (fun vs H Q E h => ?_) (fun cdv A outer s H vs Q E hr h => ?_)
  · obtain ⟨p, r, dx, o, h, i, j, k, q, g, n, rfl, _⟩ := h
    rfl
  · obtain ⟨p, r, dx, o, h, i, j, k, q, g, n, rfl, hp, ho, hh, hx, n1, Z⟩ := h
    refine ⟨_, (pss_cons (ps_if (PW.pt (pw_or (pt_not (pt_val (pe_call C_are_places.G (hr.mono (by decide)) (by rfl) C_are_places.g C_are_places.k C_are_places.b .nil pass0 (pa_cons (pe_fld (pv 0) rfl) (pa_cons (pv 1) pa_nil))))) (pw_or1 (pt_not (pt_val (pe_call C_are_places.G (hr.mono (by decide)) (by rfl) C_are_places.g C_are_places.k C_are_places.b .nil pass0 (pa_cons (pe_fld (pv 0) rfl) (pa_cons (pv 1) pa_nil))))))))
      (pss_one (ps_ret pe_bl))
      pss_nil)
    (pss_one (ps_ret (pe_not (pe_call C_below.G (hr.mono (by decide)) (by rfl) C_below.g C_below.k C_below.b .nil pass0 (pa_cons (pe_call C_lower_bound.G (hr.mono (by decide)) (by rfl) C_lower_bound.g C_lower_bound.k C_lower_bound.b .nil pass0 (pa_cons (pv 1) (pa_cons (pe_fld (pv 0) rfl) pa_nil))) (pa_cons (pe_call C_upper_bound.G (hr.mono (by decide)) (by rfl) C_upper_bound.g C_upper_bound.k C_upper_bound.b .nil pass0 (pa_cons (pv 1) (pa_cons (pe_fld (pv 0) rfl) pa_nil))) pa_nil))))))), ?_⟩
    refine ⟨_, rfl, p, CC, dx, _, _, rfl, hp, R.cl, R.no, rfl, _, rfl, o, r, i, j, _, rfl, ho, hx, _, rfl, ?_⟩
    rw [rowL_len]
    by_cases p1 : PairOk n i j
    · rw [decide_eq_true p1]
      refine iteF ?_
      refine ⟨_, rfl, p, CC, dx, _, _, rfl, hp, R.cl, R.nh, rfl, _, rfl, h, r, k, q, _, rfl, hh, hx, _, rfl, ?_⟩
      rw [rowL_len]
      by_cases p2 : PairOk n k q
      · rw [decide_eq_true p2]
        refine iteF ?_
        obtain ⟨i, rfl⟩ := Int.eq_ofNat_of_zero_le p1.1
        obtain ⟨j, rfl⟩ := Int.eq_ofNat_of_zero_le (show 0 ≤ j by have := p1.1; have := p1.2.1; omega)
        obtain ⟨k, rfl⟩ := Int.eq_ofNat_of_zero_le p2.1
        obtain ⟨q, rfl⟩ := Int.eq_ofNat_of_zero_le (show 0 ≤ q by have := p2.1; have := p2.2.1; omega)
        have b1 := p1.2
        have b2 := p2.2
        refine ⟨_, rfl, _, rfl, p, CC, dx, _, _, rfl, hp, R.cl, R.no, rfl, r, o, g, n, i, j, rfl, hx, ho, by omega, by omega, fun ta H2 s2 h2 => ?_⟩
        have hp2 := s2 _ _ hp
        refine ⟨_, rfl, _, rfl, p, CC, dx, _, _, rfl, hp2, R.cl, R.nh, rfl, r, h, g, n, k, q, rfl, hx.same s2, Same.tup s2 hh, by omega, by omega, fun tb H3 s3 h3 => ?_⟩
        have em : g j - g i + -1 = g j - g i - 1 := by omega
        rw [em] at h2
        refine ⟨ta, tb, (g j - g i - 1, (j : Int) - i), (g q - g k + 1, (q : Int) - k), rfl, .inl (.inl (s3 _ _ h2)), .inl (.inl h3), ⟨by show -(2 ^ 62) < (j : Int) - i; omega, by show (j : Int) - i < 2 ^ 62; omega⟩, ⟨by show -(2 ^ 62) < (q : Int) - k; omega, by show (q : Int) - k < 2 ^ 62; omega⟩, _, rfl, ?_⟩
        refine Z _ _ (s2.trans s3) ?_
        unfold IsBent
        rw [lowOf_nat, highOf_nat]
        simp [p1, p2]
      · rw [decide_eq_false p2]
        exact iteT (Z false _ (fun _ _ z => z) ⟨(fun z => nomatch z), fun z => absurd z.2.1 p2⟩)
    · rw [decide_eq_false p1]
      exact iteT (Z false _ (fun _ _ z => z) ⟨(fun z => nomatch z), fun z => absurd z.1 p1⟩)
end
end K14

namespace K14
open PySem PySem.Spec PyProof.Rows L2 My M50
local macro_rules | `(tactic| walk_at "side") => `(tactic| (first
  | assumption
  | (refine OkMod.mk ?_; omega)
  | (refine mulOkL ?_ ?_ <;> omega)
  | (refine mulOkR ?_ ?_ <;> omega)
  | (refine divOk ?_ ?_ <;> omega)))
local macro_rules | `(tactic| walk_at "rd") => `(tactic| (first
  | with_reducible refine ⟨_, rfl, ?_⟩
  | refine ⟨_, rfl, ?_⟩
  | refine ⟨_, _, rfl, rfl, ?_⟩
  | refine And.intro (by walk_at "side") ?_
  | refine ⟨_, _, rfl, asm (by assumption), ?_⟩
  | refine ⟨_, _, rfl, asm ?_⟩))
section
variable {P : Program} {w : World} {K : PySem.W.Frag} {mg : Str → Option Value} {base : Heap}

/-! ### the law's own walk -/
def spAt (K : PySem.W.Frag) : Sp := fun vs H Q _ => ∃ (t : Addr) (a b m x : Int), vs = [.ref t, .int x] ∧ SqT K H t [.int a, .int b, .int m] ∧ 1 ≤ m ∧ Med m ∧ Med x ∧ Q (.int ((a * x + b) / m)) H
theorem ok__law_at {f : Addr} {fd : FuncData} (F : Fun K "_law_at" "_law_at" s__law_at f fd) : FnOk P w K mg base CX0 1 f fd ["line", "x"] (spAt K) := by
  refine F.ok sc__law_at (fun vs H Q E h => ?_) (fun cdv A outer s H vs Q E hr h => ?_)
  · obtain ⟨t, a, b, m, x, rfl, _⟩ := h
    rfl
  · obtain ⟨t, a, b, m, x, rfl, ht, m1, mm, mx, q⟩ := h
    refine ⟨_, (pss_one (ps_ret (pe_op op_fdivA (pe_op op_add (pe_op op_mulA (pe_ix ix_tup (pv 0) pe_int (fun _ _ => rfl)) (pv 1)) (pe_ix ix_tup (pv 0) pe_int (fun _ _ => rfl))) (pe_ix ix_tup (pv 0) pe_int (fun _ _ => rfl))))), ?_⟩
    refine ⟨_, rfl, t, _, 0, _, rfl, rfl, ht, rfl, _, rfl, _, _, rfl, rfl, mx.r, _, rfl, t, _, 1, _, rfl, rfl, ht, rfl, _, _, rfl, rfl, ?_⟩
    exact ⟨_, rfl, t, _, 2, _, rfl, rfl, ht, rfl, _, _, rfl, rfl, divOk (by omega) (by have := mm.2; omega), q⟩
def spBoundsOf (K : PySem.W.Frag) : Sp := fun vs H Q _ => ∃ (r o h : Addr) (g : Nat → Int) (n i j k q : Nat), vs = [.ref r, .ref o, .ref h] ∧ SqL K H r (rowL g n) ∧ SqT K H o [.int i, .int j] ∧ SqT K H h [.int k, .int q] ∧ i < n ∧ j < n ∧ k < n ∧ q < n ∧
  ∀ t ta tb H', Same H H' → H' t = some (.tup [.ref ta, .ref tb]) → H' ta = some (.tup [.int (g j - g i - 1), .int ((j : Int) - i)]) → H' tb = some (.tup [.int (g q - g k + 1), .int ((q : Int) - k)]) → Q (.ref t) H'
theorem ok__law_bounds_of {f : Addr} {fd : FuncData} (F : Fun K "_law_bounds_of" "_law_bounds_of" s__law_bounds_of f fd) : FnOk P w K mg base CX0 1 f fd ["row", "low", "high"] (spBoundsOf K) := by
  refine F.ok sc__law_bounds_of (fun vs H Q E h => ?_) (fun cdv A outer s H vs Q E hr h => ?_)
  · obtain ⟨r, o, h, g, n, i, j, k, q, rfl, _⟩ := h
    rfl
  · obtain ⟨r, o, h, g, n, i, j, k, q, rfl, hx, ho, hh, hi, hj, hk, hq, Z⟩ := h
    refine ⟨_, (pss_one (ps_ret (pe_tup (pa_cons (pe_tup (pa_cons (pe_op op_sub (pe_op op_sub (pe_ix ix_list (pv 0) (pe_ix ix_tup (pv 1) pe_int (fun _ _ => rfl)) (fun _ _ => rfl)) (pe_ix ix_list (pv 0) (pe_ix ix_tup (pv 1) pe_int (fun _ _ => rfl)) (fun _ _ => rfl))) pe_int) (pa_cons (pe_op op_sub (pe_ix ix_tup (pv 1) pe_int (fun _ _ => rfl)) (pe_ix ix_tup (pv 1) pe_int (fun _ _ => rfl))) pa_nil))) (pa_cons (pe_tup (pa_cons (pe_op op_add (pe_op op_sub (pe_ix ix_list (pv 0) (pe_ix ix_tup (pv 2) pe_int (fun _ _ => rfl)) (fun _ _ => rfl)) (pe_ix ix_list (pv 0) (pe_ix ix_tup (pv 2) pe_int (fun _ _ => rfl)) (fun _ _ => rfl))) pe_int) (pa_cons (pe_op op_sub (pe_ix ix_tup (pv 2) pe_int (fun _ _ => rfl)) (pe_ix ix_tup (pv 2) pe_int (fun _ _ => rfl))) pa_nil))) pa_nil))))), ?_⟩
    refine ⟨_, rfl, _, rfl, o, _, 1, _, rfl, rfl, ho, rfl, r, _, _, _, rfl, rfl, hx, atI_nat (rowL_at hj), ?_⟩
    refine ⟨_, rfl, _, rfl, o, _, 0, _, rfl, rfl, ho, rfl, r, _, _, _, rfl, rfl, hx, atI_nat (rowL_at hi), _, _, rfl, rfl, _, _, rfl, rfl, ?_⟩
    refine ⟨_, rfl, o, _, 1, _, rfl, rfl, ho, rfl, _, rfl, o, _, 0, _, rfl, rfl, ho, rfl, _, _, rfl, rfl, by show 2 ≤ sizeLine; decide, fun ta na => ?_⟩
    have s1 := same_upd (o := .tup [.int (g j - g i - 1), .int ((j : Int) - i)]) na
    have h1 : upd H ta (.tup [.int (g j - g i - 1), .int ((j : Int) - i)]) ta = _ := upd_same
    generalize upd H ta (.tup [.int (g j - g i - 1), .int ((j : Int) - i)]) = H1 at *
    have hx1 := s1.seq hx
    have hh1 := Same.tup s1 hh
    refine ⟨_, rfl, _, rfl, h, _, 1, _, rfl, rfl, hh1, rfl, r, _, _, _, rfl, rfl, hx1, atI_nat (rowL_at hq), ?_⟩
    refine ⟨_, rfl, _, rfl, h, _, 0, _, rfl, rfl, hh1, rfl, r, _, _, _, rfl, rfl, hx1, atI_nat (rowL_at hk), _, _, rfl, rfl, _, _, rfl, rfl, ?_⟩
    refine ⟨_, rfl, h, _, 1, _, rfl, rfl, hh1, rfl, _, rfl, h, _, 0, _, rfl, rfl, hh1, rfl, _, _, rfl, rfl, by show 2 ≤ sizeLine; decide, fun tb nb => ?_⟩
    have s2 := same_upd (o := .tup [.int (g q - g k + 1), .int ((q : Int) - k)]) nb
    have h2 : upd H1 tb (.tup [.int (g q - g k + 1), .int ((q : Int) - k)]) tb = _ := upd_same
    generalize upd H1 tb (.tup [.int (g q - g k + 1), .int ((q : Int) - k)]) = H2 at *
    refine ⟨by show 2 ≤ sizeLine; decide, fun t nt => ?_⟩
    have s3 := same_upd (o := .tup [.ref ta, .ref tb]) nt
    exact Z t ta tb _ (s1.trans (s2.trans s3)) upd_same (s3 _ _ (s2 _ _ h1)) (s3 _ _ h2)
def spIsP (K : PySem.W.Frag) : Sp := fun vs H Q _ => ∃ (p : Addr) (i j : Int) (n : Nat), vs = [.ref p, .int (n : Int)] ∧ SqT K H p [.int i, .int j] ∧ ∀ H', Same H H' → Q (.bl (decide (PairOk n i j))) H'
theorem ok__law_is_pair {f f1 : Addr} {fd fd1 : FuncData} (T : Nm mg) (C__law_is_number : Has P w K mg base "_law_is_number" 1 ["value"] (spIsNum K) f1 fd1) (F : Fun K "_law_is_pair" "_law_is_pair" s__law_is_pair f fd) : FnOk P w K mg base CX0 2 f fd ["pair", "many"] (spIsP K) := by
  refine F.ok sc__law_is_pair (fun vs H Q E h => ?_) (fun cdv A outer s H vs Q E hr h => ?_)
  · obtain ⟨p, i, j, n, rfl, _⟩ := h
    rfl
  · obtain ⟨p, i, j, n, rfl, ht, q⟩ := h
    refine ⟨_, (pss_one (ps_ret (pe_and (pe_callB call_isi (by rfl) T.isinstance (by decide +kernel) (pa_cons (pv 0) (pa_cons (pe_ty (n := "tuple") (by rfl) T.tuple (by decide +kernel)) pa_nil))) (pe_and (pe_cmpR op_eq (pe_callB call_lenT (by rfl) T.len (by decide +kernel) (pa_cons (pv 0) pa_nil)) pe_int (nomark _)) (pe_and (pe_callB (cr_all rfl) (by rfl) T.all (by decide +kernel) (pa_cons (pe_lc (own := [("one", 2)]) (g := gName 2) (by rfl) sc__law_is_pair.nd (pi_tup (pv 0)) (by exact blkOk_by (N := ["pair", "many", "one"]) (sc := defScope s__law_is_pair) (by decide +kernel)) (fun _ _ _ _ _ => by exact (pg_name (i := 2) sc__law_is_pair.nd rfl (Or.inl rfl))) (fun _ _ _ _ _ => pts_nil) (fun _ _ _ _ _ => (pe_call C__law_is_number.G (hr.mono (by decide)) (by rfl) C__law_is_number.g C__law_is_number.k C__law_is_number.b .nil pass0 (pa_cons (pv 2) pa_nil)))) pa_nil)) (pe_one (pe_chain3 op_le op_lt op_lt pe_int (pe_ix ix_tup (pv 0) pe_int (fun _ _ => rfl)) (pe_ix ix_tup (pv 0) pe_int (fun _ _ => rfl)) (pv 1)))))))), ?_⟩
    refine ⟨_, rfl, _, _, _, _, _, rfl, .ty _, tyT ht, kit_ty (by decide +kernel), true, rfl, iteT ?_⟩
    refine ⟨_, rfl, p, _, rfl, ht, rfl, _, rfl, ?_⟩
    refine iteT ?_
    refine ⟨_, rfl, p, rfl, ⟨_, ht⟩, fun D nD => lc_it (walk_tup (xs := [.int i, .int j])) (fun i H' => Same H H' ∧ H' D = some (.lst ((List.replicate i true).map V.bl))) ⟨same_upd nD, upd_same⟩ (fun i H' _ z => Same.tup z.1 ht) ?_ ?_⟩
    · rintro c x H2 H1 hc ⟨s1, h1⟩ ⟨rfl, e⟩
      have hx : NumB K H1 x true := by
        match c, hc, e with
        | 0, _, e =>
          cases e
          exact numB_int _
        | 1, _, e =>
          cases e
          exact numB_int _
      refine ⟨rfl, tYes_in ⟨_, rfl, x, true, rfl, hx, _, h1, ?_, same_keep nD s1 (Keep.upd D _ _), ?_⟩⟩
      · rw [List.length_map, List.length_replicate]
        exact small1000 (by simp at hc; omega)
      · rw [upd_same, List.replicate_succ', List.map_append]
        rfl
    rintro H1 ⟨s1, h1⟩
    have ht1 := Same.tup s1 ht
    refine ⟨D, _, rfl, .inl (.inl h1), true, rfl, iteT ?_⟩
    refine ⟨_, rfl, p, _, 0, _, rfl, rfl, ht1, rfl, _, _, rfl, rfl, _, rfl, ?_⟩
    by_cases h0 : 0 ≤ i
    · rw [decide_eq_true h0]
      refine iteT ?_
      refine ⟨_, rfl, p, _, 1, _, rfl, rfl, ht1, rfl, _, _, rfl, rfl, _, rfl, ?_⟩
      by_cases h2 : i < j
      · rw [decide_eq_true h2]
        refine iteT ?_
        refine ⟨_, rfl, _, _, rfl, rfl, ?_⟩
        have e : decide (PairOk n i j) = decide (j < (n : Int)) := by
          unfold PairOk
          rw [Bool.eq_iff_iff]
          simp [h0, h2]
        show Q (.bl (decide (j < (n : Int)))) H1
        rw [← e]
        exact q H1 s1
      · rw [decide_eq_false h2]
        refine iteF ?_
        have z := q H1 s1
        rw [decide_eq_false (show ¬ PairOk n i j from fun z => h2 z.2.1)] at z
        exact z
    · rw [decide_eq_false h0]
      refine iteF ?_
      have z := q H1 s1
      rw [decide_eq_false (show ¬ PairOk n i j from fun z => h0 z.1)] at z
      exact z
def btwV (l h : Int × Int) (m : Int) : V := if Btw l h m then .int (l.1 * m / l.2 + 1) else .non
def spBtw (K : PySem.W.Frag) : Sp := fun vs H Q _ => ∃ (a b : Addr) (l h : Int × Int) (m : Int), vs = [.ref a, .ref b, .int m] ∧ SqT K H a [.int l.1, .int l.2] ∧ SqT K H b [.int h.1, .int h.2] ∧ 0 < l.2 ∧ Med l.2 ∧ Med h.2 ∧ Med m ∧ Q (btwV l h m) H
theorem ok__law_between {f : Addr} {fd : FuncData} (F : Fun K "_law_between" "_law_between" s__law_between f fd) : FnOk P w K mg base CX0 1 f fd ["above", "below_v", "m"] (spBtw K) := by
  refine F.ok sc__law_between (fun vs H Q E h => ?_) (fun cdv A outer s H vs Q E hr h => ?_)
  · obtain ⟨a, b, l, h, m, rfl, _⟩ := h
    rfl
  · obtain ⟨a, b, l, h, m, rfl, ha, hb, l0, ml, mh, mm, q⟩ := h
    refine ⟨_, (pss_cons (ps_set (i := 3) sc__law_between.nd rfl (Or.inl rfl) (pe_op op_add (pe_op op_fdivA (pe_op op_mulA (pe_ix ix_tup (pv 0) pe_int (fun _ _ => rfl)) (pv 2)) (pe_ix ix_tup (pv 0) pe_int (fun _ _ => rfl))) pe_int))
    (pss_one (ps_ret (pe_ifExp (pt_cmpR op_lt (pe_op op_mulA (pv 3) (pe_ix ix_tup (pv 1) pe_int (fun _ _ => rfl))) (pe_op op_mulA (pe_ix ix_tup (pv 1) pe_int (fun _ _ => rfl)) (pv 2)) (nomark _)) (pv 3) pe_non)))), ?_⟩
    refine ⟨_, rfl, a, _, 0, _, rfl, rfl, ha, rfl, _, rfl, _, _, rfl, rfl, mm.r, _, rfl, a, _, 1, _, rfl, rfl, ha, rfl, _, _, rfl, rfl, divOk l0 (by have := ml.2; omega), _, _, rfl, rfl, ?_⟩
    refine ⟨_, rfl, _, rfl, b, _, 1, _, rfl, rfl, hb, rfl, _, _, rfl, rfl, mh.r, _, rfl, b, _, 0, _, rfl, rfl, hb, rfl, _, rfl, _, _, rfl, rfl, mm.r, _, _, rfl, rfl, _, rfl, ?_⟩
    unfold btwV at q
    by_cases e : Btw l h m
    · rw [if_pos e] at q
      rw [decide_eq_true (show (l.1 * m / l.2 + 1) * h.2 < h.1 * m from e)]
      exact iteT ⟨_, rfl, q⟩
    · rw [if_neg e] at q
      rw [decide_eq_false (show ¬ (l.1 * m / l.2 + 1) * h.2 < h.1 * m from e)]
      exact iteF q
theorem ints_eqvD : ∀ ns ms : List Int, PyData.eqvAll (ns.map PyData.int) (ms.map PyData.int) = decide (ns = ms)
  | [], [] => rfl
  | [], _ :: _ => rfl
  | _ :: _, [] => rfl
  | n :: ns, m :: ms => by
    show ((n == m) && PyData.eqvAll (ns.map PyData.int) (ms.map PyData.int)) = _
    rw [ints_eqvD ns ms, Bool.eq_iff_iff]
    simp
def spRight (K : PySem.W.Frag) (CS CC CL : Addr) : Sp := fun vs H Q _ => ∃ (r p : Addr) (g : Nat → Int) (n : Nat), vs = [.ref r, .ref p] ∧ SqL K H r (rowL g n) ∧ 0 < n ∧ n ≤ 1000 ∧
  ((∃ (dx l o h : Addr) (a b m i j k q : Int), H p = some (.ins CS dx [("line", .ref l), ("low", .ref o), ("high", .ref h)]) ∧ LineAt H CL l a b m ∧ 1 ≤ m ∧ m ≤ 5000 ∧ SqT K H o [.int i, .int j] ∧ SqT K H h [.int k, .int q] ∧ ∀ (z : Bool) H', Same H H' → (z = true ↔ IsShown g n a b m i j k q) → Q (.bl z) H') ∨
    ∃ (dx o h : Addr) (i j k q : Int), H p = some (.ins CC dx [("low", .ref o), ("high", .ref h)]) ∧ SqT K H o [.int i, .int j] ∧ SqT K H h [.int k, .int q] ∧ ∀ (z : Bool) H', Same H H' → (z = true ↔ IsBent g n i j k q) → Q (.bl z) H')
theorem any_none {h l : Int × Int} {n : Nat} (e : ((List.range n).map fun k : Nat => decide (Btw l h (1 + (k : Int)))).any id = false) (m : Int) (m1 : 1 ≤ m) (m2 : m < 1 + (n : Int)) : ¬ Btw l h m := fun z => by
  rw [List.any_eq_false] at e
  refine e (decide (Btw l h (1 + ((m - 1).toNat : Int)))) (List.mem_map.mpr ⟨(m - 1).toNat, List.mem_range.mpr (by omega), rfl⟩) ?_
  rw [show 1 + ((m - 1).toNat : Int) = m by omega]
  exact decide_eq_true z
theorem any_some {h l : Int × Int} {n : Nat} (e : ((List.range n).map fun k : Nat => decide (Btw l h (1 + (k : Int)))).any id = true) : ∃ m, 1 ≤ m ∧ m < 1 + (n : Int) ∧ Btw l h m := by
  obtain ⟨b, hb, e⟩ := List.any_eq_true.mp e
  obtain ⟨k, hk, rfl⟩ := List.mem_map.mp hb
  have := List.mem_range.mp hk
  exact ⟨1 + (k : Int), by omega, by omega, of_decide_eq_true e⟩
theorem ok__law_is_right {f f1 f2 f3 CS CC CL : Addr} {fd fd1 fd2 fd3 : FuncData} (T : Nm mg) (gC : mg "Crooked" = some (.ref CC)) (RS : StairsC K CS) (RC : CrookC K CC) (RL : LineC K CL) (IS : ClsI K CS) (IC : ClsI K CC) (IO : ObjI K) (kSC : PySem.W.kitOne K (.ref CS) (.ref CC) = some false)
    (C__law_is_pair : Has P w K mg base "_law_is_pair" 2 ["pair", "many"] (spIsP K) f1 fd1) (C__law_bounds_of : Has P w K mg base "_law_bounds_of" 1 ["row", "low", "high"] (spBoundsOf K) f2 fd2) (C__law_between : Has P w K mg base "_law_between" 1 ["above", "below_v", "m"] (spBtw K) f3 fd3)
    (F : Fun K "_law_is_right" "_law_is_right" s__law_is_right f fd) : FnOk P w K mg base CX0 3 f fd ["row", "told"] (spRight K CS CC CL) := by
  refine F.ok sc__law_is_right (fun vs H Q E h => ?_) (fun cdv A outer s H vs Q E hr h => ?_)
  · obtain ⟨r, p, g, n, rfl, _⟩ := h
    rfl
  · obtain ⟨r, p, g, n, rfl, hx, n0, n1, hz⟩ := h
    refine ⟨_, (pss_cons (ps_if (PW.pt (pw_or (pt_not (pt_val (pe_call C__law_is_pair.G (hr.mono (by decide)) (by rfl) C__law_is_pair.g C__law_is_pair.k C__law_is_pair.b .nil pass0 (pa_cons (pe_fld (pv 1) rfl) (pa_cons (pe_callB call_lenL (by rfl) T.len (by decide +kernel) (pa_cons (pv 0) pa_nil)) pa_nil))))) (pw_or1 (pt_not (pt_val (pe_call C__law_is_pair.G (hr.mono (by decide)) (by rfl) C__law_is_pair.g C__law_is_pair.k C__law_is_pair.b .nil pass0 (pa_cons (pe_fld (pv 1) rfl) (pa_cons (pe_callB call_lenL (by rfl) T.len (by decide +kernel) (pa_cons (pv 0) pa_nil)) pa_nil))))))))
      (pss_one (ps_ret pe_bl))
      pss_nil)
    (pss_cons (ps_asg (pe_call C__law_bounds_of.G (hr.mono (by decide)) (by rfl) C__law_bounds_of.g C__law_bounds_of.k C__law_bounds_of.b .nil pass0 (pa_cons (pv 0) (pa_cons (pe_fld (pv 1) rfl) (pa_cons (pe_fld (pv 1) rfl) pa_nil)))) (pg_tup rfl (pgs_cons (pg_name (i := 2) sc__law_is_right.nd rfl (Or.inr rfl)) (pgs_cons (pg_name (i := 3) sc__law_is_right.nd rfl (Or.inr rfl)) pgs_nil))))
    (pss_cons (ps_if (pt_val (pe_callB call_isi (by rfl) T.isinstance (by decide +kernel) (pa_cons (pv 1) (pa_cons (pe_glob (v := .ref CC) rfl gC rfl) pa_nil))))
      (pss_one (ps_ret (pe_cmpR op_ge (pe_op op_mulA (pe_ix ix_tup (pv 2) pe_int (fun _ _ => rfl)) (pe_ix ix_tup (pv 3) pe_int (fun _ _ => rfl))) (pe_op op_mulA (pe_ix ix_tup (pv 3) pe_int (fun _ _ => rfl)) (pe_ix ix_tup (pv 2) pe_int (fun _ _ => rfl))) (nomark _))))
      pss_nil)
    (pss_cons (ps_asg (pe_tup (pa_cons (pe_fld (pe_fld (pv 1) rfl) rfl) (pa_cons (pe_fld (pe_fld (pv 1) rfl) rfl) (pa_cons (pe_fld (pe_fld (pv 1) rfl) rfl) pa_nil)))) (pg_tup rfl (pgs_cons (pg_name (i := 4) sc__law_is_right.nd rfl (Or.inr rfl)) (pgs_cons (pg_name (i := 5) sc__law_is_right.nd rfl (Or.inr rfl)) (pgs_cons (pg_name (i := 6) sc__law_is_right.nd rfl (Or.inr rfl)) pgs_nil)))))
    (pss_cons (ps_if (PW.pt (pw_or (pt_cmpR (op_neD hr.units) (pe_lc (own := [("x", 7)]) (g := gName 7) (by rfl) sc__law_is_right.nd (pi_range1 rfl T.range (pa_cons (pe_callB call_lenL (by rfl) T.len (by decide +kernel) (pa_cons (pv 0) pa_nil)) pa_nil)) (by exact blkOk_by (N := ["row", "told", "above", "below_v", "a", "b", "m", "x", "less", "number"]) (sc := defScope s__law_is_right) (by decide +kernel)) (fun _ _ _ _ _ => by exact (pg_name (i := 7) sc__law_is_right.nd rfl (Or.inl rfl))) (fun _ _ _ _ _ => pts_nil) (fun _ _ _ _ _ => (pe_op op_fdivA (pe_op op_add (pe_op op_mulA (pv 4) (pv 7)) (pv 5)) (pv 6)))) (pe_callTy call_list_of (by rfl) T.list (by decide +kernel) (pa_cons (pv 0) pa_nil)) (nomark _)) (pw_or1 (pt_val (pe_callB (cr_any rfl) (by rfl) T.any (by decide +kernel) (pa_cons (pe_lc (own := [("less", 8)]) (g := gName 8) (by rfl) sc__law_is_right.nd (pi_range2 rfl T.range (pa_cons pe_int (pa_cons (pv 6) pa_nil))) (by exact blkOk_by (N := ["row", "told", "above", "below_v", "a", "b", "m", "x", "less", "number"]) (sc := defScope s__law_is_right) (by decide +kernel)) (fun _ _ _ _ _ => by exact (pg_name (i := 8) sc__law_is_right.nd rfl (Or.inl rfl))) (fun _ _ _ _ _ => pts_nil) (fun _ _ _ _ _ => (pe_cmpR op_notN (pe_call C__law_between.G (hr.mono (by decide)) (by rfl) C__law_between.g C__law_between.k C__law_between.b .nil pass0 (pa_cons (pv 2) (pa_cons (pv 3) (pa_cons (pv 8) pa_nil)))) pe_non (nomark _)))) pa_nil))))))
      (pss_one (ps_ret pe_bl))
      pss_nil)
    (pss_one (ps_ret (pe_and (pe_cmpR op_eq (pe_call C__law_between.G (hr.mono (by decide)) (by rfl) C__law_between.g C__law_between.k C__law_between.b .nil pass0 (pa_cons (pv 2) (pa_cons (pv 3) (pa_cons (pv 6) pa_nil)))) (pv 4) (nomark _)) (pe_one (pe_cmpR op_eq (pv 5) (pe_callB (cr_max rfl) (by rfl) T.max (by decide +kernel) (pa_cons (pe_lc (own := [("x", 7), ("number", 9)]) (g := gTup K 2 (gCons (gName 7) (gCons (gName 9) (gNil)))) (by rfl) sc__law_is_right.nd (pi_enumV (pv 0) (by rfl) T.enumerate) (by exact blkOk_by (N := ["row", "told", "above", "below_v", "a", "b", "m", "x", "less", "number"]) (sc := defScope s__law_is_right) (by decide +kernel)) (fun _ _ _ _ _ => by exact (pg_tup rfl (pgs_cons (pg_name (i := 7) sc__law_is_right.nd rfl (Or.inl rfl)) (pgs_cons (pg_name (i := 9) sc__law_is_right.nd rfl (Or.inl rfl)) pgs_nil)))) (fun _ _ _ _ _ => pts_nil) (fun _ _ _ _ _ => (pe_op op_sub (pe_op op_mulA (pv 9) (pv 6)) (pe_op op_mulA (pv 4) (pv 7))))) pa_nil)) (nomark _))))))))))), ?_⟩
    rcases hz with ⟨dx, l, o, h, a, b, m, i, j, k, q, hp, hl, m1, m2, ho, hh, Z⟩ | ⟨dx, o, h, i, j, k, q, hp, ho, hh, Z⟩
    · refine ⟨_, rfl, p, CS, dx, _, _, rfl, hp, RS.cl, RS.no, rfl, _, rfl, r, _, rfl, hx, o, i, j, n, by rw [rowL_len]; rfl, ho, fun H1 s1 => ⟨_, rfl, ?_⟩⟩
      by_cases p1 : PairOk n i j
      · rw [decide_eq_true p1]
        refine iteF ?_
        have hp1 := s1 _ _ hp
        have hx1 := s1.seq hx
        refine ⟨_, rfl, p, CS, dx, _, _, rfl, hp1, RS.cl, RS.nh, rfl, _, rfl, r, _, rfl, hx1, h, k, q, n, by rw [rowL_len]; rfl, Same.tup s1 hh, fun H2 s2 => ⟨_, rfl, ?_⟩⟩
        have s02 := s1.trans s2
        by_cases p2 : PairOk n k q
        · rw [decide_eq_true p2]
          refine iteF ?_
          obtain ⟨i, rfl⟩ := Int.eq_ofNat_of_zero_le p1.1
          obtain ⟨j, rfl⟩ := Int.eq_ofNat_of_zero_le (show 0 ≤ j by have := p1.1; have := p1.2.1; omega)
          obtain ⟨k, rfl⟩ := Int.eq_ofNat_of_zero_le p2.1
          obtain ⟨q, rfl⟩ := Int.eq_ofNat_of_zero_le (show 0 ≤ q by have := p2.1; have := p2.2.1; omega)
          have b1 := p1.2
          have b2 := p2.2
          have hp2 := s02 _ _ hp
          refine ⟨_, rfl, _, rfl, p, CS, dx, _, _, rfl, hp2, RS.cl, RS.no, rfl, _, rfl, p, CS, dx, _, _, rfl, hp2, RS.cl, RS.nh, rfl, r, o, h, g, n, i, j, k, q, rfl, s02.seq hx, Same.tup s02 ho, Same.tup s02 hh, by omega, by omega, by omega, by omega, fun t ta tb H3 s3 ht hta htb => ?_⟩
          have s03 := s02.trans s3
          refine ⟨t, _, rfl, .inl (.inl ht), rfl, _, _, rfl, _, _, rfl, rfl, ?_⟩
          have hp3 := s03 _ _ hp
          have hl3 := hl.same s03
          obtain ⟨dl, hl4⟩ := id hl3
          refine ⟨_, rfl, _, _, _, _, _, rfl, .own CC, .base (.ins hp3 RS.cl IS.ha IO.hn IO.ht IS.hm), kSC, false, rfl, iteF ?_⟩
          refine ⟨_, rfl, p, CS, dx, _, _, rfl, hp3, RS.cl, RS.nl, rfl, l, CL, dl, _, _, rfl, hl4, RL.cl, RL.na, rfl, ?_⟩
          refine ⟨_, rfl, p, CS, dx, _, _, rfl, hp3, RS.cl, RS.nl, rfl, l, CL, dl, _, _, rfl, hl4, RL.cl, RL.nb, rfl, ?_⟩
          refine ⟨_, rfl, p, CS, dx, _, _, rfl, hp3, RS.cl, RS.nl, rfl, l, CL, dl, _, _, rfl, hl4, RL.cl, RL.nm, rfl, by show 3 ≤ sizeLine; decide, fun t3 n3 => ?_⟩
          refine ⟨t3, _, rfl, .inl (.inl upd_same), rfl, _, _, rfl, _, _, rfl, _, _, rfl, rfl, ?_⟩
          have s4 := same_upd (o := .tup [.int a, .int b, .int m]) n3
          generalize upd H3 t3 (.tup [.int a, .int b, .int m]) = H4 at *
          have s04 := s03.trans s4
          have hx4 := s04.seq hx
          have hta4 : SqT K H4 ta [.int (lowOf g i j).1, .int (lowOf g i j).2] := by
            rw [lowOf_nat]
            exact .inl (.inl (s4 _ _ hta))
          have htb4 : SqT K H4 tb [.int (highOf g k q).1, .int (highOf g k q).2] := by
            rw [highOf_nat]
            exact .inl (.inl (s4 _ _ htb))
          have e1 : (lowOf g i j).2 = (j : Int) - i := rfl
          have e2 : (highOf g k q).2 = (q : Int) - k := rfl
          generalize hL : lowOf g i j = L at *
          generalize hU : highOf g k q = U at *
          have c1 : 0 < L.2 := by omega
          have c2 : 0 < U.2 := by omega
          have c3 : Med L.2 := ⟨by omega, by omega⟩
          have c4 : Med U.2 := ⟨by omega, by omega⟩
          have cm : Med m := ⟨by omega, by omega⟩
          have shown : IsShown g n a b m i j k q ↔ (∀ x : Nat, x < n → (a * (x : Int) + b) / m = g x) ∧ (∀ m', 1 ≤ m' → m' < m → ¬ Btw L U m') ∧ Btw L U m ∧ L.1 * m / L.2 + 1 = a ∧ Off g n a m b := by
            unfold IsShown
            rw [hL, hU, best_iff c1 c2]
            exact ⟨fun ⟨z1, _, _, ⟨_, z2, z3, z4⟩, z5⟩ => ⟨z1, z2, z3, z4, z5⟩, fun ⟨z1, z2, z3, z4, z5⟩ => ⟨z1, p1, p2, ⟨m1, z2, z3, z4⟩, z5⟩⟩
          -- the numbers
          refine ⟨_, rfl, r, _, rfl, hx4, _, rfl, by rw [rowL_len]; omega, by rw [rowL_len]; omega, fun D nD => lc_range (lo := 0) (n := ((rowL g n).length : Int).toNat) (fun c H' => Same H4 H' ∧ H' D = some (.lst (rowL (fun x => (a * (x : Int) + b) / m) c))) ⟨same_upd nD, upd_same⟩ ?_ ?_⟩
          · rintro c H5 hc ⟨s5, hD⟩
            rw [rowL_len] at hc
            have mc : Med (0 + (c : Int)) := ⟨by omega, by omega⟩
            refine ⟨rfl, tYes_in ?_⟩
            refine ⟨_, rfl, _, rfl, _, _, rfl, rfl, mc.r, _, rfl, _, _, rfl, rfl, _, rfl, _, _, rfl, rfl, divOk (by omega) (by omega), _, hD, ?_, same_keep nD s5 (Keep.upd D _ _), ?_⟩
            · rw [rowL_len]
              exact small1000 (by omega)
            · rw [upd_same, rowL_snoc, Int.zero_add]
          rintro H5 ⟨s5, hD⟩
          rw [rowL_len, Int.toNat_natCast] at hD
          have hx5 := s5.seq hx4
          refine ⟨_, rfl, r, _, rfl, .inl hx5, fun D2 nD2 => ?_⟩
          have s6 := same_upd (o := .lst (rowL g n)) nD2
          have h6 : upd H5 D2 (.lst (rowL g n)) D2 = _ := upd_same
          have hD6 := s6 _ _ hD
          generalize upd H5 D2 (.lst (rowL g n)) = H6 at *
          rw [rowL_ints] at hD6 h6
          refine ⟨_, _, .lst (.inl (.inl hD6)) (dpAll_ints _), .lst (.inl (.inl h6)) (dpAll_ints _), PySem.W.ke_shaped_ints _, PySem.W.ke_shaped_ints _, _, rfl, ?_⟩
          show if (!PyData.eqvAll _ _) = true then _ else _
          rw [ints_eqvD]
          have s06 := s04.trans (s5.trans s6)
          have rows : ((List.range n).map fun x => (a * ((x : Nat) : Int) + b) / m) = (List.range n).map g ↔ ∀ x : Nat, x < n → (a * (x : Int) + b) / m = g x := by
            rw [List.map_inj_left]
            exact ⟨fun z x hx => z x (List.mem_range.mpr hx), fun z x hx => z x (List.mem_range.mp hx)⟩
          by_cases el : ((List.range n).map fun x => (a * ((x : Nat) : Int) + b) / m) = (List.range n).map g
          · rw [decide_eq_true el]
            refine iteF ?_
            have line := rows.mp el
            have hta6 := Same.tup (s5.trans s6) hta4
            have htb6 := Same.tup (s5.trans s6) htb4
            refine ⟨_, rfl, _, _, rfl, ⟨by decide, by decide, by omega, by omega⟩, fun D3 nD3 => lc_range (lo := 1) (n := (m - 1).toNat) (fun c H' => Same H6 H' ∧ H' D3 = some (.lst (((List.range c).map fun x : Nat => decide (Btw L U (1 + (x : Int)))).map V.bl))) ⟨same_upd nD3, upd_same⟩ ?_ ?_⟩
            · rintro c H7 hc ⟨s7, hD3⟩
              refine ⟨rfl, tYes_in ?_⟩
              refine ⟨_, rfl, _, rfl, _, rfl, ta, tb, L, U, 1 + (c : Int), rfl, Same.tup s7 hta6, Same.tup s7 htb6, c1, c3, c4, ⟨by omega, by omega⟩, rfl, _, hD3, ?_, same_keep nD3 s7 (Keep.upd D3 _ _), ?_⟩
              · rw [List.length_map, List.length_map, List.length_range]
                have : 100000 < sizeLine := by decide
                omega
              · rw [upd_same, List.range_succ, List.map_append, List.map_append]
                show some (HO.lst (_ ++ [V.bl (!decide (btwV L U (1 + (c : Int)) = V.non))])) = some (HO.lst (_ ++ [V.bl (decide (Btw L U (1 + (c : Int))))]))
                unfold btwV
                by_cases e : Btw L U (1 + (c : Int))
                · rw [if_pos e, decide_eq_true e]
                  rfl
                · rw [if_neg e, decide_eq_false e]
                  rfl
            rintro H7 ⟨s7, hD3⟩
            refine ⟨D3, _, rfl, .inl (.inl hD3), _, rfl, ?_⟩
            have s07 := s06.trans s7
            cases ea : ((List.range (m - 1).toNat).map fun x : Nat => decide (Btw L U (1 + ((x : Nat) : Int)))).any id with
            | true =>
              refine iteT (Z false _ s07 ⟨(fun z => nomatch z), fun z => ?_⟩)
              obtain ⟨m', y1, y2, y3⟩ := any_some ea
              exact absurd y3 ((shown.mp z).2.1 m' y1 (by omega))
            | false =>
              refine iteF ?_
              have none : ∀ m', 1 ≤ m' → m' < m → ¬ Btw L U m' := fun m' y1 y2 => any_none ea m' y1 (by omega)
              refine ⟨_, rfl, _, rfl, _, rfl, ta, tb, L, U, m, rfl, Same.tup s7 hta6, Same.tup s7 htb6, c1, c3, c4, cm, _, rfl, ?_, _, rfl, ?_⟩
              · unfold btwV
                split <;> rfl
              by_cases e : Btw L U m ∧ L.1 * m / L.2 + 1 = a
              · have ev : btwV L U m = .int a := by
                  unfold btwV
                  rw [if_pos e.1, e.2]
                rw [ev, decide_eq_true rfl]
                refine iteT ?_
                refine ⟨_, rfl, r, _, rfl, .inl ((s5.trans (s6.trans s7)).seq hx4), fun J G g0 gk wk D4 nD4 => lc_it wk (fun c H' => Same H7 H' ∧ H' D4 = some (.lst (((List.range c).map fun x => m * g x - a * (x : Int)).map V.int))) ⟨same_upd nD4, upd_same⟩ (fun c H' _ z => gk H' (Same.seq z.1) (Same.tup z.1)) ?_ ?_⟩
                · rintro c x H8 H9 hc ⟨s8, h8⟩ ⟨T8, u, v, rfl, nT, rfl, e1, e2⟩
                  rw [rowL_len] at hc
                  have e2 : (rowL g n)[c]? = some v := e2
                  rw [rowL_at hc] at e2
                  cases e1
                  cases e2
                  refine ⟨T8, _, rfl, .inl (.inl upd_same), rfl, _, _, rfl, _, _, rfl, rfl, rfl, tYes_in ?_⟩
                  have mc : Med (c : Int) := ⟨by omega, by omega⟩
                  have s9 := same_upd (o := .tup [.int (c : Int), .int (g c)]) nT
                  refine ⟨_, rfl, _, rfl, _, _, rfl, rfl, cm.r, _, rfl, _, rfl, _, _, rfl, rfl, mc.r, _, _, rfl, rfl, _, s9 _ _ h8, ?_, ?_, ?_⟩
                  · rw [List.length_map, List.length_map, List.length_range]
                    exact small1000 (by omega)
                  · exact same_keep nD4 (s8.trans s9) (Keep.upd D4 _ _)
                  · rw [upd_same, List.range_succ, List.map_append, List.map_append, Int.mul_comm (g c) m]
                    rfl
                · rintro H8 ⟨s8, h8⟩
                  rw [rowL_len] at h8
                  refine ⟨D4, _, rfl, .inl (.inl h8), by rw [List.length_map, List.length_range]; exact n0, fun b' hb hm => ⟨rfl, ?_⟩⟩
                  have off : Off g n a m b' := by
                    refine ⟨fun x hx => hm _ (List.mem_map.mpr ⟨x, List.mem_range.mpr hx, rfl⟩), ?_⟩
                    obtain ⟨x, hx, e⟩ := List.mem_map.mp hb
                    exact ⟨x, List.mem_range.mp hx, e.symm⟩
                  refine Z _ _ (s07.trans s8) ?_
                  rw [decide_eq_true_iff, shown]
                  constructor
                  · intro z
                    rw [V.int.inj z]
                    refine ⟨?_, none, e.1, e.2, off⟩
                    rw [← V.int.inj z]
                    exact line
                  · rintro ⟨_, _, _, _, off'⟩
                    rw [off'.eq off]
              · have ev : ¬ btwV L U m = .int a := by
                  unfold btwV
                  by_cases e1 : Btw L U m
                  · rw [if_pos e1]
                    exact fun z => e ⟨e1, V.int.inj z⟩
                  · rw [if_neg e1]
                    exact fun z => nomatch z
                rw [decide_eq_false ev]
                refine iteF (Z false _ s07 ⟨(fun z => nomatch z), fun z => ?_⟩)
                have y := shown.mp z
                exact absurd ⟨y.2.2.1, y.2.2.2.1⟩ e
          · rw [decide_eq_false el]
            exact iteT (Z false _ s06 ⟨(fun z => nomatch z), fun z => absurd (rows.mpr z.1) el⟩)
        · rw [decide_eq_false p2]
          exact iteT (Z false _ s02 ⟨(fun z => nomatch z), fun z => absurd z.2.2.1 p2⟩)
      · rw [decide_eq_false p1]
        exact iteT (Z false _ s1 ⟨(fun z => nomatch z), fun z => absurd z.2.1 p1⟩)
    · refine ⟨_, rfl, p, CC, dx, _, _, rfl, hp, RC.cl, RC.no, rfl, _, rfl, r, _, rfl, hx, o, i, j, n, by rw [rowL_len]; rfl, ho, fun H1 s1 => ⟨_, rfl, ?_⟩⟩
      by_cases p1 : PairOk n i j
      · rw [decide_eq_true p1]
        refine iteF ?_
        have hp1 := s1 _ _ hp
        have hx1 := s1.seq hx
        refine ⟨_, rfl, p, CC, dx, _, _, rfl, hp1, RC.cl, RC.nh, rfl, _, rfl, r, _, rfl, hx1, h, k, q, n, by rw [rowL_len]; rfl, Same.tup s1 hh, fun H2 s2 => ⟨_, rfl, ?_⟩⟩
        have s02 := s1.trans s2
        by_cases p2 : PairOk n k q
        · rw [decide_eq_true p2]
          refine iteF ?_
          obtain ⟨i, rfl⟩ := Int.eq_ofNat_of_zero_le p1.1
          obtain ⟨j, rfl⟩ := Int.eq_ofNat_of_zero_le (show 0 ≤ j by have := p1.1; have := p1.2.1; omega)
          obtain ⟨k, rfl⟩ := Int.eq_ofNat_of_zero_le p2.1
          obtain ⟨q, rfl⟩ := Int.eq_ofNat_of_zero_le (show 0 ≤ q by have := p2.1; have := p2.2.1; omega)
          have b1 := p1.2
          have b2 := p2.2
          have hp2 := s02 _ _ hp
          refine ⟨_, rfl, _, rfl, p, CC, dx, _, _, rfl, hp2, RC.cl, RC.no, rfl, _, rfl, p, CC, dx, _, _, rfl, hp2, RC.cl, RC.nh, rfl, r, o, h, g, n, i, j, k, q, rfl, s02.seq hx, Same.tup s02 ho, Same.tup s02 hh, by omega, by omega, by omega, by omega, fun t ta tb H3 s3 ht hta htb => ?_⟩
          have s03 := s02.trans s3
          refine ⟨t, _, rfl, .inl (.inl ht), rfl, _, _, rfl, _, _, rfl, rfl, ?_⟩
          have hp3 := s03 _ _ hp
          have c3 : Med ((j : Int) - i) := ⟨by omega, by omega⟩
          have c4 : Med ((q : Int) - k) := ⟨by omega, by omega⟩
          refine ⟨_, rfl, _, _, _, _, _, rfl, .own CC, .base (.ins hp3 RC.cl IC.ha IO.hn IO.ht IC.hm), IC.own, true, rfl, iteT ?_⟩
          refine ⟨_, rfl, ta, _, 0, _, rfl, rfl, .inl (.inl hta), rfl, _, rfl, tb, _, 1, _, rfl, rfl, .inl (.inl htb), rfl, _, _, rfl, rfl, c4.r, ?_⟩
          refine ⟨_, rfl, tb, _, 0, _, rfl, rfl, .inl (.inl htb), rfl, _, rfl, ta, _, 1, _, rfl, rfl, .inl (.inl hta), rfl, _, _, rfl, rfl, c3.r, _, _, rfl, rfl, ?_⟩
          refine Z _ _ s03 ?_
          unfold IsBent
          rw [lowOf_nat, highOf_nat]
          rw [decide_eq_true_iff]
          exact ⟨fun z => ⟨p1, p2, Int.not_lt.mpr z⟩, fun z => Int.not_lt.mp z.2.2⟩
        · rw [decide_eq_false p2]
          exact iteT (Z false _ s02 ⟨(fun z => nomatch z), fun z => absurd z.2.1 p2⟩)
      · rw [decide_eq_false p1]
        exact iteT (Z false _ s1 ⟨(fun z => nomatch z), fun z => absurd z.1 p1⟩)
end
end K14

namespace K14
open PySem PySem.Spec PyProof.Rows L2 My M50
local macro_rules | `(tactic| walk_at "side") => `(tactic| (first
  | assumption
  | (refine OkMod.mk ?_; omega)
  | (refine mulOkL ?_ ?_ <;> omega)
  | (refine mulOkR ?_ ?_ <;> omega)
  | (refine divOk ?_ ?_ <;> omega)))
local macro_rules | `(tactic| walk_at "rd") => `(tactic| (first
  | with_reducible refine ⟨_, rfl, ?_⟩
  | refine ⟨_, rfl, ?_⟩
  | refine ⟨_, _, rfl, rfl, ?_⟩
  | refine And.intro (by walk_at "side") ?_
  | refine ⟨_, _, rfl, asm (by assumption), ?_⟩
  | refine ⟨_, _, rfl, asm ?_⟩))
section
variable {P : Program} {w : World} {K : PySem.W.Frag} {mg : Str → Option Value} {base : Heap}

/-! ### has a line of this m -/
def spHasLine (K : PySem.W.Frag) : Sp := fun vs H Q _ => ∃ (r : Addr) (m : Int) (g : Nat → Int) (n : Nat), vs = [.ref r, .int m] ∧ SqL K H r (rowL g n) ∧ 2 ≤ n ∧ n ≤ 1000 ∧ (∀ x : Nat, x < n → -1000000 ≤ g x ∧ g x ≤ 1000000) ∧ 1 ≤ m ∧ m ≤ 100 ∧
  ∀ (z : Bool) H', Same H H' → (z = true → ∃ a, Fit g n a m) → Q (.bl z) H'
theorem ok__law_has_line {f : Addr} {fd : FuncData} (T : Nm mg) (F : Fun K "_law_has_line" "_law_has_line" s__law_has_line f fd) : FnOk P w K mg base CX0 1 f fd ["row", "m"] (spHasLine K) := by
  refine F.ok sc__law_has_line (fun vs H Q E h => ?_) (fun cdv A outer s H vs Q E hr h => ?_)
  · obtain ⟨r, m, g, n, rfl, _⟩ := h
    rfl
  · obtain ⟨r, m, g, n, rfl, hx, n0, n1, gb, m1, m2, Z⟩ := h
    refine ⟨_, (pss_cons (ps_par (i := 2) (j := 3) (by rfl) sc__law_has_line.nd rfl rfl (by decide) rfl rfl (pa_cons (pe_op op_mulA (pe_op op_sub (pe_op op_sub (pe_ix ix_list (pv 0) pe_int (fun _ _ => rfl)) (pe_ix ix_list (pv 0) pe_int (fun _ _ => rfl))) pe_int) (pv 1)) (pa_cons (pe_op op_mulA (pe_op op_add (pe_op op_sub (pe_ix ix_list (pv 0) pe_int (fun _ _ => rfl)) (pe_ix ix_list (pv 0) pe_int (fun _ _ => rfl))) pe_int) (pv 1)) pa_nil)) (by rfl))
    (pss_cons (ps_for PassesOwn.never rfl (pi_range2 rfl T.range (pa_cons (pv 2) (pa_cons (pe_op op_add (pv 3) pe_int) pa_nil))) (pg_name (i := 4) sc__law_has_line.nd rfl (Or.inr rfl))
      (pss_cons (ps_set (i := 5) sc__law_has_line.nd rfl (Or.inr rfl) (pe_callB (cr_max rfl) (by rfl) T.max (by decide +kernel) (pa_cons (pe_lc (own := [("x", 6), ("number", 7)]) (g := gTup K 2 (gCons (gName 6) (gCons (gName 7) (gNil)))) (by rfl) sc__law_has_line.nd (pi_enumV (pv 0) (by rfl) T.enumerate) (by exact blkOk_by (N := ["row", "m", "low", "high", "a", "b", "x", "number"]) (sc := defScope s__law_has_line) (by decide +kernel)) (fun _ _ _ _ _ => by exact (pg_tup rfl (pgs_cons (pg_name (i := 6) sc__law_has_line.nd rfl (Or.inl rfl)) (pgs_cons (pg_name (i := 7) sc__law_has_line.nd rfl (Or.inl rfl)) pgs_nil)))) (fun _ _ _ _ _ => pts_nil) (fun _ _ _ _ _ => (pe_op op_sub (pe_op op_mulA (pv 7) (pv 1)) (pe_op op_mulA (pv 4) (pv 6))))) pa_nil)))
    (pss_one (ps_if (pt_val (pe_callB (cr_all rfl) (by rfl) T.all (by decide +kernel) (pa_cons (pe_lc (own := [("x", 6), ("number", 7)]) (g := gTup K 2 (gCons (gName 6) (gCons (gName 7) (gNil)))) (by rfl) sc__law_has_line.nd (pi_enumV (pv 0) (by rfl) T.enumerate) (by exact blkOk_by (N := ["row", "m", "low", "high", "a", "b", "x", "number"]) (sc := defScope s__law_has_line) (by decide +kernel)) (fun _ _ _ _ _ => by exact (pg_tup rfl (pgs_cons (pg_name (i := 6) sc__law_has_line.nd rfl (Or.inl rfl)) (pgs_cons (pg_name (i := 7) sc__law_has_line.nd rfl (Or.inl rfl)) pgs_nil)))) (fun _ _ _ _ _ => pts_nil) (fun _ _ _ _ _ => (pe_cmpR op_eq (pe_op op_fdivA (pe_op op_add (pe_op op_mulA (pv 4) (pv 6)) (pv 5)) (pv 1)) (pv 7) (nomark _)))) pa_nil)))
      (pss_one (ps_ret pe_bl))
      pss_nil))))
    (pss_one (ps_ret pe_bl)))), ?_⟩
    have g0 := gb 0 (by omega)
    have g1 := gb 1 (by omega)
    have mm : Med m := ⟨by omega, by omega⟩
    refine ⟨_, rfl, r, _, 1, _, rfl, rfl, hx, atI_nat (j := 1) (rowL_at (by omega)), _, rfl, r, _, 0, _, rfl, rfl, hx, atI_nat (j := 0) (rowL_at (by omega)), _, _, rfl, rfl, _, _, rfl, rfl, _, rfl, _, _, rfl, rfl, mm.r, ?_⟩
    refine ⟨_, rfl, r, _, 1, _, rfl, rfl, hx, atI_nat (j := 1) (rowL_at (by omega)), _, rfl, r, _, 0, _, rfl, rfl, hx, atI_nat (j := 0) (rowL_at (by omega)), _, _, rfl, rfl, _, _, rfl, rfl, _, rfl, _, _, rfl, rfl, mm.r, ?_⟩
    have lo1 : -1000000000 ≤ (g 1 - g 0 - 1) * m ∧ (g 1 - g 0 - 1) * m ≤ 1000000000 := by
      have a1 : (g 1 - g 0 - 1) * m ≤ 2000001 * m := Int.mul_le_mul_of_nonneg_right (by omega) (by omega)
      have a2 : -2000001 * m ≤ (g 1 - g 0 - 1) * m := Int.mul_le_mul_of_nonneg_right (by omega) (by omega)
      omega
    have hi1 : -1000000000 ≤ (g 1 - g 0 + 1) * m ∧ (g 1 - g 0 + 1) * m ≤ 1000000000 := by
      have a1 : (g 1 - g 0 + 1) * m ≤ 2000001 * m := Int.mul_le_mul_of_nonneg_right (by omega) (by omega)
      have a2 : -2000001 * m ≤ (g 1 - g 0 + 1) * m := Int.mul_le_mul_of_nonneg_right (by omega) (by omega)
      omega
    obtain ⟨lo, elo⟩ : ∃ z, z = (g 1 - g 0 - 1) * m := ⟨_, rfl⟩
    obtain ⟨hi, ehi⟩ : ∃ z, z = (g 1 - g 0 + 1) * m := ⟨_, rfl⟩
    rw [← elo] at lo1
    rw [← ehi] at hi1
    refine ⟨_, _, rfl, ?_⟩
    refine ⟨_, rfl, _, rfl, _, _, rfl, rfl, lo, hi + 1, (by rw [elo, ehi]), ⟨by omega, by omega, by omega, by omega⟩, for_range (lo := lo) (n := (hi + 1 - lo).toNat) (fun i σ H' => Same H H' ∧ ∃ y4 y5, σ = [some (.ref r), some (.int m), some (.int lo), some (.int hi), y4, y5, none, none]) ⟨fun _ _ z => z, none, none, by rw [elo, ehi]; rfl⟩ ?_ ?_⟩
    · rintro i σ H1 hi' ⟨s1, y4, y5, rfl⟩
      have ma : Med (lo + (i : Int)) := ⟨by omega, by omega⟩
      generalize lo + (i : Int) = a at *
      have hx1 := s1.seq hx
      refine ⟨r, _, rfl, .inl hx1, fun J G g0' gk wk D nD => lc_it wk (fun c H' => Same H1 H' ∧ H' D = some (.lst (((List.range c).map fun x => m * g x - a * (x : Int)).map V.int))) ⟨same_upd nD, upd_same⟩ (fun c H' _ z => gk H' (Same.seq z.1) (Same.tup z.1)) ?_ ?_⟩
      · rintro c x H8 H9 hc ⟨s8, h8⟩ ⟨T8, u, v, rfl, nT, rfl, e1, e2⟩
        rw [rowL_len] at hc
        have e2 : (rowL g n)[c]? = some v := e2
        rw [rowL_at hc] at e2
        cases e1
        cases e2
        refine ⟨T8, _, rfl, .inl (.inl upd_same), rfl, _, _, rfl, _, _, rfl, rfl, rfl, tYes_in ?_⟩
        have mc : Med (c : Int) := ⟨by omega, by omega⟩
        have s9 := same_upd (o := .tup [.int (c : Int), .int (g c)]) nT
        refine ⟨_, rfl, _, rfl, _, _, rfl, rfl, mm.r, _, rfl, _, rfl, _, _, rfl, rfl, mc.r, _, _, rfl, rfl, _, s9 _ _ h8, ?_, ?_, ?_⟩
        · rw [List.length_map, List.length_map, List.length_range]
          exact small1000 (by omega)
        · exact same_keep nD (s8.trans s9) (Keep.upd D _ _)
        · rw [upd_same, List.range_succ, List.map_append, List.map_append, Int.mul_comm (g c) m]
          rfl
      rintro H8 ⟨s8, h8⟩
      rw [rowL_len] at h8
      refine ⟨D, _, rfl, .inl (.inl h8), by rw [List.length_map, List.length_range]; omega, fun b _ _ => ?_⟩
      have hx8 := s8.seq hx1
      refine ⟨r, _, rfl, .inl hx8, fun J G g0' gk wk D nD => lc_it wk (fun c H' => Same H8 H' ∧ H' D = some (.lst (((List.range c).map fun x : Nat => decide ((a * (x : Int) + b) / m = g x)).map V.bl))) ⟨same_upd nD, upd_same⟩ (fun c H' _ z => gk H' (Same.seq z.1) (Same.tup z.1)) ?_ ?_⟩
      · rintro c x H3 H4 hc ⟨s3, h3⟩ ⟨T8, u, v, rfl, nT, rfl, e1, e2⟩
        rw [rowL_len] at hc
        have e2 : (rowL g n)[c]? = some v := e2
        rw [rowL_at hc] at e2
        cases e1
        cases e2
        refine ⟨T8, _, rfl, .inl (.inl upd_same), rfl, _, _, rfl, _, _, rfl, rfl, rfl, tYes_in ?_⟩
        have mc : Med (c : Int) := ⟨by omega, by omega⟩
        have s4 := same_upd (o := .tup [.int (c : Int), .int (g c)]) nT
        refine ⟨_, rfl, _, rfl, _, _, rfl, rfl, mc.r, _, rfl, _, _, rfl, rfl, _, rfl, _, _, rfl, rfl, divOk (by omega) (by omega), _, rfl, rfl, _, s4 _ _ h3, ?_, ?_, ?_⟩
        · rw [List.length_map, List.length_map, List.length_range]
          exact small1000 (by omega)
        · exact same_keep nD (s3.trans s4) (Keep.upd D _ _)
        · rw [upd_same, List.range_succ, List.map_append, List.map_append, dec_int]
          show _ = some (HO.lst (_ ++ [V.bl (decide _)]))
          congr 5
      rintro H3 ⟨s3, h3⟩
      rw [rowL_len] at h3
      have s03 := s1.trans (s8.trans s3)
      refine ⟨D, _, rfl, .inl (.inl h3), _, rfl, ?_⟩
      cases ea : ((List.range n).map fun x : Nat => decide ((a * (x : Int) + b) / m = g x)).all id with
      | true =>
        refine iteT (Z true _ s03 fun _ => ⟨a, fit_of_line (b := b) m1 fun x hx => ?_⟩)
        rw [List.all_eq_true] at ea
        exact of_decide_eq_true (ea _ (List.mem_map.mpr ⟨x, List.mem_range.mpr hx, rfl⟩))
      | false => exact iteF ⟨s03, _, _, rfl⟩
    · rintro σ H1 ⟨s1, _⟩
      exact Z false _ s1 fun z => nomatch z
/-! ### a deed's fault -/
open LamX
/-- what it asks of the deed: it ends, or raises one of both -/
def TFault (CB CT : Addr) : (XK → Hp → VK → Prop) → Hp → VK → Prop := fun tl H Q =>
  tl (fun cls d H' => (cls = .ref CB ∧ ∃ dd v, d = some dd ∧ H' dd = some (.xd [(("value" : Str), v)]) ∧ ∀ t, H' t = none → Q (.ref t) (upd H' t (.tup [.str "number", v]))) ∨
    (cls = .ref CT ∧ ∃ dd v, d = some dd ∧ H' dd = some (.xd [(("number" : Str), v)]) ∧ ∀ t, H' t = none → Q (.ref t) (upd H' t (.tup [.str "large", v])))) H (fun _ H' => Q (.str "none") H')
theorem takes_len {X : Cx} {W : WX} (t : Takes X W) : Takes X (fun c d σ H => σ.length = X.N.length → W c d σ H) := fun u s' ⟨a, B, sI, pins, σ, H, cls, d, e, I, nb, up, sky, na, os, ag, w⟩ =>
  t u s' ⟨a, B, sI, pins, σ, H, cls, d, e, I, nb, up, sky, na, os, ag, w I.len⟩
theorem sc_fault0 : ∀ f : Addr, (L2.start ["deed", "fault"] [V.ref f])[0]? = some (some (V.ref f)) := fun _ => rfl
theorem fault_gives {X : Cx} {q : Str} {g CB CT fB fT cdB cdT ccB ccT : Addr} {cdg : Value} (B : Xc.Own X.prog X.K X.mg "BadNumber" "value" CB fB cdB ccB) (BT : Xc.Own X.prog X.K X.mg "TooLarge" "number" CT fT cdT ccT) (no : PySem.W.exmOne X.K (.ref CT) (.ref CB) = some false) :
    GivesTo X ["deed", "fault"] "_law_fault" (defScope s__law_fault) g cdg (defBody s__law_fault) "deed" q (TFault CB CT) := by
  intro f c' s H Q tl act hc h
  refine ⟨_, pss_cons (ps_try_named (i := 1) (n := "fault") (Wz := fun _ _ _ _ => False)
      (tb := fun W D σ H => ∃ Ech : XK, (∀ cls d (σ' : L2.St) H', Ech cls d H' → σ'.length = 2 → W cls d σ' H') ∧ σ[0]? = some (some (.ref f)) ∧ H c' = some (CodeO c' q) ∧ tl Ech H fun _ H' => D.nx σ H')
      rfl rfl sc__law_fault.nd rfl rfl L2.takes0 (fun W pn xe tk _ => ?_)
      (.cons (c := .ref CB) ⟨rfl, by decide, .inl B.gC⟩ (fun a oe cls d pins hz hf => pss_one (ps_ret (pe_tup (pa_cons pe_str (pa_cons (by exact (pe_xf ⟨B.ga, B.gg, B.exC, B.hdC⟩ B.noN hz hf (pv 1))) pa_nil)))))
        (.cons (c := .ref CT) ⟨rfl, by decide, .inl BT.gC⟩ (fun a oe cls d pins hz hf => pss_one (ps_ret (pe_tup (pa_cons pe_str (pa_cons (by exact (pe_xf ⟨BT.ga, BT.gg, BT.exC, BT.hdC⟩ BT.noN hz hf (pv 1))) pa_nil))))) .nil)))
    (pss_one (ps_ret pe_str)), ?_⟩
  · refine ⟨fun pins s' σ H' D I h' => ?_⟩
    obtain ⟨Ech, hW, h1, h2, h3⟩ := h'
    exact (pss_one (ps_expr (act (fun c d σ H => σ.length = 2 → W c d σ H) pn xe Ech _ _ (takes_len tk) hW))).run pins s' σ H' D I ⟨h1, h2, h3⟩
  · refine ⟨_, ?_, rfl, hc, h⟩
    rintro cls d σ' H' (⟨rfl, dd, v, rfl, hd, z⟩ | ⟨rfl, dd, v, rfl, hd, z⟩) l2
    · refine ⟨true, B.te, fun _ a na => ?_, (fun e => nomatch e)⟩
      exact ⟨_, List.getElem?_set_self (by rw [l2]; decide), rfl, rfl, dd, _, v, rfl, hd, rfl, by show 2 ≤ sizeLine; decide, z⟩
    · refine ⟨false, no, (fun e => nomatch e), fun _ => ⟨true, BT.te, fun _ a na => ?_, (fun e => nomatch e)⟩⟩
      exact ⟨_, List.getElem?_set_self (by rw [l2]; decide), rfl, rfl, dd, _, v, rfl, hd, rfl, by show 2 ≤ sizeLine; decide, z⟩
end
end K14

namespace K14
open PySem PySem.Spec PyProof.Rows L2 My M50
local macro_rules | `(tactic| walk_at "side") => `(tactic| (first
  | assumption
  | (refine OkMod.mk ?_; omega)
  | (refine mulOkL ?_ ?_ <;> omega)
  | (refine mulOkR ?_ ?_ <;> omega)
  | (refine divOk ?_ ?_ <;> omega)))
local macro_rules | `(tactic| walk_at "rd") => `(tactic| (first
  | with_reducible refine ⟨_, rfl, ?_⟩
  | refine ⟨_, rfl, ?_⟩
  | refine ⟨_, _, rfl, rfl, ?_⟩
  | refine And.intro (by walk_at "side") ?_
  | refine ⟨_, _, rfl, asm (by assumption), ?_⟩
  | refine ⟨_, _, rfl, asm ?_⟩))
section
variable {P : Program} {w : World} {K : PySem.W.Frag} {mg : Str → Option Value} {base : Heap}

open LamX
theorem pe_either {X : Cx} {e : Expr} {t1 t2 : TE} (h1 : PE X e t1) (h2 : PE X e t2) : PE X e (fun σ H Q => t1 σ H Q ∨ t2 σ H Q) := ⟨fun pins s σ H Q I h => h.elim (h1.run pins s σ H Q I) (h2.run pins s σ H Q I)⟩
theorem sl_listK {X : Cx} {K : PySem.W.Frag} (h : X.K = K) : SlR X (rSlL K) := by
  rw [← h]
  exact sl_list
abbrev qLam : Str := (envOfC "law" (defScope s_law) 0 0 Value.none).qual ++ "<lambda>"
theorem tab_keep {d P : Addr} {q : Str} {H H' : Hp} {zs : List V} (k : Keep d H H') (hd : H d = some (.lst zs)) (t : TabS H P q) : TabS H' P q := by
  obtain ⟨ps, h1, h2, h3⟩ := t
  refine ⟨ps, k _ _ (fun e => ?_) h1, h2, fun pos cv hc => ?_⟩
  · rw [e, hd] at h1
    cases h1
  · obtain ⟨c, e1, e2⟩ := h3 pos cv hc
    refine ⟨c, e1, k _ _ (fun e => ?_) e2⟩
    rw [e, hd] at e2
    unfold CodeO at e2
    cases e2
theorem draw_other {d s lg : Addr} {ns : List Int} {H2 H7 H' : Hp} (D2 : DrawAt K H2 d s ns) (D7 : DrawAt K H7 d s ns) (ng : H2 lg = none) (e : Keep lg H7 H') : DrawAt K H' d s ns := by
  obtain ⟨k2, h2, q2, l2⟩ := D2
  obtain ⟨k7, h7, q7, _⟩ := D7
  have nd : d ≠ lg := fun z => by
    rw [z, ng] at h2
    cases h2
  refine ⟨k7, e _ _ nd h7, ?_, l2⟩
  rcases q2 with q | q
  · have na : s ≠ lg := fun z => by
      rw [z] at q
      rcases q with q | ⟨o, q⟩ <;> rw [ng] at q <;> cases q
    exact e.seq na q7
  · exact .inr q
theorem draw_lst {d s : Addr} {ns : List Int} {H : Hp} (D : DrawAt K H d s ns) : ∃ zs, H d = some (.lst zs) := ⟨_, D.choose_spec.1⟩
theorem keep_new {d : Addr} {H H' : Hp} {a : Addr} {o : HO} (k : Keep d H H') (h : H a = some o) (n : a ≠ d) : H' a = some o := k _ _ n h
/-- what stands while the law goes on: the draws, the lambdas' table -/
structure Go (K : PySem.W.Frag) (H : Hp) (d s P : Addr) (ns : List Int) : Prop where
  D : DrawAt K H d s ns
  T : TabS H P qLam
theorem Go.same {H H' : Hp} {d s P : Addr} {ns : List Int} (g : Go K H d s P ns) (e : Same H H') : Go K H' d s P ns := ⟨g.D.same e, g.T.ext e⟩
theorem Go.keep {H H' : Hp} {d s P : Addr} {ns : List Int} (g : Go K H d s P ns) (k : Keep d H H') (D : DrawAt K H' d s ns) : Go K H' d s P ns := by
  obtain ⟨zs, h⟩ := draw_lst g.D
  exact ⟨D, tab_keep k h g.T⟩
def spLaw (K : PySem.W.Frag) (P : Addr) : Sp := fun vs H Q _ => ∃ (a : Addr) (ns : List Int), vs = [.ref a] ∧ SqL K H a (ns.map V.int) ∧ ns.length ≤ 63 ∧ H P = some (.tbl #[]) ∧ ∀ H', Q (.bl true) H'
theorem rowL_set {g : Nat → Int} {n i : Nat} {x : Int} (hi : i < n) : (rowL g n).set i (.int x) = rowL (fun k => if k = i then x else g k) n := by
  apply List.ext_getElem?
  intro k
  rw [List.getElem?_set]
  by_cases h : i = k
  · subst h
    rw [if_pos rfl, rowL_len, if_pos hi, rowL_at hi, if_pos rfl]
  · rw [if_neg h]
    by_cases hk : k < n
    · rw [rowL_at hk, rowL_at hk, if_neg (Ne.symm h)]
    · rw [List.getElem?_eq_none (by rw [rowL_len]; omega), List.getElem?_eq_none (by rw [rowL_len]; omega)]
theorem cut_take {xs : List V} {i : Nat} (h : i ≤ xs.length) : cutV xs none (some (i : Int)) = xs.take i := by
  unfold cutV
  rw [HT.sIx_none, HT.sIx_nat, List.drop_zero, Nat.sub_zero, Nat.min_eq_left h]
/-- kept but for the tables -/
theorem ext_draw {d s : Addr} {ns : List Int} {H H' : Hp} (e : ExtN H H') (D : DrawAt K H d s ns) : DrawAt K H' d s ns := by
  obtain ⟨k, h, q, l⟩ := D
  refine ⟨k, e _ _ h (fun _ z => nomatch z), ?_, l⟩
  rcases q with (q | ⟨o, q⟩) | q
  · exact .inl (.inl (e _ _ q fun _ z => nomatch z))
  · exact .inl (.inr ⟨o, e _ _ q fun _ z => nomatch z⟩)
  · exact .inr q
/-- what no number is, and what it is as data -/
def BadV (K : PySem.W.Frag) (H : Hp) (v : V) (d : PyData) : Prop := NumB K H v false ∧ Dp K H v d ∧ PyData.eqv (.tuple [.str "number", d]) (.tuple [.str "number", d]) = true ∧ SeqAt.shaped (.tuple [.str "number", d]) = true
theorem sqT_ext {H H' : Hp} {a : Addr} {xs : List V} (e : ExtN H H') (h : SqT K H a xs) : SqT K H' a xs := by
  rcases h with (h | ⟨o, h⟩) | h
  · exact .inl (.inl (e _ _ h fun _ z => nomatch z))
  · exact .inl (.inr ⟨o, e _ _ h fun _ z => nomatch z⟩)
  · exact .inr h
/-- the four bad values -/
def OneBad (H : Hp) (tb : Addr) (v : V) : Prop := H tb = some (.tup [.int 1]) ∧ v ∈ [V.non, V.str "1", V.bl true, V.ref tb]
theorem one_bad {H : Hp} {tb : Addr} {v : V} (h : OneBad H tb v) : ∃ d, BadV K H v d := by
  obtain ⟨ht, hv⟩ := h
  simp only [List.mem_cons, List.not_mem_nil, or_false] at hv
  rcases hv with rfl | rfl | rfl | rfl
  · exact ⟨_, .inl rfl, .non, by decide +kernel, by decide +kernel⟩
  · exact ⟨_, .inl rfl, .str _, by decide +kernel, by decide +kernel⟩
  · exact ⟨_, .inl rfl, .bl _, by decide +kernel, by decide +kernel⟩
  · exact ⟨_, .inr ⟨rfl, tb, _, rfl, .inl (.inl ht)⟩, .tup (.inl (.inl ht)) (.cons (.int _) .nil), by decide +kernel, by decide +kernel⟩
theorem large_shaped (i : Int) : SeqAt.shaped (.tuple [.str "large", .int i]) = true := by
  have h : SeqAt.shaped (.tuple [.str "large", .int 0]) = true := by decide +kernel
  exact h
theorem large_eqv (i : Int) : PyData.eqv (.tuple [.str "large", .int i]) (.tuple [.str "large", .int i]) = true := by
  have h : PyData.eqv (.tuple [.str "large"]) (.tuple [.str "large"]) = true := by decide +kernel
  simp [PyData.eqv, PyData.eqvAll] at h ⊢
theorem any_false (n : Nat) : (List.replicate n false).any id = false := by
  induction n with
  | zero => rfl
  | succ n ih =>
    rw [List.replicate_succ, List.any_cons, ih]
    rfl
/-- what is known once a Stairs is told -/
structure SS (K : PySem.W.Frag) (H : Hp) (d s P : Addr) (ns : List Int) (CS CL L : Addr) (g : Nat → Int) (n : Nat) (p dx l o h : Addr) (a b m i j k q : Int) : Prop where
  G : Go K H d s P ns
  r : H L = some (.lst (rowL g n))
  p : H p = some (.ins CS dx [("line", .ref l), ("low", .ref o), ("high", .ref h)])
  l : LineAt H CL l a b m
  o : SqT K H o [.int i, .int j]
  h : SqT K H h [.int k, .int q]
structure SC (K : PySem.W.Frag) (H : Hp) (d s P : Addr) (ns : List Int) (CC L : Addr) (g : Nat → Int) (n : Nat) (p dx o h : Addr) (i j k q : Int) : Prop where
  G : Go K H d s P ns
  r : H L = some (.lst (rowL g n))
  p : H p = some (.ins CC dx [("low", .ref o), ("high", .ref h)])
  o : SqT K H o [.int i, .int j]
  h : SqT K H h [.int k, .int q]
section
variable {H H' : Hp} {d s P' : Addr} {ns : List Int} {CS CL CC L p dx l o h : Addr} {g : Nat → Int} {n : Nat} {a b m i j k q : Int}
theorem SS.same (z : SS K H d s P' ns CS CL L g n p dx l o h a b m i j k q) (e : Same H H') : SS K H' d s P' ns CS CL L g n p dx l o h a b m i j k q := ⟨z.G.same e, e _ _ z.r, e _ _ z.p, z.l.same e, Same.tup e z.o, Same.tup e z.h⟩
theorem SS.keep (z : SS K H d s P' ns CS CL L g n p dx l o h a b m i j k q) (e : Keep d H H') (D : DrawAt K H' d s ns) (nL : L ≠ d) : SS K H' d s P' ns CS CL L g n p dx l o h a b m i j k q := by
  obtain ⟨zs, hd⟩ := draw_lst z.G.D
  obtain ⟨dl, hl⟩ := z.l
  refine ⟨z.G.keep e D, e _ _ nL z.r, e _ _ (fun y => ?_) z.p, ⟨dl, e _ _ (fun y => ?_) hl⟩, keep_tupD e hd z.o, keep_tupD e hd z.h⟩
  · have := z.p
    rw [y, hd] at this
    cases this
  · rw [y, hd] at hl
    cases hl
theorem SC.same (z : SC K H d s P' ns CC L g n p dx o h i j k q) (e : Same H H') : SC K H' d s P' ns CC L g n p dx o h i j k q := ⟨z.G.same e, e _ _ z.r, e _ _ z.p, Same.tup e z.o, Same.tup e z.h⟩
theorem SC.keep (z : SC K H d s P' ns CC L g n p dx o h i j k q) (e : Keep d H H') (D : DrawAt K H' d s ns) (nL : L ≠ d) : SC K H' d s P' ns CC L g n p dx o h i j k q := by
  obtain ⟨zs, hd⟩ := draw_lst z.G.D
  refine ⟨z.G.keep e D, e _ _ nL z.r, e _ _ (fun y => ?_) z.p, keep_tupD e hd z.o, keep_tupD e hd z.h⟩
  have := z.p
  rw [y, hd] at this
  cases this
end
/-- the numbers are small -/
def Sm (g : Nat → Int) (n : Nat) (c : Int) : Prop := ∀ x : Nat, x < n → -c ≤ g x ∧ g x ≤ c
theorem ok_law {f f1 f2 f3 f4 f5 f6 f7 fF fSS fCS fSI fCI fLI fSB fCB fSE fCE CS CC CL CB CT fB fT cdB cdT ccB ccT cd Pt : Addr} {fd fd1 fd2 fd3 fd4 fd5 fd6 fd7 fdF fdSS fdCS fdSI fdCI fdLI fdSB fdCB fdSE fdCE : FuncData} (T : Nm mg)
    (gS : mg "Stairs" = some (.ref CS)) (gC : mg "Crooked" = some (.ref CC)) (gL : mg "Line" = some (.ref CL)) (RS : StairsC K CS) (RC : CrookC K CC) (RL : LineC K CL) (IS : ClsI K CS) (IC : ClsI K CC) (IO : ObjI K) (kSC : PySem.W.kitOne K (.ref CS) (.ref CC) = some false) (kCS : PySem.W.kitOne K (.ref CC) (.ref CS) = some false)
    (nfC : PySem.W.notFirst K CC (.ref CS) = true)
    (B : Xc.Own P K mg "BadNumber" "value" CB fB cdB ccB) (BT : Xc.Own P K mg "TooLarge" "number" CT fT cdT ccT) (noTB : PySem.W.exmOne K (.ref CT) (.ref CB) = some false) (TB : TabB base mg cd Pt)
    (C__law_take : Has P w K mg base "_law_take" 2 ["draw", "many"] (spTake K) f1 fd1) (C__law_pick : Has P w K mg base "_law_pick" 3 ["draw", "items"] (spPick K) f2 fd2) (C__law_long : Has P w K mg base "_law_long" 3 ["draw", "figures"] (spLong K) f3 fd3) (C__law_at : Has P w K mg base "_law_at" 1 ["line", "x"] (spAt K) f4 fd4)
    (C__law_is_right : Has P w K mg base "_law_is_right" 3 ["row", "told"] (spRight K CS CC CL) f5 fd5) (C__law_has_line : Has P w K mg base "_law_has_line" 1 ["row", "m"] (spHasLine K) f6 fd6) (C_stairs : HasX P w K mg base "stairs" 6 ["row"] (spStairs K CS CC CL CB CT) f7 fd7)
    (C__law_fault : Def K mg "_law_fault" s__law_fault ["deed"] fF fdF)
    (C_Stairs_shows : Mth P w K mg base CS "shows" 4 ["self", "row"] (spShowS K CS CL) fSS fdSS) (C_Crooked_shows : Mth P w K mg base CC "shows" 4 ["self", "row"] (spShowC K CC) fCS fdCS)
    (C_Stairs : Made P w K mg base "Stairs" 1 ["self", "line", "low", "high"] (spStairsI CS) CS fSI fdSI) (C_Crooked : Made P w K mg base "Crooked" 1 ["self", "low", "high"] (spCrookI CC) CC fCI fdCI) (C_Line : Made P w K mg base "Line" 3 ["self", "a", "b", "m"] (spLineI CL) CL fLI fdLI)
    (B_Stairs : Bol P w K mg base CS 1 (spBool true) fSB fdSB) (B_Crooked : Bol P w K mg base CC 1 (spBool false) fCB fdCB) (Q_Stairs : EqX P w K mg base CS 2 (spEqS K CS CL) fSE fdSE) (Q_Crooked : EqX P w K mg base CC 1 (spEqC K CC CS) fCE fdCE)
    (F : FunC K "law" "law" s_law cd f fd) : FnOk P w K mg base CX0 12 f fd ["script"] (spLaw K Pt) := by
  obtain ⟨ocF, odF, kVF, docF, pmF, anF, cdvF, ctF, oslF, rfl, lkF, hcF⟩ := C__law_fault.F.ex
  have hmT : (Pt, qLam) ∈ [(Pt, qLam)] := List.mem_singleton.mpr rfl
  have huT : ∀ p ∈ [(Pt, qLam)], p.1 = Pt → p.2 = qLam := fun p hp _ => by rw [List.mem_singleton.mp hp]
  refine F.ok sc_law (fun vs H Q E h => ?_) (fun A outer s H vs Q E hr h => ?_)
  · obtain ⟨a, ns, rfl, _⟩ := h
    rfl
  · obtain ⟨sc, ns, rfl, hS, hl, hP, qq⟩ := h
    refine ⟨_, (pss_cons (ps_set (i := 1) sc_law.nd rfl (Or.inl rfl) (pe_lst (pa_cons (pv 0) (pa_cons pe_int pa_nil))))
    (pss_cons (ps_for PassesOwn.never rfl (pi_range1 rfl T.range (pa_cons pe_int pa_nil)) (pg_name (i := 2) sc_law.nd rfl (Or.inl rfl))
      (pss_cons (ps_asg (pe_tup (pa_cons (pe_tup (pa_cons (pe_call C__law_long.G (hr.mono (by decide)) (by rfl) C__law_long.g C__law_long.k C__law_long.b .nil pass0 (pa_cons (pv 1) (pa_cons pe_int pa_nil))) (pa_cons (pe_call C__law_long.G (hr.mono (by decide)) (by rfl) C__law_long.g C__law_long.k C__law_long.b .nil pass0 (pa_cons (pv 1) (pa_cons pe_int pa_nil))) (pa_cons (pe_op op_add pe_int (pe_call C__law_take.G (hr.mono (by decide)) (by rfl) C__law_take.g C__law_take.k C__law_take.b .nil pass0 (pa_cons (pv 1) (pa_cons pe_int pa_nil)))) pa_nil)))) (pa_cons (pe_op op_add pe_int (pe_call C__law_take.G (hr.mono (by decide)) (by rfl) C__law_take.g C__law_take.k C__law_take.b .nil pass0 (pa_cons (pv 1) (pa_cons (pe_call C__law_pick.G (hr.mono (by decide)) (by rfl) C__law_pick.g C__law_pick.k C__law_pick.b .nil pass0 (pa_cons (pv 1) (pa_cons (pe_lst (pa_cons pe_int (pa_cons pe_int (pa_cons pe_int pa_nil)))) pa_nil))) pa_nil)))) pa_nil))) (pg_tup rfl (pgs_cons (pg_name (i := 3) sc_law.nd rfl (Or.inr rfl)) (pgs_cons (pg_name (i := 4) sc_law.nd rfl (Or.inl rfl)) pgs_nil))))
    (pss_cons (ps_set (i := 5) sc_law.nd rfl (Or.inr rfl) (pe_lc (own := [("x", 14)]) (g := gName 14) (by rfl) sc_law.nd (pi_range1 rfl T.range (pa_cons (pv 4) pa_nil)) (by exact blkOk_by (N := ["script", "draw", "again", "line", "many", "row", "told", "low", "high", "late", "more", "at", "bad", "long", "x", "m"]) (sc := defScope s_law) (by decide +kernel)) (fun _ _ _ _ _ => by exact (pg_name (i := 14) sc_law.nd rfl (Or.inl rfl))) (fun _ _ _ _ _ => pts_nil) (fun _ _ _ _ _ => (pe_call C__law_at.G (hr.mono (by decide)) (by rfl) C__law_at.g C__law_at.k C__law_at.b .nil pass0 (pa_cons (pv 3) (pa_cons (pv 14) pa_nil))))))
    (pss_cons (ps_if (pt_cmpR op_eq (pe_call C__law_take.G (hr.mono (by decide)) (by rfl) C__law_take.g C__law_take.k C__law_take.b .nil pass0 (pa_cons (pv 1) (pa_cons pe_int pa_nil))) pe_int (nomark _))
      (pss_one (ps_augS (pv 5) (pe_call C__law_take.G (hr.mono (by decide)) (by rfl) C__law_take.g C__law_take.k C__law_take.b .nil pass0 (pa_cons (pv 1) (pa_cons (pv 4) pa_nil))) pget_list (pe_call C__law_pick.G (hr.mono (by decide)) (by rfl) C__law_pick.g C__law_pick.k C__law_pick.b .nil pass0 (pa_cons (pv 1) (pa_cons (pe_lst (pa_cons pe_int (pa_cons (pe_un un_neg pe_int) (pa_cons pe_int (pa_cons pe_int pa_nil))))) pa_nil))) ip_add set_list))
      pss_nil)
    (pss_cons (ps_set (i := 6) sc_law.nd rfl (Or.inl rfl) (pe_call C_stairs.G (hr.mono (by decide)) (by rfl) C_stairs.g C_stairs.k C_stairs.b .nil passL (pa_cons (pe_ifExp (pt_cmpR op_eq (pe_call C__law_take.G (hr.mono (by decide)) (by rfl) C__law_take.g C__law_take.k C__law_take.b .nil pass0 (pa_cons (pv 1) (pa_cons pe_int pa_nil))) pe_int (nomark _)) (pe_callTy call_tuple_of (by rfl) T.tuple (by decide +kernel) (pa_cons (pv 5) pa_nil)) (pv 5)) pa_nil)))
    (pss_cons (ps_if (PW.pt (pw_or (pt_cmpR op_ne (pe_callTy (call_either (call_boolI B_Stairs.M B_Stairs.G B_Stairs.b pass0 (hr.mono (by decide))) (call_boolI B_Crooked.M B_Crooked.G B_Crooked.b pass0 (hr.mono (by decide)))) (by rfl) T.bool (by decide +kernel) (pa_cons (pv 6) pa_nil)) (pe_callB call_isi (by rfl) T.isinstance (by decide +kernel) (pa_cons (pv 6) (pa_cons (pe_glob (v := .ref CS) rfl gS rfl) pa_nil))) (nomark _)) (pw_or (pt_not (pt_val (pe_call C__law_is_right.G (hr.mono (by decide)) (by rfl) C__law_is_right.g C__law_is_right.k C__law_is_right.b .nil pass0 (pa_cons (pv 5) (pa_cons (pv 6) pa_nil))))) (pw_or1 (pt_not (pt_val (pe_either (pe_meth (pv 6) C_Stairs_shows.c C_Stairs_shows.m C_Stairs_shows.G (hr.mono (by decide)) C_Stairs_shows.b .nil pass0 (pa_cons (pv 5) pa_nil)) (pe_meth (pv 6) C_Crooked_shows.c C_Crooked_shows.m C_Crooked_shows.G (hr.mono (by decide)) C_Crooked_shows.b .nil pass0 (pa_cons (pv 5) pa_nil)))))))))
      (pss_one (ps_ret pe_bl))
      pss_nil)
    (pss_cons (ps_if (PW.pt (pw_and (pt_val (pe_callB call_isi (by rfl) T.isinstance (by decide +kernel) (pa_cons (pv 6) (pa_cons (pe_glob (v := .ref CS) rfl gS rfl) pa_nil)))) (pw_and (pt_cmpR op_lt (pv 4) pe_int (nomark _)) (pw_and1 (pt_val (pe_callB (cr_any rfl) (by rfl) T.any (by decide +kernel) (pa_cons (pe_lc (own := [("m", 15)]) (g := gName 15) (by rfl) sc_law.nd (pi_range2 rfl T.range (pa_cons pe_int (pa_cons (pe_callB (call_minN rfl) (by rfl) T.min (by decide +kernel) (pa_cons pe_int (pa_cons (pe_fld (pe_fld (pv 6) rfl) rfl) pa_nil))) pa_nil))) (by exact blkOk_by (N := ["script", "draw", "again", "line", "many", "row", "told", "low", "high", "late", "more", "at", "bad", "long", "x", "m"]) (sc := defScope s_law) (by decide +kernel)) (fun _ _ _ _ _ => by exact (pg_name (i := 15) sc_law.nd rfl (Or.inl rfl))) (fun _ _ _ _ _ => pts_nil) (fun _ _ _ _ _ => (pe_call C__law_has_line.G (hr.mono (by decide)) (by rfl) C__law_has_line.g C__law_has_line.k C__law_has_line.b .nil pass0 (pa_cons (pv 5) (pa_cons (pv 15) pa_nil))))) pa_nil)))))))
      (pss_one (ps_ret pe_bl))
      pss_nil)
    (pss_cons (ps_if (PW.pt (pw_and (pt_val (pe_callB call_isi (by rfl) T.isinstance (by decide +kernel) (pa_cons (pv 6) (pa_cons (pe_glob (v := .ref CC) rfl gC rfl) pa_nil)))) (pw_and (pt_cmpR op_lt (pv 4) pe_int (nomark _)) (pw_and1 (pt_val (pe_callB (cr_any rfl) (by rfl) T.any (by decide +kernel) (pa_cons (pe_lc (own := [("m", 15)]) (g := gName 15) (by rfl) sc_law.nd (pi_range2 rfl T.range (pa_cons pe_int (pa_cons pe_int pa_nil))) (by exact blkOk_by (N := ["script", "draw", "again", "line", "many", "row", "told", "low", "high", "late", "more", "at", "bad", "long", "x", "m"]) (sc := defScope s_law) (by decide +kernel)) (fun _ _ _ _ _ => by exact (pg_name (i := 15) sc_law.nd rfl (Or.inl rfl))) (fun _ _ _ _ _ => pts_nil) (fun _ _ _ _ _ => (pe_call C__law_has_line.G (hr.mono (by decide)) (by rfl) C__law_has_line.g C__law_has_line.k C__law_has_line.b .nil pass0 (pa_cons (pv 5) (pa_cons (pv 15) pa_nil))))) pa_nil)))))))
      (pss_one (ps_ret pe_bl))
      pss_nil)
    (pss_cons (ps_par (i := 7) (j := 8) (by rfl) sc_law.nd rfl rfl (by decide) rfl rfl (pa_cons (pe_tup (pa_cons (pe_call C__law_take.G (hr.mono (by decide)) (by rfl) C__law_take.g C__law_take.k C__law_take.b .nil pass0 (pa_cons (pv 1) (pa_cons (pv 4) pa_nil))) (pa_cons (pe_call C__law_take.G (hr.mono (by decide)) (by rfl) C__law_take.g C__law_take.k C__law_take.b .nil pass0 (pa_cons (pv 1) (pa_cons (pv 4) pa_nil))) pa_nil))) (pa_cons (pe_fld (pv 6) rfl) pa_nil)) (by rfl))
    (pss_cons (ps_set (i := 9) sc_law.nd rfl (Or.inl rfl) (pe_ifExp (PW.pt (pw_or (pt_cmpR op_eq (pe_call C__law_take.G (hr.mono (by decide)) (by rfl) C__law_take.g C__law_take.k C__law_take.b .nil pass0 (pa_cons (pv 1) (pa_cons pe_int pa_nil))) pe_int (nomark _)) (pw_or1 (pt_val (pe_callB call_isi (by rfl) T.isinstance (by decide +kernel) (pa_cons (pv 6) (pa_cons (pe_glob (v := .ref CC) rfl gC rfl) pa_nil))))))) (pe_make C_Crooked.M C_Crooked.G (hr.mono (by decide)) (by rfl) C_Crooked.g C_Crooked.b .nil pass0 (pa_cons (pv 7) (pa_cons (pv 8) pa_nil))) (pe_make C_Stairs.M C_Stairs.G (hr.mono (by decide)) (by rfl) C_Stairs.g C_Stairs.b .nil pass0 (pa_cons (pe_fld (pv 6) rfl) (pa_cons (pv 7) (pa_cons (pv 8) pa_nil))))))
    (pss_cons (ps_if (PW.pt (pw_or (pt_cmpR op_ne (pe_either (pe_meth (pv 9) C_Stairs_shows.c C_Stairs_shows.m C_Stairs_shows.G (hr.mono (by decide)) C_Stairs_shows.b .nil pass0 (pa_cons (pv 5) pa_nil)) (pe_meth (pv 9) C_Crooked_shows.c C_Crooked_shows.m C_Crooked_shows.G (hr.mono (by decide)) C_Crooked_shows.b .nil pass0 (pa_cons (pv 5) pa_nil))) (pe_call C__law_is_right.G (hr.mono (by decide)) (by rfl) C__law_is_right.g C__law_is_right.k C__law_is_right.b .nil pass0 (pa_cons (pv 5) (pa_cons (pv 9) pa_nil))) (nomark _)) (pw_or1 (pt_cmpR op_ne (pe_cmpR (op_either (op_eqI Q_Stairs.M Q_Stairs.G Q_Stairs.b pass0 (hr.mono (by decide))) (op_either (op_eqI Q_Crooked.M Q_Crooked.G Q_Crooked.b pass0 (hr.mono (by decide))) (op_eqO Q_Crooked.M Q_Crooked.G Q_Crooked.b pass0 (hr.mono (by decide))))) (pv 9) (pv 6) (nomark _)) (pe_and (pe_cmpR op_eq (pe_callB call_isi (by rfl) T.isinstance (by decide +kernel) (pa_cons (pv 9) (pa_cons (pe_glob (v := .ref CS) rfl gS rfl) pa_nil))) (pe_callB call_isi (by rfl) T.isinstance (by decide +kernel) (pa_cons (pv 6) (pa_cons (pe_glob (v := .ref CS) rfl gS rfl) pa_nil))) (nomark _)) (pe_one (pe_cmpR (op_eqD hr.units) (pe_fld (pv 9) rfl) (pe_fld (pv 6) rfl) (nomark _)))) (nomark _)))))
      (pss_one (ps_ret pe_bl))
      pss_nil)
    (pss_one (ps_if (pt_val (pe_callB call_isi (by rfl) T.isinstance (by decide +kernel) (pa_cons (pv 6) (pa_cons (pe_glob (v := .ref CS) rfl gS rfl) pa_nil))))
      (pss_cons (ps_set (i := 10) sc_law.nd rfl (Or.inl rfl) (pe_make C_Stairs.M C_Stairs.G (hr.mono (by decide)) (by rfl) C_Stairs.g C_Stairs.b .nil pass0 (pa_cons (pe_make C_Line.M C_Line.G (hr.mono (by decide)) (by rfl) C_Line.g C_Line.b .nil pass0 (pa_cons (pe_op op_mulA (pe_fld (pe_fld (pv 6) rfl) rfl) pe_int) (pa_cons (pe_op op_add (pe_op op_mulA (pe_fld (pe_fld (pv 6) rfl) rfl) pe_int) (pe_call C__law_take.G (hr.mono (by decide)) (by rfl) C__law_take.g C__law_take.k C__law_take.b .nil pass0 (pa_cons (pv 1) (pa_cons pe_int pa_nil)))) (pa_cons (pe_op op_mulA (pe_fld (pe_fld (pv 6) rfl) rfl) pe_int) pa_nil)))) (pa_cons (pe_fld (pv 6) rfl) (pa_cons (pe_fld (pv 6) rfl) pa_nil)))))
    (pss_cons (ps_if (pt_val (pe_meth (pv 10) C_Stairs_shows.c C_Stairs_shows.m C_Stairs_shows.G (hr.mono (by decide)) C_Stairs_shows.b .nil pass0 (pa_cons (pv 5) pa_nil)))
      (pss_one (ps_ret pe_bl))
      pss_nil)
    (pss_cons (ps_set (i := 10) sc_law.nd rfl (Or.inl rfl) (pe_make C_Stairs.M C_Stairs.G (hr.mono (by decide)) (by rfl) C_Stairs.g C_Stairs.b .nil pass0 (pa_cons (pe_make C_Line.M C_Line.G (hr.mono (by decide)) (by rfl) C_Line.g C_Line.b .nil pass0 (pa_cons (pe_fld (pe_fld (pv 6) rfl) rfl) (pa_cons (pe_op op_add (pe_fld (pe_fld (pv 6) rfl) rfl) pe_int) (pa_cons (pe_fld (pe_fld (pv 6) rfl) rfl) pa_nil)))) (pa_cons (pe_fld (pv 6) rfl) (pa_cons (pe_fld (pv 6) rfl) pa_nil)))))
    (pss_one (ps_if (PW.pt (pw_or (pt_val (pe_meth (pv 10) C_Stairs_shows.c C_Stairs_shows.m C_Stairs_shows.G (hr.mono (by decide)) C_Stairs_shows.b .nil pass0 (pa_cons (pv 5) pa_nil))) (pw_or1 (pt_cmpR op_ne (pe_meth (pe_make C_Stairs.M C_Stairs.G (hr.mono (by decide)) (by rfl) C_Stairs.g C_Stairs.b .nil pass0 (pa_cons (pe_fld (pv 6) rfl) (pa_cons (pe_fld (pv 6) rfl) (pa_cons (pe_fld (pv 6) rfl) pa_nil)))) C_Stairs_shows.c C_Stairs_shows.m C_Stairs_shows.G (hr.mono (by decide)) C_Stairs_shows.b .nil pass0 (pa_cons (pv 5) pa_nil)) (pe_call C__law_is_right.G (hr.mono (by decide)) (by rfl) C__law_is_right.g C__law_is_right.k C__law_is_right.b .nil pass0 (pa_cons (pv 5) (pa_cons (pe_make C_Stairs.M C_Stairs.G (hr.mono (by decide)) (by rfl) C_Stairs.g C_Stairs.b .nil pass0 (pa_cons (pe_fld (pv 6) rfl) (pa_cons (pe_fld (pv 6) rfl) (pa_cons (pe_fld (pv 6) rfl) pa_nil)))) pa_nil))) (nomark _)))))
      (pss_one (ps_ret pe_bl))
      pss_nil)))))
      pss_nil)))))))))))))
    (pss_cons (ps_asg (pe_tup (pa_cons (pe_call C__law_take.G (hr.mono (by decide)) (by rfl) C__law_take.g C__law_take.k C__law_take.b .nil pass0 (pa_cons (pv 1) (pa_cons (pe_callB call_lenL (by rfl) T.len (by decide +kernel) (pa_cons (pv 5) pa_nil)) pa_nil))) (pa_cons (pe_call C__law_pick.G (hr.mono (by decide)) (by rfl) C__law_pick.g C__law_pick.k C__law_pick.b .nil pass0 (pa_cons (pv 1) (pa_cons (pe_lst (pa_cons pe_non (pa_cons pe_str (pa_cons pe_bl (pa_cons (pe_tup (pa_cons pe_int pa_nil)) pa_nil))))) pa_nil))) pa_nil))) (pg_tup rfl (pgs_cons (pg_name (i := 11) sc_law.nd rfl (Or.inr rfl)) (pgs_cons (pg_name (i := 12) sc_law.nd rfl (Or.inr rfl)) pgs_nil))))
    (pss_cons (ps_if (pt_cmpR (op_neD hr.units) (pe_lamcall (k := 6) (by rfl) C__law_fault.g C__law_fault.F.kp lkF hcF C__law_fault.b sc__law_fault rfl (Or.inl rfl) (fault_gives B BT noTB) TB rfl hmT huT (hr.mono (by decide)) (lamS_by (by show lamSB (defScope s_law) _ = true; decide +kernel)) rfl (fun _ _ _ _ _ => rfl) (fun A9 outer9 s9 H9 E9 f9 c9 hr9 => by exact (pe_call C_stairs.G (hr9.mono (by decide)) (by rfl) C_stairs.g C_stairs.k C_stairs.b .nil (passO (takes_of rfl rfl rfl rfl)) (pa_cons (pe_op op_cat (pe_op op_cat (pe_slice (sl_listK (K := K) rfl) (pv 5) po_none (po_some (pv 11))) (pe_lst (pa_cons (pv 12) pa_nil))) (pe_slice (sl_listK (K := K) rfl) (pv 5) (po_some (pe_op op_add (pv 11) pe_int)) po_none)) pa_nil)))) (pe_tup (pa_cons pe_str (pa_cons (pv 12) pa_nil))) (nomark _))
      (pss_one (ps_ret pe_bl))
      pss_nil)
    (pss_cons (ps_set (i := 13) sc_law.nd rfl (Or.inr rfl) (pe_lc (own := [("x", 14)]) (g := gName 14) (by rfl) sc_law.nd (pi_range1 rfl T.range (pa_cons (pe_call C__law_pick.G (hr.mono (by decide)) (by rfl) C__law_pick.g C__law_pick.k C__law_pick.b .nil pass0 (pa_cons (pv 1) (pa_cons (pe_lst (pa_cons pe_int (pa_cons pe_int (pa_cons pe_int (pa_cons pe_int (pa_cons pe_int pa_nil)))))) pa_nil))) pa_nil)) (by exact blkOk_by (N := ["script", "draw", "again", "line", "many", "row", "told", "low", "high", "late", "more", "at", "bad", "long", "x", "m"]) (sc := defScope s_law) (by decide +kernel)) (fun _ _ _ _ _ => by exact (pg_name (i := 14) sc_law.nd rfl (Or.inl rfl))) (fun _ _ _ _ _ => pts_nil) (fun _ _ _ _ _ => (pe_op op_fdivA (pv 14) pe_int))))
    (pss_one (ps_ret (pe_cmpR (op_either (op_eqD hr.units) op_eq) (pe_lamcall (k := 6) (by rfl) C__law_fault.g C__law_fault.F.kp lkF hcF C__law_fault.b sc__law_fault rfl (Or.inl rfl) (fault_gives B BT noTB) TB rfl hmT huT (hr.mono (by decide)) (lamS_by (by show lamSB (defScope s_law) _ = true; decide +kernel)) rfl (fun _ _ _ _ _ => rfl) (fun A9 outer9 s9 H9 E9 f9 c9 hr9 => by exact (pe_call C_stairs.G (hr9.mono (by decide)) (by rfl) C_stairs.g C_stairs.k C_stairs.b .nil (passO (takes_of rfl rfl rfl rfl)) (pa_cons (pv 13) pa_nil)))) (pe_ifExp (pt_chain op_le op_le pe_int (pe_callB call_lenL (by rfl) T.len (by decide +kernel) (pa_cons (pv 13) pa_nil)) pe_int) pe_str (pe_tup (pa_cons pe_str (pa_cons (pe_callB call_lenL (by rfl) T.len (by decide +kernel) (pa_cons (pv 13) pa_nil)) pa_nil)))) (nomark _))))))))), ?_⟩
    refine ⟨_, rfl, (by show 2 ≤ sizeLine; decide), fun dr nd => ?_⟩
    have G0 : Go K (upd H dr (.lst [.ref sc, .int 0])) dr sc Pt ns := ⟨⟨0, upd_same, (same_upd nd).seq hS, hl⟩, (TabS.nil hP).ext (same_upd nd)⟩
    clear hS nd hP
    revert G0
    generalize upd H dr (.lst [.ref sc, .int 0]) = H0
    intro G0
    refine ⟨2, rfl, by decide, by decide, for_range (lo := 0) (n := 2) (fun i σ H' => Go K H' dr sc Pt ns ∧ ∃ y2 y3 y4 y5 y6 y7 y8 y9 y10, σ = [some (.ref sc), some (.ref dr), y2, y3, y4, y5, y6, y7, y8, y9, y10, none, none, none, none, none] ∧
      (0 < i → ∃ (L : Addr) (g : Nat → Int) (n : Nat), y5 = some (.ref L) ∧ H' L = some (.lst (rowL g n)) ∧ L ≠ dr ∧ 2 ≤ n ∧ n ≤ 61)) ⟨G0, none, none, none, none, none, none, none, none, none, rfl, fun h => absurd h (by decide)⟩ ?_ ?_⟩
    · rintro i σ H1 hi ⟨G1, y2, y3, y4, y5, y6, y7, y8, y9, y10, rfl, _⟩

      -- line, many
      refine ⟨_, rfl, dr, sc, 2, ns, rfl, G1.D, by decide, by decide, fun a H2 ha K2 D2 => ?_⟩
      have G2 := G1.keep K2 D2
      refine ⟨_, rfl, dr, sc, 3, ns, rfl, D2, by decide, by decide, fun b H3 hb K3 D3 => ?_⟩
      have G3 := G2.keep K3 D3
      refine ⟨_, rfl, dr, sc, 60, ns, rfl, D3, by decide, fun m0 H4 m00 m01 K4 D4 => ?_⟩
      have G4 := G3.keep K4 D4
      refine ⟨_, _, rfl, rfl, by show 3 ≤ sizeLine; decide, fun tl ntl => ?_⟩
      have s5 := same_upd (o := .tup [.int a, .int b, .int (1 + m0)]) ntl
      have h5 : upd H4 tl (.tup [.int a, .int b, .int (1 + m0)]) tl = _ := upd_same
      generalize upd H4 tl (.tup [.int a, .int b, .int (1 + m0)]) = H5 at *
      have G5 := G4.same s5
      have ha2 : -100 < a ∧ a < 100 := by
        have : a.natAbs < 100 := ha
        omega
      have hb2 : -1000 < b ∧ b < 1000 := by
        have : b.natAbs < 1000 := hb
        omega
      clear G2 G3 G4 K2 K3 K4 D2 D3 D4 s5 ntl ha hb G1
      refine ⟨_, rfl, _, rfl, by show 3 ≤ sizeLine; decide, fun pl npl => ?_⟩
      have s6 := same_upd (o := .lst [.int 4, .int 20, .int 60]) npl
      have h6 : upd H5 pl (.lst [.int 4, .int 20, .int 60]) pl = _ := upd_same
      have npld : pl ≠ dr := fun e => by
        obtain ⟨zs, z⟩ := draw_lst G5.D
        rw [e, z] at npl
        cases npl
      generalize upd H5 pl (.lst [.int 4, .int 20, .int 60]) = H6 at *
      have G6 := G5.same s6
      refine ⟨dr, sc, pl, ns, _, rfl, G6.D, npld, .inl (.inl h6), by show 0 < 3; decide, fun v H7 hv K7 D7 => ?_⟩
      obtain ⟨w', hw, rfl⟩ : ∃ z : Int, (0 < z ∧ z ≤ 60) ∧ v = .int z := by
        have hv : v ∈ [V.int 4, V.int 20, V.int 60] := hv
        simp only [List.mem_cons, List.not_mem_nil, or_false] at hv
        rcases hv with rfl | rfl | rfl
        · exact ⟨4, by omega, rfl⟩
        · exact ⟨20, by omega, rfl⟩
        · exact ⟨60, by omega, rfl⟩
      have G7 := G6.keep K7 D7
      have h7 := K7 _ _ (fun e => by
        obtain ⟨zs, z⟩ := draw_lst G5.D
        rw [e, z] at h5
        cases h5) (s6 _ _ h5)
      refine ⟨dr, sc, w', ns, rfl, D7, hw.1, fun r0 H8 r00 r01 K8 D8 => ?_⟩
      have G8 := G7.keep K8 D8
      have h8 := K8 _ _ (fun e => by
        obtain ⟨zs, z⟩ := draw_lst G5.D
        rw [e, z] at h5
        cases h5) h7
      refine ⟨_, _, rfl, rfl, by show 2 ≤ sizeLine; decide, fun tp ntp => ?_⟩
      refine ⟨tp, _, rfl, .inl (.inl upd_same), rfl, _, _, rfl, _, _, rfl, rfl, ?_⟩
      have s9 := same_upd (o := .tup [.ref tl, .int (2 + r0)]) ntp
      generalize upd H8 tp (.tup [.ref tl, .int (2 + r0)]) = H9 at *
      have G9 := G8.same s9
      have h9 := s9 _ _ h8
      obtain ⟨n, hn⟩ := Int.eq_ofNat_of_zero_le (show 0 ≤ 2 + r0 by omega)
      have n2 : 2 ≤ n := by omega
      have n61 : n ≤ 61 := by omega
      dsimp only
      rw [hn]
      obtain ⟨m1, hm1⟩ : ∃ z, z = 1 + m0 := ⟨_, rfl⟩
      rw [← hm1] at h9
      have m11 : 1 ≤ m1 := by omega
      have m12 : m1 ≤ 60 := by omega
      clear G5 G6 G7 G8 h5 h6 h7 h8 K7 K8 D7 D8 s6 s9 ntp npl npld hw hn hv r00 r01 m00 m01 hm1
      -- row
      refine ⟨_, rfl, _, rfl, by omega, by omega, fun L nL => lc_range (lo := 0) (n := (n : Int).toNat) (fun c H' => Same H9 H' ∧ H' L = some (.lst (rowL (fun x => (a * (x : Int) + b) / m1) c))) ⟨same_upd nL, upd_same⟩ ?_ ?_⟩
      · rintro c H5 hc ⟨s5, hD⟩
        have mc : Med (0 + (c : Int)) := ⟨by omega, by omega⟩
        refine ⟨rfl, tYes_in ?_⟩
        refine ⟨_, rfl, _, rfl, tl, a, b, m1, _, rfl, .inl (.inl (s5 _ _ h9)), m11, ⟨by omega, by omega⟩, mc, _, hD, ?_, same_keep nL s5 (Keep.upd L _ _), ?_⟩
        · rw [rowL_len]
          exact small1000 (by omega)
        · rw [upd_same, rowL_snoc, Int.zero_add]
      rintro H10 ⟨s10, hL⟩
      rw [Int.toNat_natCast] at hL
      have G10 := G9.same s10
      have nLd : L ≠ dr := fun e => by
        obtain ⟨zs, z⟩ := draw_lst G9.D
        rw [e, z] at nL
        cases nL
      have sm10 : Sm (fun x => (a * (x : Int) + b) / m1) n 10000 := fun x hx => by
        have x1 : (x : Int) ≤ 60 := by omega
        have c1 : a * (x : Int) ≤ 100 * (x : Int) := Int.mul_le_mul_of_nonneg_right (by omega) (by omega)
        have c2 : -100 * (x : Int) ≤ a * (x : Int) := Int.mul_le_mul_of_nonneg_right (by omega) (by omega)
        have c3 : a * (x : Int) + b ≤ 7000 := by omega
        have c4 : -7000 ≤ a * (x : Int) + b := by omega
        show -10000 ≤ (a * (x : Int) + b) / m1 ∧ (a * (x : Int) + b) / m1 ≤ 10000
        generalize a * (x : Int) + b = z at *
        have p1 : -7000 * m1 ≤ z := by omega
        have p2 : z ≤ 7000 * m1 := by omega
        have := Int.le_ediv_of_mul_le (show 0 < m1 by omega) p1
        have := Int.ediv_le_of_le_mul (show 0 < m1 by omega) p2
        omega
      generalize (fun x : Nat => (a * (x : Int) + b) / m1) = g0 at *
      have D9 := G9.D
      -- one number changed
      dsimp only [gName]
      refine sJoin (fun σ' H' => Go K H' dr sc Pt ns ∧ ∃ g : Nat → Int, H' L = some (.lst (rowL g n)) ∧ Sm g n 20000 ∧ σ' = [some (.ref sc), some (.ref dr), some (.int (0 + (i : Int))), some (.ref tl), some (.int (n : Int)), some (.ref L), y6, y7, y8, y9, y10, none, none, none, none, none]) (fun N hN => ?_) ?_
      · refine ⟨_, rfl, dr, sc, 3, ns, rfl, G10.D, by decide, fun r9 H11 r90 r91 K11 D11 => ?_⟩
        have G11 := G10.keep K11 D11
        have hL11 := K11 _ _ nLd hL
        refine ⟨rfl, _, rfl, ite2 (fun _ => ?_) (fun _ => ?_)⟩
        · refine ⟨_, rfl, _, rfl, _, rfl, dr, sc, n, ns, rfl, D11, by omega, fun k H12 k0 k1 K12 D12 => ?_⟩
          have G12 := G11.keep K12 D12
          have hL12 := K12 _ _ nLd hL11
          obtain ⟨k, rfl⟩ := Int.eq_ofNat_of_zero_le k0
          have kn : k < n := by omega
          refine ⟨L, _, _, _, rfl, rfl, .inl (.inl hL12), atI_nat (rowL_at kn), ?_⟩
          refine ⟨_, rfl, _, rfl, by show 4 ≤ sizeLine; decide, fun p3 np3 => ?_⟩
          have s13 := same_upd (o := .lst [.int 1, .int (-1), .int 1, .int 3]) np3
          have h13 : upd H12 p3 (.lst [.int 1, .int (-1), .int 1, .int 3]) p3 = _ := upd_same
          have np3d : p3 ≠ dr := fun e => by
            obtain ⟨zs, z⟩ := draw_lst D12
            rw [e, z] at np3
            cases np3
          generalize upd H12 p3 (.lst [.int 1, .int (-1), .int 1, .int 3]) = H13 at *
          have G13 := G12.same s13
          refine ⟨dr, sc, p3, ns, _, rfl, G13.D, np3d, .inl (.inl h13), by show 0 < 4; decide, fun v H14 hv K14 D14 => ?_⟩
          obtain ⟨e, he, rfl⟩ : ∃ z : Int, (-1 ≤ z ∧ z ≤ 3) ∧ v = .int z := by
            have hv : v ∈ [V.int 1, V.int (-1), V.int 1, V.int 3] := hv
            simp only [List.mem_cons, List.not_mem_nil, or_false] at hv
            rcases hv with rfl | rfl | rfl | rfl
            · exact ⟨1, by omega, rfl⟩
            · exact ⟨-1, by omega, rfl⟩
            · exact ⟨1, by omega, rfl⟩
            · exact ⟨3, by omega, rfl⟩
          have G14 := G13.keep K14 D14
          have hL14 := K14 _ _ nLd (s13 _ _ hL12)
          refine ⟨_, _, rfl, rfl, L, _, _, k, rfl, rfl, hL14, ?_, ?_⟩
          · rw [rowL_len]
            unfold ixN
            rw [if_pos (by omega), if_pos (by omega), Int.toNat_natCast]
          · refine hN _ _ ⟨⟨draw_other D9 D14 nL (Keep.upd L _ _), tab_keep (Keep.upd L _ _) hL14 G14.T⟩, _, by rw [upd_same, rowL_set kn], fun x hx => ?_, rfl⟩
            have := sm10 x hx
            have := sm10 k kn
            dsimp only
            split <;> omega
        · refine hN _ _ ⟨G11, g0, hL11, fun x hx => ?_, rfl⟩
          have := sm10 x hx
          omega
      rintro σ H13 ⟨G13, g, hL13, sm, rfl⟩
      clear G9 G10 hL sm10 s10 h9
      -- told
      refine tIf_via (fun v H' => ∃ r2, v = .ref r2 ∧ SqA K H' r2 (rowL g n) ∧ H' L = some (.lst (rowL g n)) ∧ Go K H' dr sc Pt ns) (fun Q' h' => ?_) ?_
      · refine ⟨_, rfl, dr, sc, 2, ns, rfl, G13.D, by decide, fun r1 H14 _ _ K14 D14 => ?_⟩
        have G14 := G13.keep K14 D14
        have hL14 := K14 _ _ nLd hL13
        refine ⟨rfl, _, rfl, ite2 (fun _ => ?_) (fun _ => ?_)⟩
        · refine ⟨_, rfl, L, _, rfl, .inl ⟨.inl (.inl hL14), fun t nt => ?_⟩⟩
          have s := same_upd (o := .tup (rowL g n)) nt
          exact h' _ _ ⟨t, rfl, .inr (.inl (.inl upd_same)), s _ _ hL14, G14.same s⟩
        · exact ⟨_, rfl, h' _ _ ⟨L, rfl, .inl (.inl (.inl hL14)), hL14, G14⟩⟩
      rintro _ H14 ⟨r2, rfl, hr2, hL14, G14⟩
      refine ⟨r2, _, rfl, hr2, .inl ⟨g, n, rfl, .inl ⟨n2, by omega, fun p H15 s15 told => ?_⟩⟩⟩
      have G15 := G14.same s15
      have hL15 := s15 _ _ hL14
      clear G13 hL13 hr2 hL14 G14 s15 D9 nL
      have gb : ∀ x : Nat, x < n → -1000000 ≤ g x ∧ g x ≤ 1000000 := fun x hx => by
        have := sm x hx
        omega
      rcases told with ⟨ta, tb', tm, dx, l, o, h, ti, tj, tk, tq, hp, hl, ho, hh, lo, up, bst, off, m2⟩ | ⟨dx, o, h, ti, tj, tk, tq, hp, ho, hh, lo, up, nlt⟩
      · have lf := leastFit_of lo up bst
        have shown := shown_of lo up bst off
        have S : SS K H15 dr sc Pt ns CS CL L g n p dx l o h ta tb' tm ti tj tk tq := ⟨G15, hL15, hp, hl, ho, hh⟩
        have tm1 := lf.1
        clear G15 hL15 hp hl ho hh lo up bst
        -- bool(told) != isinstance(told, Stairs)
        refine ⟨_, rfl, .inl ⟨p, dx, _, rfl, S.p, _, rfl, true, rfl, ?_⟩⟩
        refine ⟨_, rfl, _, _, _, _, _, rfl, .own CS, .base (.ins S.p RS.cl IS.ha IO.hn IO.ht IS.hm), IS.own, rfl, _, rfl, ?_⟩
        refine iteF ?_
        refine ⟨_, rfl, _, rfl, L, p, g, n, rfl, .inl (.inl S.r), by omega, by omega, .inl ⟨dx, l, o, h, ta, tb', tm, ti, tj, tk, tq, S.p, S.l, tm1, by omega, S.o, S.h, fun z H16 s16 hz => ?_⟩⟩
        obtain rfl : z = true := hz.mpr shown
        refine ⟨_, rfl, iteF ?_⟩
        have S := S.same s16
        clear s16
        refine .inl ⟨_, rfl, p, dx, _, rfl, S.p, rfl, _, rfl, p, L, dx, l, o, h, ta, tb', tm, ti, tj, tk, tq, g, n, rfl, S.p, S.l, tm1, ⟨by omega, by omega⟩, S.o, S.h, .inl (.inl (.inl S.r)), by omega, by omega, fun z H17 s17 hz => ?_⟩
        obtain rfl : z = true := hz.mpr shown
        refine ⟨_, rfl, iteF ?_⟩
        have S := S.same s17
        clear s17
        -- no lesser m has a line
        try dsimp only [tNext]
        refine sTest_via (fun b H' => b = false ∧ SS K H' dr sc Pt ns CS CL L g n p dx l o h ta tb' tm ti tj tk tq) (fun Q' k => ?_) ?_
        · refine ⟨_, rfl, _, _, _, _, _, rfl, .own CS, .base (.ins S.p RS.cl IS.ha IO.hn IO.ht IS.hm), IS.own, true, rfl, iteT ?_⟩
          refine ⟨_, rfl, _, _, rfl, rfl, _, rfl, ?_⟩
          by_cases n9 : (n : Int) < 9
          · rw [decide_eq_true n9]
            refine iteT ?_
            obtain ⟨dl, hl⟩ := id S.l
            refine ⟨_, rfl, p, CS, dx, _, _, rfl, S.p, RS.cl, RS.nl, rfl, l, CL, dl, _, _, rfl, hl, RL.cl, RL.nm, rfl, 6, tm, rfl, 1, _, rfl, ⟨by decide, by decide, by omega, by omega⟩, fun D nD => lc_range (lo := 1) (n := (min 6 tm - 1).toNat) (fun c H' => Same H17 H' ∧ H' D = some (.lst ((List.replicate c false).map V.bl))) ⟨same_upd nD, upd_same⟩ ?_ ?_⟩
            · rintro c H18 hc ⟨s18, hD⟩
              refine ⟨rfl, tYes_in ?_⟩
              refine ⟨_, rfl, _, rfl, L, 1 + (c : Int), g, n, rfl, .inl (.inl (S.same s18).r), n2, by omega, gb, by omega, by omega, fun z H19 s19 hz => ?_⟩
              obtain rfl : z = false := by
                cases z with
                | false => rfl
                | true =>
                  obtain ⟨a', fa⟩ := hz rfl
                  have := (lf.2.2 a' (1 + (c : Int)) (by omega) fa).1
                  omega
              refine ⟨_, s19 _ _ hD, ?_, same_keep nD (s18.trans s19) (Keep.upd D _ _), ?_⟩
              · rw [List.length_map, List.length_replicate]
                exact small1000 (by omega)
              · rw [upd_same, List.replicate_succ', List.map_append]
                rfl
            rintro H18 ⟨s18, hD⟩
            refine ⟨D, _, rfl, .inl (.inl hD), _, rfl, ?_⟩
            rw [any_false]
            exact k _ _ ⟨rfl, S.same s18⟩
          · rw [decide_eq_false n9]
            exact iteF (k _ _ ⟨rfl, S⟩)
        clear S
        rintro _ H18 ⟨rfl, S⟩
        refine iteF ?_
        refine ⟨_, rfl, _, _, _, _, _, rfl, .own CC, .base (.ins S.p RS.cl IS.ha IO.hn IO.ht IS.hm), kSC, false, rfl, iteF ?_⟩
        refine iteF ?_
        -- low, high
        refine ⟨_, rfl, _, rfl, dr, sc, n, ns, rfl, S.G.D, by omega, fun u H19 u0 u1 K19 D19 => ?_⟩
        have S := S.keep K19 D19 nLd
        refine ⟨_, rfl, _, rfl, dr, sc, n, ns, rfl, D19, by omega, fun v H20 v0 v1 K20 D20 => ?_⟩
        have S := S.keep K20 D20 nLd
        refine ⟨by show 2 ≤ sizeLine; decide, fun tw ntw => ?_⟩
        have S := S.same (same_upd (o := .tup [.int u, .int v]) ntw)
        have hw : SqT K (upd H20 tw (.tup [.int u, .int v])) tw [.int u, .int v] := .inl (.inl upd_same)
        generalize upd H20 tw (.tup [.int u, .int v]) = H21 at *
        clear K19 D19 K20 D20 ntw
        refine ⟨_, rfl, p, CS, dx, _, _, rfl, S.p, RS.cl, RS.nh, rfl, _, _, rfl, ?_⟩
        -- late
        dsimp only [gName]
        refine tIf_via (fun y H' => ∃ x, y = .ref x ∧ SS K H' dr sc Pt ns CS CL L g n p dx l o h ta tb' tm ti tj tk tq ∧ SqT K H' tw [.int u, .int v] ∧ ∃ dy, H' x = some (.ins CC dy [("low", .ref tw), ("high", .ref h)]) ∨ H' x = some (.ins CS dy [("line", .ref l), ("low", .ref tw), ("high", .ref h)])) (fun Q' k => ?_) ?_
        · refine ⟨_, rfl, dr, sc, 2, ns, rfl, S.G.D, by decide, fun r1 H22 _ _ K22 D22 => ?_⟩
          have hw2 : SqT K H22 tw [.int u, .int v] := by
            obtain ⟨zs, hd⟩ := draw_lst S.G.D
            exact keep_tupD K22 hd hw
          have S := S.keep K22 D22 nLd
          refine ⟨rfl, _, rfl, ite2 (fun _ => ?_) (fun _ => ?_)⟩
          · refine iteT ⟨_, rfl, _, rfl, fun y dy ny ndy ney => ⟨y, dy, .ref tw, .ref h, rfl, upd_same, fun H7 k7 hy => ⟨rfl, ?_⟩⟩⟩
            have s7 := same_make ny ndy ney k7
            exact k _ _ ⟨y, rfl, S.same s7, Same.tup s7 hw2, dy, .inl hy⟩
          · refine ⟨_, rfl, _, _, _, _, _, rfl, .own CC, .base (.ins S.p RS.cl IS.ha IO.hn IO.ht IS.hm), kSC, false, rfl, iteF ?_⟩
            refine ⟨_, rfl, p, CS, dx, _, _, rfl, S.p, RS.cl, RS.nl, rfl, _, rfl, _, rfl, fun y dy ny ndy ney => ⟨y, dy, .ref l, .ref tw, .ref h, rfl, upd_same, fun H7 k7 hy => ⟨rfl, ?_⟩⟩⟩
            have s7 := same_make ny ndy ney k7
            exact k _ _ ⟨y, rfl, S.same s7, Same.tup s7 hw2, dy, .inr hy⟩
        clear S hw
        rintro _ H22 ⟨x, rfl, S, hw, dy, hlate⟩
        try dsimp only [tNext]
        refine sTest_via (fun b H' => b = false ∧ SS K H' dr sc Pt ns CS CL L g n p dx l o h ta tb' tm ti tj tk tq) (fun Q' k => ?_) ?_
        · rcases hlate with hx | hx
          · refine .inr ⟨_, rfl, x, dy, _, rfl, hx, rfl, _, rfl, x, L, dy, tw, h, u, v, tk, tq, g, n, rfl, hx, hw, S.h, .inl (.inl (.inl S.r)), by omega, fun z1 H23 s23 hz1 => ?_⟩
            have S := S.same s23
            have hx := s23 _ _ hx
            have hw := Same.tup s23 hw
            refine ⟨_, rfl, _, rfl, L, x, g, n, rfl, .inl (.inl S.r), by omega, by omega, .inr ⟨dy, tw, h, u, v, tk, tq, hx, hw, S.h, fun z2 H24 s24 hz2 => ?_⟩⟩
            have S := S.same s24
            have hx := s24 _ _ hx
            have hw := Same.tup s24 hw
            obtain rfl : z1 = z2 := Bool.eq_iff_iff.mpr (hz1.trans hz2.symm)
            refine ⟨rfl, _, rfl, ?_⟩
            rw [decide_eq_true rfl]
            refine iteF ?_
            refine ⟨_, rfl, _, rfl, .inr (.inr ⟨x, dy, _, p, CS, dx, _, rfl, hx, rfl, S.p, nfC, x, p, dy, dx, tw, h, u, v, tk, tq, rfl, hx, hw, S.h, .inr ⟨_, S.p, _, rfl, ?_⟩⟩)⟩
            refine ⟨_, rfl, _, _, _, _, _, rfl, .own CS, .base (.ins hx RC.cl IC.ha IO.hn IO.ht IC.hm), kCS, ?_⟩
            refine ⟨_, rfl, _, _, _, _, _, rfl, .own CS, .base (.ins S.p RS.cl IS.ha IO.hn IO.ht IS.hm), IS.own, rfl, _, rfl, ?_⟩
            refine iteF ?_
            refine ⟨rfl, _, rfl, ?_⟩
            exact k _ _ ⟨rfl, S⟩
          · refine .inl ⟨_, rfl, x, dy, _, rfl, hx, rfl, _, rfl, x, L, dy, l, tw, h, ta, tb', tm, u, v, tk, tq, g, n, rfl, hx, S.l, tm1, ⟨by omega, by omega⟩, hw, S.h, .inl (.inl (.inl S.r)), by omega, by omega, fun z1 H23 s23 hz1 => ?_⟩
            have S := S.same s23
            have hx := s23 _ _ hx
            have hw := Same.tup s23 hw
            refine ⟨_, rfl, _, rfl, L, x, g, n, rfl, .inl (.inl S.r), by omega, by omega, .inl ⟨dy, l, tw, h, ta, tb', tm, u, v, tk, tq, hx, S.l, tm1, by omega, hw, S.h, fun z2 H24 s24 hz2 => ?_⟩⟩
            have S := S.same s24
            have hx := s24 _ _ hx
            have hw := Same.tup s24 hw
            obtain rfl : z1 = z2 := Bool.eq_iff_iff.mpr (hz1.trans hz2.symm)
            refine ⟨rfl, _, rfl, ?_⟩
            rw [decide_eq_true rfl]
            refine iteF ?_
            refine ⟨_, rfl, _, rfl, .inl ⟨x, dy, _, rfl, hx, .ins S.p, x, p, dy, dx, l, tw, o, h, u, v, ti, tj, tk, tq, rfl, hx, S.p, ⟨_, _, _, S.l⟩, hw, S.o, S.h, _, rfl, ?_⟩⟩
            refine ⟨_, rfl, _, _, _, _, _, rfl, .own CS, .base (.ins hx RS.cl IS.ha IO.hn IO.ht IS.hm), IS.own, ?_⟩
            refine ⟨_, rfl, _, _, _, _, _, rfl, .own CS, .base (.ins S.p RS.cl IS.ha IO.hn IO.ht IS.hm), IS.own, rfl, _, rfl, ?_⟩
            refine iteT ?_
            refine ⟨_, rfl, x, CS, dy, _, _, rfl, hx, RS.cl, RS.no, rfl, _, rfl, p, CS, dx, _, _, rfl, S.p, RS.cl, RS.no, rfl, _, _, pair_dp hw, pair_dp S.o, rfl, rfl, ?_⟩
            rw [pair_eqv]
            refine ⟨rfl, _, rfl, ?_⟩
            rw [decide_eq_true rfl]
            exact k _ _ ⟨rfl, S⟩
        clear S hw hlate
        rintro _ H23 ⟨rfl, S⟩
        refine iteF ?_
        refine ⟨_, rfl, _, _, _, _, _, rfl, .own CS, .base (.ins S.p RS.cl IS.ha IO.hn IO.ht IS.hm), IS.own, true, rfl, iteT ?_⟩
        -- twice its numbers
        obtain ⟨dl, hl⟩ := id S.l
        refine ⟨_, rfl, p, CS, dx, _, _, rfl, S.p, RS.cl, RS.nl, rfl, l, CL, dl, _, _, rfl, hl, RL.cl, RL.na, rfl, _, _, rfl, rfl, mulOkR (by decide) (by decide), ?_⟩
        refine ⟨_, rfl, p, CS, dx, _, _, rfl, S.p, RS.cl, RS.nl, rfl, l, CL, dl, _, _, rfl, hl, RL.cl, RL.nb, rfl, _, _, rfl, rfl, mulOkR (by decide) (by decide), ?_⟩
        refine ⟨_, rfl, dr, sc, 2, ns, rfl, S.G.D, by decide, fun t0 H24 _ _ K24 D24 => ?_⟩
        have S := S.keep K24 D24 nLd
        clear K24 D24 hl dl
        obtain ⟨dl, hl⟩ := id S.l
        refine ⟨_, _, rfl, rfl, ?_⟩
        refine ⟨_, rfl, p, CS, dx, _, _, rfl, S.p, RS.cl, RS.nl, rfl, l, CL, dl, _, _, rfl, hl, RL.cl, RL.nm, rfl, _, _, rfl, rfl, mulOkR (by decide) (by decide), ?_⟩
        refine fun x1 dx1 nx nd ne => ⟨x1, dx1, ta * 2, tb' * 2 + t0, tm * 2, rfl, upd_same, by omega, fun H25 k25 hx1 => ⟨rfl, ?_⟩⟩
        have S := S.same (same_make nx nd ne k25)
        clear nx nd ne k25 hl dl
        refine ⟨_, rfl, p, CS, dx, _, _, rfl, S.p, RS.cl, RS.no, rfl, _, rfl, p, CS, dx, _, _, rfl, S.p, RS.cl, RS.nh, rfl, ?_⟩
        refine fun y1 dy1 nx nd ne => ⟨y1, dy1, .ref x1, .ref o, .ref h, rfl, upd_same, fun H26 k26 hy1 => ⟨rfl, ?_⟩⟩
        have hx1 := (same_make nx nd ne k26) _ _ hx1
        have S := S.same (same_make nx nd ne k26)
        clear nx nd ne k26
        refine ⟨_, rfl, y1, dy1, _, rfl, hy1, rfl, _, rfl, y1, L, dy1, x1, o, h, ta * 2, tb' * 2 + t0, tm * 2, ti, tj, tk, tq, g, n, rfl, hy1, ⟨dx1, hx1⟩, by omega, ⟨by omega, by omega⟩, S.o, S.h, .inl (.inl (.inl S.r)), by omega, by omega, fun z H27 s27 hz => ⟨z, rfl, ?_⟩⟩
        obtain rfl : z = false := by
          cases z with
          | false => rfl
          | true => exact absurd (hz.mp rfl) (not_twice shown)
        refine iteF ?_
        have S := S.same s27
        clear hx1 hy1 s27 hz
        -- b + 1
        obtain ⟨dl, hl⟩ := id S.l
        refine ⟨_, rfl, p, CS, dx, _, _, rfl, S.p, RS.cl, RS.nl, rfl, l, CL, dl, _, _, rfl, hl, RL.cl, RL.na, rfl, ?_⟩
        refine ⟨_, rfl, p, CS, dx, _, _, rfl, S.p, RS.cl, RS.nl, rfl, l, CL, dl, _, _, rfl, hl, RL.cl, RL.nb, rfl, _, _, rfl, rfl, ?_⟩
        refine ⟨_, rfl, p, CS, dx, _, _, rfl, S.p, RS.cl, RS.nl, rfl, l, CL, dl, _, _, rfl, hl, RL.cl, RL.nm, rfl, ?_⟩
        refine fun x1 dx1 nx nd ne => ⟨x1, dx1, ta, tb' + 1, tm, rfl, upd_same, by omega, fun H25 k25 hx1 => ⟨rfl, ?_⟩⟩
        have S := S.same (same_make nx nd ne k25)
        clear nx nd ne k25 hl dl
        refine ⟨_, rfl, p, CS, dx, _, _, rfl, S.p, RS.cl, RS.no, rfl, _, rfl, p, CS, dx, _, _, rfl, S.p, RS.cl, RS.nh, rfl, ?_⟩
        refine fun y1 dy1 nx nd ne => ⟨y1, dy1, .ref x1, .ref o, .ref h, rfl, upd_same, fun H26 k26 hy1 => ⟨rfl, ?_⟩⟩
        have hx1 := (same_make nx nd ne k26) _ _ hx1
        have S := S.same (same_make nx nd ne k26)
        clear nx nd ne k26
        refine ⟨_, rfl, y1, dy1, _, rfl, hy1, rfl, _, rfl, y1, L, dy1, x1, o, h, ta, tb' + 1, tm, ti, tj, tk, tq, g, n, rfl, hy1, ⟨dx1, hx1⟩, by omega, ⟨by omega, by omega⟩, S.o, S.h, .inl (.inl (.inl S.r)), by omega, by omega, fun z H27 s27 hz => ⟨z, rfl, ?_⟩⟩
        obtain rfl : z = false := by
          cases z with
          | false => rfl
          | true => exact absurd (hz.mp rfl) (not_raised shown)
        refine iteF ?_
        have S := S.same s27
        clear hx1 hy1 s27 hz
        -- the pairs exchanged
        refine ⟨_, rfl, p, CS, dx, _, _, rfl, S.p, RS.cl, RS.nl, rfl, _, rfl, p, CS, dx, _, _, rfl, S.p, RS.cl, RS.nh, rfl, _, rfl, p, CS, dx, _, _, rfl, S.p, RS.cl, RS.no, rfl, ?_⟩
        refine fun y1 dy1 nx nd ne => ⟨y1, dy1, .ref l, .ref h, .ref o, rfl, upd_same, fun H26 k26 hy1 => ⟨rfl, ?_⟩⟩
        have S := S.same (same_make nx nd ne k26)
        clear nx nd ne k26
        refine ⟨y1, dy1, _, rfl, hy1, rfl, _, rfl, y1, L, dy1, l, h, o, ta, tb', tm, tk, tq, ti, tj, g, n, rfl, hy1, S.l, tm1, ⟨by omega, by omega⟩, S.h, S.o, .inl (.inl (.inl S.r)), by omega, by omega, fun z1 H28 s28 hz1 => ?_⟩
        have S := S.same s28
        refine ⟨_, rfl, ?_⟩
        refine ⟨_, rfl, p, CS, dx, _, _, rfl, S.p, RS.cl, RS.nl, rfl, _, rfl, p, CS, dx, _, _, rfl, S.p, RS.cl, RS.nh, rfl, _, rfl, p, CS, dx, _, _, rfl, S.p, RS.cl, RS.no, rfl, ?_⟩
        refine fun y2 dy2 nx nd ne => ⟨y2, dy2, .ref l, .ref h, .ref o, rfl, upd_same, fun H26 k26 hy2 => ⟨rfl, ?_⟩⟩
        have S := S.same (same_make nx nd ne k26)
        clear nx nd ne k26
        refine ⟨L, y2, g, n, rfl, .inl (.inl S.r), by omega, by omega, .inl ⟨dy2, l, h, o, ta, tb', tm, tk, tq, ti, tj, hy2, S.l, tm1, by omega, S.h, S.o, fun z2 H29 s29 hz2 => ?_⟩⟩
        have S := S.same s29
        obtain rfl : z1 = z2 := Bool.eq_iff_iff.mpr (hz1.trans hz2.symm)
        refine ⟨rfl, _, rfl, ?_⟩
        rw [decide_eq_true rfl]
        refine iteF ?_
        exact ⟨S.G, _, _, _, _, _, _, _, _, _, rfl, fun _ => ⟨L, g, n, rfl, S.r, nLd, n2, n61⟩⟩
      · have bent := bent_of lo up nlt
        have nf := noFit_of lo up nlt
        have S : SC K H15 dr sc Pt ns CC L g n p dx o h ti tj tk tq := ⟨G15, hL15, hp, ho, hh⟩
        clear G15 hL15 hp ho hh lo up nlt
        refine ⟨_, rfl, .inr ⟨p, dx, _, rfl, S.p, _, rfl, false, rfl, ?_⟩⟩
        refine ⟨_, rfl, _, _, _, _, _, rfl, .own CS, .base (.ins S.p RC.cl IC.ha IO.hn IO.ht IC.hm), kCS, rfl, _, rfl, ?_⟩
        refine iteF ?_
        refine ⟨_, rfl, _, rfl, L, p, g, n, rfl, .inl (.inl S.r), by omega, by omega, .inr ⟨dx, o, h, ti, tj, tk, tq, S.p, S.o, S.h, fun z H16 s16 hz => ?_⟩⟩
        obtain rfl : z = true := hz.mpr bent
        refine ⟨_, rfl, iteF ?_⟩
        have S := S.same s16
        clear s16
        refine .inr ⟨_, rfl, p, dx, _, rfl, S.p, rfl, _, rfl, p, L, dx, o, h, ti, tj, tk, tq, g, n, rfl, S.p, S.o, S.h, .inl (.inl (.inl S.r)), by omega, fun z H17 s17 hz => ?_⟩
        obtain rfl : z = true := hz.mpr bent
        refine ⟨_, rfl, iteF ?_⟩
        have S := S.same s17
        clear s17
        refine ⟨_, rfl, _, _, _, _, _, rfl, .own CS, .base (.ins S.p RC.cl IC.ha IO.hn IO.ht IC.hm), kCS, false, rfl, iteF ?_⟩
        refine iteF ?_
        try dsimp only [tNext]
        refine sTest_via (fun b H' => b = false ∧ SC K H' dr sc Pt ns CC L g n p dx o h ti tj tk tq) (fun Q' k => ?_) ?_
        · refine ⟨_, rfl, _, _, _, _, _, rfl, .own CC, .base (.ins S.p RC.cl IC.ha IO.hn IO.ht IC.hm), IC.own, true, rfl, iteT ?_⟩
          refine ⟨_, rfl, _, _, rfl, rfl, _, rfl, ?_⟩
          by_cases n9 : (n : Int) < 9
          · rw [decide_eq_true n9]
            refine iteT ?_
            refine ⟨1, 6, rfl, ⟨by decide, by decide, by decide, by decide⟩, fun D nD => lc_range (lo := 1) (n := ((6 : Int) - 1).toNat) (fun c H' => Same H17 H' ∧ H' D = some (.lst ((List.replicate c false).map V.bl))) ⟨same_upd nD, upd_same⟩ ?_ ?_⟩
            · rintro c H18 hc ⟨s18, hD⟩
              refine ⟨rfl, tYes_in ?_⟩
              refine ⟨_, rfl, _, rfl, L, 1 + (c : Int), g, n, rfl, .inl (.inl (S.same s18).r), n2, by omega, gb, by omega, by omega, fun z H19 s19 hz => ?_⟩
              obtain rfl : z = false := by
                cases z with
                | false => rfl
                | true =>
                  obtain ⟨a', fa⟩ := hz rfl
                  exact absurd ⟨a', 1 + (c : Int), by omega, fa⟩ nf
              refine ⟨_, s19 _ _ hD, ?_, same_keep nD (s18.trans s19) (Keep.upd D _ _), ?_⟩
              · rw [List.length_map, List.length_replicate]
                exact small1000 (by omega)
              · rw [upd_same, List.replicate_succ', List.map_append]
                rfl
            rintro H18 ⟨s18, hD⟩
            refine ⟨D, _, rfl, .inl (.inl hD), _, rfl, ?_⟩
            rw [any_false]
            exact k _ _ ⟨rfl, S.same s18⟩
          · rw [decide_eq_false n9]
            exact iteF (k _ _ ⟨rfl, S⟩)
        clear S
        rintro _ H18 ⟨rfl, S⟩
        refine iteF ?_
        refine ⟨_, rfl, _, rfl, dr, sc, n, ns, rfl, S.G.D, by omega, fun u H19 u0 u1 K19 D19 => ?_⟩
        have S := S.keep K19 D19 nLd
        refine ⟨_, rfl, _, rfl, dr, sc, n, ns, rfl, D19, by omega, fun v H20 v0 v1 K20 D20 => ?_⟩
        have S := S.keep K20 D20 nLd
        refine ⟨by show 2 ≤ sizeLine; decide, fun tw ntw => ?_⟩
        have S := S.same (same_upd (o := .tup [.int u, .int v]) ntw)
        have hw : SqT K (upd H20 tw (.tup [.int u, .int v])) tw [.int u, .int v] := .inl (.inl upd_same)
        generalize upd H20 tw (.tup [.int u, .int v]) = H21 at *
        clear K19 D19 K20 D20 ntw
        refine ⟨_, rfl, p, CC, dx, _, _, rfl, S.p, RC.cl, RC.nh, rfl, _, _, rfl, ?_⟩
        dsimp only [gName]
        refine tIf_via (fun y H' => ∃ x, y = .ref x ∧ SC K H' dr sc Pt ns CC L g n p dx o h ti tj tk tq ∧ SqT K H' tw [.int u, .int v] ∧ ∃ dy, H' x = some (.ins CC dy [("low", .ref tw), ("high", .ref h)])) (fun Q' k => ?_) ?_
        · refine ⟨_, rfl, dr, sc, 2, ns, rfl, S.G.D, by decide, fun r1 H22 _ _ K22 D22 => ?_⟩
          have hw2 : SqT K H22 tw [.int u, .int v] := by
            obtain ⟨zs, hd⟩ := draw_lst S.G.D
            exact keep_tupD K22 hd hw
          have S := S.keep K22 D22 nLd
          have fin : ∀ y dy, H22 y = none → H22 dy = none → dy ≠ y → ∀ H7, Keep y (upd (upd H22 dy (.own y)) y (.ins CC dy [])) H7 → H7 y = some (.ins CC dy [("low", .ref tw), ("high", .ref h)]) → Q' (.ref y) H7 := fun y dy ny ndy ney H7 k7 hy =>
            have s7 := same_make ny ndy ney k7
            k _ _ ⟨y, rfl, S.same s7, Same.tup s7 hw2, dy, hy⟩
          refine ⟨rfl, _, rfl, ite2 (fun _ => ?_) (fun _ => ?_)⟩
          · exact iteT ⟨_, rfl, _, rfl, fun y dy ny ndy ney => ⟨y, dy, .ref tw, .ref h, rfl, upd_same, fun H7 k7 hy => ⟨rfl, fin y dy ny ndy ney H7 k7 hy⟩⟩⟩
          · refine ⟨_, rfl, _, _, _, _, _, rfl, .own CC, .base (.ins S.p RC.cl IC.ha IO.hn IO.ht IC.hm), IC.own, true, rfl, ?_⟩
            exact iteT ⟨_, rfl, _, rfl, fun y dy ny ndy ney => ⟨y, dy, .ref tw, .ref h, rfl, upd_same, fun H7 k7 hy => ⟨rfl, fin y dy ny ndy ney H7 k7 hy⟩⟩⟩
        clear S hw
        rintro _ H22 ⟨x, rfl, S, hw, dy, hx⟩
        refine .inr ⟨_, rfl, x, dy, _, rfl, hx, rfl, _, rfl, x, L, dy, tw, h, u, v, tk, tq, g, n, rfl, hx, hw, S.h, .inl (.inl (.inl S.r)), by omega, fun z1 H23 s23 hz1 => ?_⟩
        have S := S.same s23
        have hx := s23 _ _ hx
        have hw := Same.tup s23 hw
        refine ⟨_, rfl, _, rfl, L, x, g, n, rfl, .inl (.inl S.r), by omega, by omega, .inr ⟨dy, tw, h, u, v, tk, tq, hx, hw, S.h, fun z2 H24 s24 hz2 => ?_⟩⟩
        have S := S.same s24
        have hx := s24 _ _ hx
        have hw := Same.tup s24 hw
        obtain rfl : z1 = z2 := Bool.eq_iff_iff.mpr (hz1.trans hz2.symm)
        refine ⟨rfl, _, rfl, ?_⟩
        rw [decide_eq_true rfl]
        refine iteF ?_
        refine ⟨_, rfl, _, rfl, .inr (.inl ⟨x, dy, _, rfl, hx, .ins S.p, x, p, dy, dx, tw, h, u, v, tk, tq, rfl, hx, hw, S.h, .inl ⟨o, ti, tj, S.p, S.o, _, rfl, ?_⟩⟩)⟩
        refine ⟨_, rfl, _, _, _, _, _, rfl, .own CS, .base (.ins hx RC.cl IC.ha IO.hn IO.ht IC.hm), kCS, ?_⟩
        refine ⟨_, rfl, _, _, _, _, _, rfl, .own CS, .base (.ins S.p RC.cl IC.ha IO.hn IO.ht IC.hm), kCS, rfl, _, rfl, ?_⟩
        refine iteT ?_
        refine ⟨_, rfl, x, CC, dy, _, _, rfl, hx, RC.cl, RC.no, rfl, _, rfl, p, CC, dx, _, _, rfl, S.p, RC.cl, RC.no, rfl, _, _, pair_dp hw, pair_dp S.o, rfl, rfl, ?_⟩
        rw [pair_eqv]
        refine ⟨rfl, _, rfl, ?_⟩
        rw [decide_eq_true rfl]
        refine iteF ?_
        refine ⟨_, rfl, _, _, _, _, _, rfl, .own CS, .base (.ins S.p RC.cl IC.ha IO.hn IO.ht IC.hm), kCS, false, rfl, iteF ?_⟩
        exact ⟨S.G, _, _, _, _, _, _, _, _, _, rfl, fun _ => ⟨L, g, n, rfl, S.r, nLd, n2, n61⟩⟩
    · rintro σ H1 ⟨G1, y2, y3, y4, y5, y6, y7, y8, y9, y10, rfl, h5⟩
      obtain ⟨L, g, n, rfl, hL, nLd, n2, n61⟩ := h5 (by decide)
      clear h5
      -- at, bad
      refine ⟨_, rfl, _, rfl, L, _, rfl, .inl (.inl hL), dr, sc, _, ns, rfl, G1.D, by rw [rowL_len]; omega, fun at_ H2 at0 at1 K2 D2 => ?_⟩
      rw [rowL_len] at at1
      have G2 := G1.keep K2 D2
      have hL2 := K2 _ _ nLd hL
      refine ⟨_, rfl, by show 1 ≤ sizeLine; decide, fun tb ntb => ?_⟩
      have s3 := same_upd (o := .tup [.int 1]) ntb
      have h3 : upd H2 tb (.tup [.int 1]) tb = _ := upd_same
      generalize upd H2 tb (.tup [.int 1]) = H3 at *
      refine ⟨by show 4 ≤ sizeLine; decide, fun lb nlb => ?_⟩
      have s4 := same_upd (o := .lst [.non, .str "1", .bl true, .ref tb]) nlb
      have h4 : upd H3 lb (.lst [.non, .str "1", .bl true, .ref tb]) lb = _ := upd_same
      have nlbd : lb ≠ dr := fun e => by
        obtain ⟨zs, z⟩ := draw_lst (D2.same s3)
        rw [e, z] at nlb
        cases nlb
      generalize upd H3 lb (.lst [.non, .str "1", .bl true, .ref tb]) = H4 at *
      have G4 := (G2.same s3).same s4
      have hL4 := s4 _ _ (s3 _ _ hL2)
      have htb4 := s4 _ _ h3
      refine ⟨dr, sc, lb, ns, _, rfl, G4.D, nlbd, .inl (.inl h4), by show 0 < 4; decide, fun bad H5 hv K5 D5 => ?_⟩
      have G5 := G4.keep K5 D5
      have hL5 := K5 _ _ nLd hL4
      have htb5 := K5 _ _ (fun e => by
        obtain ⟨zs, z⟩ := draw_lst G4.D
        rw [e, z] at htb4
        cases htb4) htb4
      have hvb : bad ∈ [V.non, V.str "1", V.bl true, V.ref tb] := hv
      clear hv
      refine ⟨by show 2 ≤ sizeLine; decide, fun tp ntp => ?_⟩
      refine ⟨tp, _, rfl, .inl (.inl upd_same), rfl, _, _, rfl, _, _, rfl, rfl, ?_⟩
      have s6 := same_upd (o := .tup [.int at_, bad]) ntp
      generalize upd H5 tp (.tup [.int at_, bad]) = H6 at *
      have G6 := G5.same s6
      have hL6 := s6 _ _ hL5
      have ob6 : OneBad H6 tb bad := ⟨s6 _ _ htb5, hvb⟩
      obtain ⟨j, rfl⟩ := Int.eq_ofNat_of_zero_le at0
      have jn : j < n := by omega
      -- the lambda
      refine ⟨fun p hp => by rw [List.mem_singleton.mp hp]; exact G6.T, fun H7 e7 T7 => ?_⟩
      have hL7 := e7 _ _ hL6 fun _ z => nomatch z
      have D7 := ext_draw e7 G6.D
      have T7 : TabS H7 Pt qLam := T7 _ hmT
      have ob7 : OneBad H7 tb bad := ⟨e7 _ _ ob6.1 (fun _ z => nomatch z), ob6.2⟩
      refine ⟨_, rfl, _, rfl, _, rfl, L, _, rfl, .inl (.inl hL7), fun p8 n8 => ?_⟩
      have s8 := same_upd (o := .lst (cutV (rowL g n) none (some (j : Int)))) n8
      have h8 : upd H7 p8 (.lst (cutV (rowL g n) none (some (j : Int)))) p8 = _ := upd_same
      generalize upd H7 p8 (.lst (cutV (rowL g n) none (some (j : Int)))) = H8 at *
      rw [cut_take (by rw [rowL_len]; omega)] at h8
      refine ⟨_, rfl, by show 1 ≤ sizeLine; decide, fun p9 n9 => ?_⟩
      have s9 := same_upd (o := .lst [bad]) n9
      have h9 : upd H8 p9 (.lst [bad]) p9 = _ := upd_same
      generalize upd H8 p9 (.lst [bad]) = H9 at *
      have tl : ((rowL g n).take j).length = j := by
        rw [List.length_take, rowL_len]
        omega
      refine ⟨p8, p9, _, _, rfl, rfl, s9 _ _ h8, h9, by rw [tl]; show j + 1 ≤ sizeLine; exact Nat.le_of_lt (small1000 (by omega)), fun p10 n10 => ?_⟩
      have s10 := same_upd (o := .lst ((rowL g n).take j ++ [bad])) n10
      have h10 : upd H9 p10 (.lst ((rowL g n).take j ++ [bad])) p10 = _ := upd_same
      generalize upd H9 p10 (.lst ((rowL g n).take j ++ [bad])) = H10 at *
      have s710 := s8.trans (s9.trans s10)
      refine ⟨_, rfl, _, rfl, _, _, rfl, rfl, _, rfl, L, _, rfl, .inl (.inl (s710 _ _ hL7)), fun p11 n11 => ?_⟩
      generalize hc : cutV (rowL g n) (some ((j : Int) + 1)) none = rest at *
      have rl : rest.length ≤ 61 := by
        rw [← hc]
        have := cutV_length (rowL g n) (some ((j : Int) + 1)) none
        rw [rowL_len] at this
        omega
      have s11 := same_upd (o := .lst rest) n11
      have h11 : upd H10 p11 (.lst rest) p11 = _ := upd_same
      generalize upd H10 p11 (.lst rest) = H11 at *
      refine ⟨p10, p11, _, _, rfl, rfl, s11 _ _ h10, h11, ?_, fun p12 n12 => ?_⟩
      · rw [List.length_append, tl]
        show j + 1 + rest.length ≤ sizeLine
        exact Nat.le_of_lt (small1000 (by omega))
      have s12 := same_upd (o := .lst ((rowL g n).take j ++ [bad] ++ rest)) n12
      have h12 : upd H11 p12 (.lst ((rowL g n).take j ++ [bad] ++ rest)) p12 = _ := upd_same
      generalize upd H11 p12 (.lst ((rowL g n).take j ++ [bad] ++ rest)) = H12 at *
      have s712 := s710.trans (s11.trans s12)
      have ob12 : OneBad H12 tb bad := ⟨s712 _ _ ob7.1, ob7.2⟩
      obtain ⟨d12, nb12, _⟩ := one_bad (K := K) ob12
      refine ⟨p12, _, rfl, .inl (.inl (.inl h12)), .inr ⟨j, bad, ?_, fun k x hk hx => ?_, nb12, fun d H' s' hd => .inl ⟨rfl, d, bad, rfl, hd, fun t nt => ?_⟩⟩⟩
      · rw [List.append_assoc, List.getElem?_append_right (by rw [tl]; exact Nat.le_refl j), tl, Nat.sub_self]
        rfl
      · rw [List.append_assoc, List.getElem?_append_left (by rw [tl]; exact hk), List.getElem?_take_of_lt hk, rowL_at (by omega)] at hx
        exact ⟨_, (Option.some.inj hx).symm⟩
      have s13 := (s712.trans s').trans (same_upd (o := .tup [.str "number", bad]) nt)
      have h13 : upd H' t (.tup [.str "number", bad]) t = _ := upd_same
      generalize upd H' t (.tup [.str "number", bad]) = H13 at *
      refine ⟨_, rfl, by show 2 ≤ sizeLine; decide, fun t2 n2 => ?_⟩
      have s14 := same_upd (o := .tup [.str "number", bad]) n2
      have h14 : upd H13 t2 (.tup [.str "number", bad]) t2 = _ := upd_same
      generalize upd H13 t2 (.tup [.str "number", bad]) = H14 at *
      have s714 := s13.trans s14
      obtain ⟨dd, nb, db, ev, sh⟩ := one_bad (K := K) (⟨s714 _ _ ob7.1, ob7.2⟩ : OneBad H14 tb bad)
      refine ⟨_, _, .tup (.inl (.inl (s14 _ _ h13))) (.cons (.str _) (.cons db .nil)), .tup (.inl (.inl h14)) (.cons (.str _) (.cons db .nil)), sh, sh, _, rfl, ?_⟩
      rw [ev]
      refine iteF ?_
      have G14 : Go K H14 dr sc Pt ns := ⟨D7.same s714, T7.ext s714⟩
      clear s8 h8 s9 h9 s10 h10 s710 s11 h11 s12 h12 s712 ob12 nb12 s13 h13 s14 h14 hd s'
      -- long
      refine ⟨_, rfl, by show 5 ≤ sizeLine; decide, fun ll nll => ?_⟩
      have s15 := same_upd (o := .lst [.int 0, .int 1, .int 200, .int 201, .int 240]) nll
      have h15 : upd H14 ll (.lst [.int 0, .int 1, .int 200, .int 201, .int 240]) ll = _ := upd_same
      have nlld : ll ≠ dr := fun e => by
        obtain ⟨zs, z⟩ := draw_lst G14.D
        rw [e, z] at nll
        cases nll
      generalize upd H14 ll (.lst [.int 0, .int 1, .int 200, .int 201, .int 240]) = H15 at *
      have G15 := G14.same s15
      refine ⟨dr, sc, ll, ns, _, rfl, G15.D, nlld, .inl (.inl h15), by show 0 < 5; decide, fun v H16 hv K16 D16 => ?_⟩
      have G16 := G15.keep K16 D16
      obtain ⟨z, hz, rfl⟩ : ∃ z : Nat, (z = 0 ∨ z = 1 ∨ z = 200 ∨ z = 201 ∨ z = 240) ∧ v = .int (z : Int) := by
        have hv : v ∈ [V.int 0, V.int 1, V.int 200, V.int 201, V.int 240] := hv
        simp only [List.mem_cons, List.not_mem_nil, or_false] at hv
        rcases hv with rfl | rfl | rfl | rfl | rfl
        · exact ⟨0, by omega, rfl⟩
        · exact ⟨1, by omega, rfl⟩
        · exact ⟨200, by omega, rfl⟩
        · exact ⟨201, by omega, rfl⟩
        · exact ⟨240, by omega, rfl⟩
      refine ⟨_, rfl, by omega, by omega, fun D nD => lc_range (lo := 0) (n := (z : Int).toNat) (fun c H' => Same H16 H' ∧ H' D = some (.lst (rowL (fun x => (x : Int) / 3) c))) ⟨same_upd nD, upd_same⟩ ?_ ?_⟩
      · rintro c H5 hc ⟨s5, hD⟩
        refine ⟨rfl, tYes_in ?_⟩
        refine ⟨_, rfl, _, _, rfl, rfl, divOk (by decide) (by decide), _, hD, ?_, same_keep nD s5 (Keep.upd D _ _), ?_⟩
        · rw [rowL_len]
          exact small1000 (by omega)
        · rw [upd_same, rowL_snoc, Int.zero_add]
      rintro H17 ⟨s17, hD⟩
      rw [Int.toNat_natCast] at hD
      have G17 := G16.same s17
      refine ⟨fun p hp => by rw [List.mem_singleton.mp hp]; exact G17.T, fun H18 e18 T18 => ?_⟩
      have hD18 := e18 _ _ hD fun _ z => nomatch z
      refine ⟨_, rfl, D, _, rfl, .inl (.inl (.inl hD18)), .inl ⟨fun x => (x : Int) / 3, z, rfl, ?_⟩⟩
      by_cases ok : 2 ≤ z ∧ z ≤ 200
      · refine .inl ⟨ok.1, ok.2, fun p H' s' _ => ?_⟩
        have hD' := s' _ _ hD18
        refine ⟨_, rfl, D, _, rfl, .inl (.inl hD'), _, _, rfl, rfl, _, rfl, ?_⟩
        rw [decide_eq_true (show (2 : Int) ≤ ((rowL (fun x => (x : Int) / 3) z).length : Int) by rw [rowL_len]; omega)]
        refine iteT ?_
        refine ⟨_, _, rfl, rfl, _, rfl, ?_⟩
        rw [decide_eq_true (show ((rowL (fun x => (x : Int) / 3) z).length : Int) ≤ (200 : Int) by rw [rowL_len]; omega)]
        refine iteT (.inr ⟨rfl, ?_⟩)
        rw [decide_eq_true rfl]
        exact qq _
      · refine .inr ⟨by omega, fun d H' s' hd => .inr ⟨rfl, d, _, rfl, hd, fun t nt => ?_⟩⟩
        have hD' := (s'.trans (same_upd (o := .tup [.str "large", .int (z : Int)]) nt)) _ _ hD18
        have ht : upd H' t (.tup [.str "large", .int (z : Int)]) t = _ := upd_same
        generalize upd H' t (.tup [.str "large", .int (z : Int)]) = H19 at *
        refine ⟨_, rfl, D, _, rfl, .inl (.inl hD'), _, _, rfl, rfl, _, rfl, ?_⟩
        by_cases z2 : 2 ≤ z
        · rw [decide_eq_true (show (2 : Int) ≤ ((rowL (fun x => (x : Int) / 3) z).length : Int) by rw [rowL_len]; omega)]
          refine iteT ?_
          refine ⟨_, _, rfl, rfl, _, rfl, ?_⟩
          rw [decide_eq_false (show ¬ ((rowL (fun x => (x : Int) / 3) z).length : Int) ≤ (200 : Int) by rw [rowL_len]; omega)]
          refine iteF ?_
          refine ⟨_, rfl, D, _, rfl, .inl (.inl hD'), by show 2 ≤ sizeLine; decide, fun t2 n2 => .inl ?_⟩
          have s20 := same_upd (o := .tup [.str "large", .int ((rowL (fun x => (x : Int) / 3) z).length : Int)]) n2
          refine ⟨_, _, .tup (.inl (.inl (s20 _ _ ht))) (.cons (.str _) (.cons (.int _) .nil)), .tup (.inl (.inl upd_same)) (.cons (.str _) (.cons (.int _) .nil)), large_shaped _, large_shaped _, ?_⟩
          rw [rowL_len, large_eqv]
          exact qq _
        · rw [decide_eq_false (show ¬ (2 : Int) ≤ ((rowL (fun x => (x : Int) / 3) z).length : Int) by rw [rowL_len]; omega)]
          refine iteF ?_
          refine ⟨_, rfl, ?_⟩
          refine iteF ?_
          refine ⟨_, rfl, D, _, rfl, .inl (.inl hD'), by show 2 ≤ sizeLine; decide, fun t2 n2 => .inl ?_⟩
          have s20 := same_upd (o := .tup [.str "large", .int ((rowL (fun x => (x : Int) / 3) z).length : Int)]) n2
          refine ⟨_, _, .tup (.inl (.inl (s20 _ _ ht))) (.cons (.str _) (.cons (.int _) .nil)), .tup (.inl (.inl upd_same)) (.cons (.str _) (.cons (.int _) .nil)), large_shaped _, large_shaped _, ?_⟩
          rw [rowL_len, large_eqv]
          exact qq _
end
end K14

namespace K14
open PySem PySem.Spec PyProof.Rows L2 My
/-! ### what the top has written -/
open PySem.W PySem.Calls PySem.HandSPX in
theorem all_mk {l : PySem.W.OpenLaw} {w : World} {K : PySem.W.Frag} {h : Heap} {mg : Str → Option Value} {fa C_Line_ C_Stairs_ C_Crooked_ C_BadNumber_ C_TooLarge_ cdA Pt : Addr} (X : K.In h) (G : h.Ns mainGlobals mg) (hfa : mg "law" = some (.ref fa)) (own : LamX.OwnTab K fa h)
    {f_is_number : Addr} {od_is_number an_is_number : Option Addr} {sl_is_number : Array (Option Value)} {oc_is_number kV_is_number dc_is_number pm_is_number cd_is_number ct_is_number : Value}
    (a_is_number : PySem.W.nsIn K mainGlobals "is_number" = some (some (.ref f_is_number)))
    (l_is_number : K.lookup f_is_number = some ⟨oc_is_number, od_is_number, .func (PySem.W.fnOf "is_number" "is_number" (defArgs s_is_number) (defBody s_is_number) (defScope s_is_number) .none kV_is_number dc_is_number pm_is_number an_is_number cd_is_number ct_is_number), sl_is_number⟩)
    (c_is_number : PySem.W.codeIn K cd_is_number "is_number" = true)
    (k_is_number : PySem.W.keepIn K (.ref f_is_number) = true)
    {f_check_numbers : Addr} {od_check_numbers an_check_numbers : Option Addr} {sl_check_numbers : Array (Option Value)} {oc_check_numbers kV_check_numbers dc_check_numbers pm_check_numbers cd_check_numbers ct_check_numbers : Value}
    (a_check_numbers : PySem.W.nsIn K mainGlobals "check_numbers" = some (some (.ref f_check_numbers)))
    (l_check_numbers : K.lookup f_check_numbers = some ⟨oc_check_numbers, od_check_numbers, .func (PySem.W.fnOf "check_numbers" "check_numbers" (defArgs s_check_numbers) (defBody s_check_numbers) (defScope s_check_numbers) .none kV_check_numbers dc_check_numbers pm_check_numbers an_check_numbers cd_check_numbers ct_check_numbers), sl_check_numbers⟩)
    (c_check_numbers : PySem.W.codeIn K cd_check_numbers "check_numbers" = true)
    (k_check_numbers : PySem.W.keepIn K (.ref f_check_numbers) = true)
    {f_check_from : Addr} {od_check_from an_check_from : Option Addr} {sl_check_from : Array (Option Value)} {oc_check_from kV_check_from dc_check_from pm_check_from cd_check_from ct_check_from : Value}
    (a_check_from : PySem.W.nsIn K mainGlobals "check_from" = some (some (.ref f_check_from)))
    (l_check_from : K.lookup f_check_from = some ⟨oc_check_from, od_check_from, .func (PySem.W.fnOf "check_from" "check_from" (defArgs s_check_from) (defBody s_check_from) (defScope s_check_from) .none kV_check_from dc_check_from pm_check_from an_check_from cd_check_from ct_check_from), sl_check_from⟩)
    (c_check_from : PySem.W.codeIn K cd_check_from "check_from" = true)
    (k_check_from : PySem.W.keepIn K (.ref f_check_from) = true)
    {f_is_pair : Addr} {od_is_pair an_is_pair : Option Addr} {sl_is_pair : Array (Option Value)} {oc_is_pair kV_is_pair dc_is_pair pm_is_pair cd_is_pair ct_is_pair : Value}
    (a_is_pair : PySem.W.nsIn K mainGlobals "is_pair" = some (some (.ref f_is_pair)))
    (l_is_pair : K.lookup f_is_pair = some ⟨oc_is_pair, od_is_pair, .func (PySem.W.fnOf "is_pair" "is_pair" (defArgs s_is_pair) (defBody s_is_pair) (defScope s_is_pair) .none kV_is_pair dc_is_pair pm_is_pair an_is_pair cd_is_pair ct_is_pair), sl_is_pair⟩)
    (c_is_pair : PySem.W.codeIn K cd_is_pair "is_pair" = true)
    (k_is_pair : PySem.W.keepIn K (.ref f_is_pair) = true)
    {f_below : Addr} {od_below an_below : Option Addr} {sl_below : Array (Option Value)} {oc_below kV_below dc_below pm_below cd_below ct_below : Value}
    (a_below : PySem.W.nsIn K mainGlobals "below" = some (some (.ref f_below)))
    (l_below : K.lookup f_below = some ⟨oc_below, od_below, .func (PySem.W.fnOf "below" "below" (defArgs s_below) (defBody s_below) (defScope s_below) .none kV_below dc_below pm_below an_below cd_below ct_below), sl_below⟩)
    (c_below : PySem.W.codeIn K cd_below "below" = true)
    (k_below : PySem.W.keepIn K (.ref f_below) = true)
    {f_floor_of : Addr} {od_floor_of an_floor_of : Option Addr} {sl_floor_of : Array (Option Value)} {oc_floor_of kV_floor_of dc_floor_of pm_floor_of cd_floor_of ct_floor_of : Value}
    (a_floor_of : PySem.W.nsIn K mainGlobals "floor_of" = some (some (.ref f_floor_of)))
    (l_floor_of : K.lookup f_floor_of = some ⟨oc_floor_of, od_floor_of, .func (PySem.W.fnOf "floor_of" "floor_of" (defArgs s_floor_of) (defBody s_floor_of) (defScope s_floor_of) .none kV_floor_of dc_floor_of pm_floor_of an_floor_of cd_floor_of ct_floor_of), sl_floor_of⟩)
    (c_floor_of : PySem.W.codeIn K cd_floor_of "floor_of" = true)
    (k_floor_of : PySem.W.keepIn K (.ref f_floor_of) = true)
    {f_simplest_between : Addr} {od_simplest_between an_simplest_between : Option Addr} {sl_simplest_between : Array (Option Value)} {oc_simplest_between kV_simplest_between dc_simplest_between pm_simplest_between cd_simplest_between ct_simplest_between : Value}
    (a_simplest_between : PySem.W.nsIn K mainGlobals "simplest_between" = some (some (.ref f_simplest_between)))
    (l_simplest_between : K.lookup f_simplest_between = some ⟨oc_simplest_between, od_simplest_between, .func (PySem.W.fnOf "simplest_between" "simplest_between" (defArgs s_simplest_between) (defBody s_simplest_between) (defScope s_simplest_between) .none kV_simplest_between dc_simplest_between pm_simplest_between an_simplest_between cd_simplest_between ct_simplest_between), sl_simplest_between⟩)
    (c_simplest_between : PySem.W.codeIn K cd_simplest_between "simplest_between" = true)
    (k_simplest_between : PySem.W.keepIn K (.ref f_simplest_between) = true)
    {f_are_places : Addr} {od_are_places an_are_places : Option Addr} {sl_are_places : Array (Option Value)} {oc_are_places kV_are_places dc_are_places pm_are_places cd_are_places ct_are_places : Value}
    (a_are_places : PySem.W.nsIn K mainGlobals "are_places" = some (some (.ref f_are_places)))
    (l_are_places : K.lookup f_are_places = some ⟨oc_are_places, od_are_places, .func (PySem.W.fnOf "are_places" "are_places" (defArgs s_are_places) (defBody s_are_places) (defScope s_are_places) .none kV_are_places dc_are_places pm_are_places an_are_places cd_are_places ct_are_places), sl_are_places⟩)
    (c_are_places : PySem.W.codeIn K cd_are_places "are_places" = true)
    (k_are_places : PySem.W.keepIn K (.ref f_are_places) = true)
    {f_has_numbers : Addr} {od_has_numbers an_has_numbers : Option Addr} {sl_has_numbers : Array (Option Value)} {oc_has_numbers kV_has_numbers dc_has_numbers pm_has_numbers cd_has_numbers ct_has_numbers : Value}
    (a_has_numbers : PySem.W.nsIn K mainGlobals "has_numbers" = some (some (.ref f_has_numbers)))
    (l_has_numbers : K.lookup f_has_numbers = some ⟨oc_has_numbers, od_has_numbers, .func (PySem.W.fnOf "has_numbers" "has_numbers" (defArgs s_has_numbers) (defBody s_has_numbers) (defScope s_has_numbers) .none kV_has_numbers dc_has_numbers pm_has_numbers an_has_numbers cd_has_numbers ct_has_numbers), sl_has_numbers⟩)
    (c_has_numbers : PySem.W.codeIn K cd_has_numbers "has_numbers" = true)
    (k_has_numbers : PySem.W.keepIn K (.ref f_has_numbers) = true)
    {f_lower_bound : Addr} {od_lower_bound an_lower_bound : Option Addr} {sl_lower_bound : Array (Option Value)} {oc_lower_bound kV_lower_bound dc_lower_bound pm_lower_bound cd_lower_bound ct_lower_bound : Value}
    (a_lower_bound : PySem.W.nsIn K mainGlobals "lower_bound" = some (some (.ref f_lower_bound)))
    (l_lower_bound : K.lookup f_lower_bound = some ⟨oc_lower_bound, od_lower_bound, .func (PySem.W.fnOf "lower_bound" "lower_bound" (defArgs s_lower_bound) (defBody s_lower_bound) (defScope s_lower_bound) .none kV_lower_bound dc_lower_bound pm_lower_bound an_lower_bound cd_lower_bound ct_lower_bound), sl_lower_bound⟩)
    (c_lower_bound : PySem.W.codeIn K cd_lower_bound "lower_bound" = true)
    (k_lower_bound : PySem.W.keepIn K (.ref f_lower_bound) = true)
    {f_upper_bound : Addr} {od_upper_bound an_upper_bound : Option Addr} {sl_upper_bound : Array (Option Value)} {oc_upper_bound kV_upper_bound dc_upper_bound pm_upper_bound cd_upper_bound ct_upper_bound : Value}
    (a_upper_bound : PySem.W.nsIn K mainGlobals "upper_bound" = some (some (.ref f_upper_bound)))
    (l_upper_bound : K.lookup f_upper_bound = some ⟨oc_upper_bound, od_upper_bound, .func (PySem.W.fnOf "upper_bound" "upper_bound" (defArgs s_upper_bound) (defBody s_upper_bound) (defScope s_upper_bound) .none kV_upper_bound dc_upper_bound pm_upper_bound an_upper_bound cd_upper_bound ct_upper_bound), sl_upper_bound⟩)
    (c_upper_bound : PySem.W.codeIn K cd_upper_bound "upper_bound" = true)
    (k_upper_bound : PySem.W.keepIn K (.ref f_upper_bound) = true)
    {f_least_offset : Addr} {od_least_offset an_least_offset : Option Addr} {sl_least_offset : Array (Option Value)} {oc_least_offset kV_least_offset dc_least_offset pm_least_offset cd_least_offset ct_least_offset : Value}
    (a_least_offset : PySem.W.nsIn K mainGlobals "least_offset" = some (some (.ref f_least_offset)))
    (l_least_offset : K.lookup f_least_offset = some ⟨oc_least_offset, od_least_offset, .func (PySem.W.fnOf "least_offset" "least_offset" (defArgs s_least_offset) (defBody s_least_offset) (defScope s_least_offset) .none kV_least_offset dc_least_offset pm_least_offset an_least_offset cd_least_offset ct_least_offset), sl_least_offset⟩)
    (c_least_offset : PySem.W.codeIn K cd_least_offset "least_offset" = true)
    (k_least_offset : PySem.W.keepIn K (.ref f_least_offset) = true)
    {f_stairs : Addr} {od_stairs an_stairs : Option Addr} {sl_stairs : Array (Option Value)} {oc_stairs kV_stairs dc_stairs pm_stairs cd_stairs ct_stairs : Value}
    (a_stairs : PySem.W.nsIn K mainGlobals "stairs" = some (some (.ref f_stairs)))
    (l_stairs : K.lookup f_stairs = some ⟨oc_stairs, od_stairs, .func (PySem.W.fnOf "stairs" "stairs" (defArgs s_stairs) (defBody s_stairs) (defScope s_stairs) .none kV_stairs dc_stairs pm_stairs an_stairs cd_stairs ct_stairs), sl_stairs⟩)
    (c_stairs : PySem.W.codeIn K cd_stairs "stairs" = true)
    (k_stairs : PySem.W.keepIn K (.ref f_stairs) = true)
    {f_stairs_of : Addr} {od_stairs_of an_stairs_of : Option Addr} {sl_stairs_of : Array (Option Value)} {oc_stairs_of kV_stairs_of dc_stairs_of pm_stairs_of cd_stairs_of ct_stairs_of : Value}
    (a_stairs_of : PySem.W.nsIn K mainGlobals "stairs_of" = some (some (.ref f_stairs_of)))
    (l_stairs_of : K.lookup f_stairs_of = some ⟨oc_stairs_of, od_stairs_of, .func (PySem.W.fnOf "stairs_of" "stairs_of" (defArgs s_stairs_of) (defBody s_stairs_of) (defScope s_stairs_of) .none kV_stairs_of dc_stairs_of pm_stairs_of an_stairs_of cd_stairs_of ct_stairs_of), sl_stairs_of⟩)
    (c_stairs_of : PySem.W.codeIn K cd_stairs_of "stairs_of" = true)
    (k_stairs_of : PySem.W.keepIn K (.ref f_stairs_of) = true)
    {f__law_number : Addr} {od__law_number an__law_number : Option Addr} {sl__law_number : Array (Option Value)} {oc__law_number kV__law_number dc__law_number pm__law_number cd__law_number ct__law_number : Value}
    (a__law_number : PySem.W.nsIn K mainGlobals "_law_number" = some (some (.ref f__law_number)))
    (l__law_number : K.lookup f__law_number = some ⟨oc__law_number, od__law_number, .func (PySem.W.fnOf "_law_number" "_law_number" (defArgs s__law_number) (defBody s__law_number) (defScope s__law_number) .none kV__law_number dc__law_number pm__law_number an__law_number cd__law_number ct__law_number), sl__law_number⟩)
    (c__law_number : PySem.W.codeIn K cd__law_number "_law_number" = true)
    (k__law_number : PySem.W.keepIn K (.ref f__law_number) = true)
    {f__law_take : Addr} {od__law_take an__law_take : Option Addr} {sl__law_take : Array (Option Value)} {oc__law_take kV__law_take dc__law_take pm__law_take cd__law_take ct__law_take : Value}
    (a__law_take : PySem.W.nsIn K mainGlobals "_law_take" = some (some (.ref f__law_take)))
    (l__law_take : K.lookup f__law_take = some ⟨oc__law_take, od__law_take, .func (PySem.W.fnOf "_law_take" "_law_take" (defArgs s__law_take) (defBody s__law_take) (defScope s__law_take) .none kV__law_take dc__law_take pm__law_take an__law_take cd__law_take ct__law_take), sl__law_take⟩)
    (c__law_take : PySem.W.codeIn K cd__law_take "_law_take" = true)
    (k__law_take : PySem.W.keepIn K (.ref f__law_take) = true)
    {f__law_pick : Addr} {od__law_pick an__law_pick : Option Addr} {sl__law_pick : Array (Option Value)} {oc__law_pick kV__law_pick dc__law_pick pm__law_pick cd__law_pick ct__law_pick : Value}
    (a__law_pick : PySem.W.nsIn K mainGlobals "_law_pick" = some (some (.ref f__law_pick)))
    (l__law_pick : K.lookup f__law_pick = some ⟨oc__law_pick, od__law_pick, .func (PySem.W.fnOf "_law_pick" "_law_pick" (defArgs s__law_pick) (defBody s__law_pick) (defScope s__law_pick) .none kV__law_pick dc__law_pick pm__law_pick an__law_pick cd__law_pick ct__law_pick), sl__law_pick⟩)
    (c__law_pick : PySem.W.codeIn K cd__law_pick "_law_pick" = true)
    (k__law_pick : PySem.W.keepIn K (.ref f__law_pick) = true)
    {f__law_long : Addr} {od__law_long an__law_long : Option Addr} {sl__law_long : Array (Option Value)} {oc__law_long kV__law_long dc__law_long pm__law_long cd__law_long ct__law_long : Value}
    (a__law_long : PySem.W.nsIn K mainGlobals "_law_long" = some (some (.ref f__law_long)))
    (l__law_long : K.lookup f__law_long = some ⟨oc__law_long, od__law_long, .func (PySem.W.fnOf "_law_long" "_law_long" (defArgs s__law_long) (defBody s__law_long) (defScope s__law_long) .none kV__law_long dc__law_long pm__law_long an__law_long cd__law_long ct__law_long), sl__law_long⟩)
    (c__law_long : PySem.W.codeIn K cd__law_long "_law_long" = true)
    (k__law_long : PySem.W.keepIn K (.ref f__law_long) = true)
    {f__law_is_number : Addr} {od__law_is_number an__law_is_number : Option Addr} {sl__law_is_number : Array (Option Value)} {oc__law_is_number kV__law_is_number dc__law_is_number pm__law_is_number cd__law_is_number ct__law_is_number : Value}
    (a__law_is_number : PySem.W.nsIn K mainGlobals "_law_is_number" = some (some (.ref f__law_is_number)))
    (l__law_is_number : K.lookup f__law_is_number = some ⟨oc__law_is_number, od__law_is_number, .func (PySem.W.fnOf "_law_is_number" "_law_is_number" (defArgs s__law_is_number) (defBody s__law_is_number) (defScope s__law_is_number) .none kV__law_is_number dc__law_is_number pm__law_is_number an__law_is_number cd__law_is_number ct__law_is_number), sl__law_is_number⟩)
    (c__law_is_number : PySem.W.codeIn K cd__law_is_number "_law_is_number" = true)
    (k__law_is_number : PySem.W.keepIn K (.ref f__law_is_number) = true)
    {f__law_at : Addr} {od__law_at an__law_at : Option Addr} {sl__law_at : Array (Option Value)} {oc__law_at kV__law_at dc__law_at pm__law_at cd__law_at ct__law_at : Value}
    (a__law_at : PySem.W.nsIn K mainGlobals "_law_at" = some (some (.ref f__law_at)))
    (l__law_at : K.lookup f__law_at = some ⟨oc__law_at, od__law_at, .func (PySem.W.fnOf "_law_at" "_law_at" (defArgs s__law_at) (defBody s__law_at) (defScope s__law_at) .none kV__law_at dc__law_at pm__law_at an__law_at cd__law_at ct__law_at), sl__law_at⟩)
    (c__law_at : PySem.W.codeIn K cd__law_at "_law_at" = true)
    (k__law_at : PySem.W.keepIn K (.ref f__law_at) = true)
    {f__law_bounds_of : Addr} {od__law_bounds_of an__law_bounds_of : Option Addr} {sl__law_bounds_of : Array (Option Value)} {oc__law_bounds_of kV__law_bounds_of dc__law_bounds_of pm__law_bounds_of cd__law_bounds_of ct__law_bounds_of : Value}
    (a__law_bounds_of : PySem.W.nsIn K mainGlobals "_law_bounds_of" = some (some (.ref f__law_bounds_of)))
    (l__law_bounds_of : K.lookup f__law_bounds_of = some ⟨oc__law_bounds_of, od__law_bounds_of, .func (PySem.W.fnOf "_law_bounds_of" "_law_bounds_of" (defArgs s__law_bounds_of) (defBody s__law_bounds_of) (defScope s__law_bounds_of) .none kV__law_bounds_of dc__law_bounds_of pm__law_bounds_of an__law_bounds_of cd__law_bounds_of ct__law_bounds_of), sl__law_bounds_of⟩)
    (c__law_bounds_of : PySem.W.codeIn K cd__law_bounds_of "_law_bounds_of" = true)
    (k__law_bounds_of : PySem.W.keepIn K (.ref f__law_bounds_of) = true)
    {f__law_is_pair : Addr} {od__law_is_pair an__law_is_pair : Option Addr} {sl__law_is_pair : Array (Option Value)} {oc__law_is_pair kV__law_is_pair dc__law_is_pair pm__law_is_pair cd__law_is_pair ct__law_is_pair : Value}
    (a__law_is_pair : PySem.W.nsIn K mainGlobals "_law_is_pair" = some (some (.ref f__law_is_pair)))
    (l__law_is_pair : K.lookup f__law_is_pair = some ⟨oc__law_is_pair, od__law_is_pair, .func (PySem.W.fnOf "_law_is_pair" "_law_is_pair" (defArgs s__law_is_pair) (defBody s__law_is_pair) (defScope s__law_is_pair) .none kV__law_is_pair dc__law_is_pair pm__law_is_pair an__law_is_pair cd__law_is_pair ct__law_is_pair), sl__law_is_pair⟩)
    (c__law_is_pair : PySem.W.codeIn K cd__law_is_pair "_law_is_pair" = true)
    (k__law_is_pair : PySem.W.keepIn K (.ref f__law_is_pair) = true)
    {f__law_between : Addr} {od__law_between an__law_between : Option Addr} {sl__law_between : Array (Option Value)} {oc__law_between kV__law_between dc__law_between pm__law_between cd__law_between ct__law_between : Value}
    (a__law_between : PySem.W.nsIn K mainGlobals "_law_between" = some (some (.ref f__law_between)))
    (l__law_between : K.lookup f__law_between = some ⟨oc__law_between, od__law_between, .func (PySem.W.fnOf "_law_between" "_law_between" (defArgs s__law_between) (defBody s__law_between) (defScope s__law_between) .none kV__law_between dc__law_between pm__law_between an__law_between cd__law_between ct__law_between), sl__law_between⟩)
    (c__law_between : PySem.W.codeIn K cd__law_between "_law_between" = true)
    (k__law_between : PySem.W.keepIn K (.ref f__law_between) = true)
    {f__law_is_right : Addr} {od__law_is_right an__law_is_right : Option Addr} {sl__law_is_right : Array (Option Value)} {oc__law_is_right kV__law_is_right dc__law_is_right pm__law_is_right cd__law_is_right ct__law_is_right : Value}
    (a__law_is_right : PySem.W.nsIn K mainGlobals "_law_is_right" = some (some (.ref f__law_is_right)))
    (l__law_is_right : K.lookup f__law_is_right = some ⟨oc__law_is_right, od__law_is_right, .func (PySem.W.fnOf "_law_is_right" "_law_is_right" (defArgs s__law_is_right) (defBody s__law_is_right) (defScope s__law_is_right) .none kV__law_is_right dc__law_is_right pm__law_is_right an__law_is_right cd__law_is_right ct__law_is_right), sl__law_is_right⟩)
    (c__law_is_right : PySem.W.codeIn K cd__law_is_right "_law_is_right" = true)
    (k__law_is_right : PySem.W.keepIn K (.ref f__law_is_right) = true)
    {f__law_has_line : Addr} {od__law_has_line an__law_has_line : Option Addr} {sl__law_has_line : Array (Option Value)} {oc__law_has_line kV__law_has_line dc__law_has_line pm__law_has_line cd__law_has_line ct__law_has_line : Value}
    (a__law_has_line : PySem.W.nsIn K mainGlobals "_law_has_line" = some (some (.ref f__law_has_line)))
    (l__law_has_line : K.lookup f__law_has_line = some ⟨oc__law_has_line, od__law_has_line, .func (PySem.W.fnOf "_law_has_line" "_law_has_line" (defArgs s__law_has_line) (defBody s__law_has_line) (defScope s__law_has_line) .none kV__law_has_line dc__law_has_line pm__law_has_line an__law_has_line cd__law_has_line ct__law_has_line), sl__law_has_line⟩)
    (c__law_has_line : PySem.W.codeIn K cd__law_has_line "_law_has_line" = true)
    (k__law_has_line : PySem.W.keepIn K (.ref f__law_has_line) = true)
    {f__law_fault : Addr} {od__law_fault an__law_fault : Option Addr} {sl__law_fault : Array (Option Value)} {oc__law_fault kV__law_fault dc__law_fault pm__law_fault cd__law_fault ct__law_fault : Value}
    (a__law_fault : PySem.W.nsIn K mainGlobals "_law_fault" = some (some (.ref f__law_fault)))
    (l__law_fault : K.lookup f__law_fault = some ⟨oc__law_fault, od__law_fault, .func (PySem.W.fnOf "_law_fault" "_law_fault" (defArgs s__law_fault) (defBody s__law_fault) (defScope s__law_fault) .none kV__law_fault dc__law_fault pm__law_fault an__law_fault cd__law_fault ct__law_fault), sl__law_fault⟩)
    (c__law_fault : PySem.W.codeIn K cd__law_fault "_law_fault" = true)
    (k__law_fault : PySem.W.keepIn K (.ref f__law_fault) = true)
    {f_law : Addr} {od_law an_law : Option Addr} {sl_law : Array (Option Value)} {oc_law kV_law dc_law pm_law ct_law : Value}
    (a_law : PySem.W.nsIn K mainGlobals "law" = some (some (.ref f_law)))
    (l_law : K.lookup f_law = some ⟨oc_law, od_law, .func (PySem.W.fnOf "law" "law" (defArgs s_law) (defBody s_law) (defScope s_law) .none kV_law dc_law pm_law an_law (.ref cdA) ct_law), sl_law⟩)
    (c_law : PySem.W.codeIn K (.ref cdA) "law" = true)
    (aC_Line : PySem.W.nsIn K mainGlobals "Line" = some (some (.ref C_Line_)))
    (aC_Stairs : PySem.W.nsIn K mainGlobals "Stairs" = some (some (.ref C_Stairs_)))
    (aC_Crooked : PySem.W.nsIn K mainGlobals "Crooked" = some (some (.ref C_Crooked_)))
    {f_Line___init__ : Addr} {od_Line___init__ an_Line___init__ : Option Addr} {sl_Line___init__ : Array (Option Value)} {oc_Line___init__ kV_Line___init__ dc_Line___init__ pm_Line___init__ cd_Line___init__ ct_Line___init__ : Value}
    (a_Line___init__ : PySem.W.findIn K (.ref C_Line_) "__init__" = some (some (.ref f_Line___init__)))
    (i_Line___init__ : PySem.W.isFn K (.ref f_Line___init__) = true)
    (l_Line___init__ : K.lookup f_Line___init__ = some ⟨oc_Line___init__, od_Line___init__, .func (PySem.W.fnOf "__init__" "Line.__init__" (defArgs s_Line___init__) (defBody s_Line___init__) (defScope s_Line___init__) .none kV_Line___init__ dc_Line___init__ pm_Line___init__ an_Line___init__ cd_Line___init__ ct_Line___init__), sl_Line___init__⟩)
    (c_Line___init__ : PySem.W.codeIn K cd_Line___init__ "Line.__init__" = true)
    (k_Line___init__ : PySem.W.keepIn K (.ref f_Line___init__) = true)
    {f_Line___eq__ : Addr} {od_Line___eq__ an_Line___eq__ : Option Addr} {sl_Line___eq__ : Array (Option Value)} {oc_Line___eq__ kV_Line___eq__ dc_Line___eq__ pm_Line___eq__ cd_Line___eq__ ct_Line___eq__ : Value}
    (a_Line___eq__ : PySem.W.findIn K (.ref C_Line_) "__eq__" = some (some (.ref f_Line___eq__)))
    (i_Line___eq__ : PySem.W.isFn K (.ref f_Line___eq__) = true)
    (l_Line___eq__ : K.lookup f_Line___eq__ = some ⟨oc_Line___eq__, od_Line___eq__, .func (PySem.W.fnOf "__eq__" "Line.__eq__" (defArgs s_Line___eq__) (defBody s_Line___eq__) (defScope s_Line___eq__) .none kV_Line___eq__ dc_Line___eq__ pm_Line___eq__ an_Line___eq__ cd_Line___eq__ ct_Line___eq__), sl_Line___eq__⟩)
    (c_Line___eq__ : PySem.W.codeIn K cd_Line___eq__ "Line.__eq__" = true)
    (k_Line___eq__ : PySem.W.keepIn K (.ref f_Line___eq__) = true)
    {f_Line_at : Addr} {od_Line_at an_Line_at : Option Addr} {sl_Line_at : Array (Option Value)} {oc_Line_at kV_Line_at dc_Line_at pm_Line_at cd_Line_at ct_Line_at : Value}
    (a_Line_at : PySem.W.findIn K (.ref C_Line_) "at" = some (some (.ref f_Line_at)))
    (i_Line_at : PySem.W.isFn K (.ref f_Line_at) = true)
    (l_Line_at : K.lookup f_Line_at = some ⟨oc_Line_at, od_Line_at, .func (PySem.W.fnOf "at" "Line.at" (defArgs s_Line_at) (defBody s_Line_at) (defScope s_Line_at) .none kV_Line_at dc_Line_at pm_Line_at an_Line_at cd_Line_at ct_Line_at), sl_Line_at⟩)
    (c_Line_at : PySem.W.codeIn K cd_Line_at "Line.at" = true)
    (k_Line_at : PySem.W.keepIn K (.ref f_Line_at) = true)
    {f_Stairs___init__ : Addr} {od_Stairs___init__ an_Stairs___init__ : Option Addr} {sl_Stairs___init__ : Array (Option Value)} {oc_Stairs___init__ kV_Stairs___init__ dc_Stairs___init__ pm_Stairs___init__ cd_Stairs___init__ ct_Stairs___init__ : Value}
    (a_Stairs___init__ : PySem.W.findIn K (.ref C_Stairs_) "__init__" = some (some (.ref f_Stairs___init__)))
    (i_Stairs___init__ : PySem.W.isFn K (.ref f_Stairs___init__) = true)
    (l_Stairs___init__ : K.lookup f_Stairs___init__ = some ⟨oc_Stairs___init__, od_Stairs___init__, .func (PySem.W.fnOf "__init__" "Stairs.__init__" (defArgs s_Stairs___init__) (defBody s_Stairs___init__) (defScope s_Stairs___init__) .none kV_Stairs___init__ dc_Stairs___init__ pm_Stairs___init__ an_Stairs___init__ cd_Stairs___init__ ct_Stairs___init__), sl_Stairs___init__⟩)
    (c_Stairs___init__ : PySem.W.codeIn K cd_Stairs___init__ "Stairs.__init__" = true)
    (k_Stairs___init__ : PySem.W.keepIn K (.ref f_Stairs___init__) = true)
    {f_Stairs___bool__ : Addr} {od_Stairs___bool__ an_Stairs___bool__ : Option Addr} {sl_Stairs___bool__ : Array (Option Value)} {oc_Stairs___bool__ kV_Stairs___bool__ dc_Stairs___bool__ pm_Stairs___bool__ cd_Stairs___bool__ ct_Stairs___bool__ : Value}
    (a_Stairs___bool__ : PySem.W.findIn K (.ref C_Stairs_) "__bool__" = some (some (.ref f_Stairs___bool__)))
    (i_Stairs___bool__ : PySem.W.isFn K (.ref f_Stairs___bool__) = true)
    (l_Stairs___bool__ : K.lookup f_Stairs___bool__ = some ⟨oc_Stairs___bool__, od_Stairs___bool__, .func (PySem.W.fnOf "__bool__" "Stairs.__bool__" (defArgs s_Stairs___bool__) (defBody s_Stairs___bool__) (defScope s_Stairs___bool__) .none kV_Stairs___bool__ dc_Stairs___bool__ pm_Stairs___bool__ an_Stairs___bool__ cd_Stairs___bool__ ct_Stairs___bool__), sl_Stairs___bool__⟩)
    (c_Stairs___bool__ : PySem.W.codeIn K cd_Stairs___bool__ "Stairs.__bool__" = true)
    (k_Stairs___bool__ : PySem.W.keepIn K (.ref f_Stairs___bool__) = true)
    {f_Stairs___eq__ : Addr} {od_Stairs___eq__ an_Stairs___eq__ : Option Addr} {sl_Stairs___eq__ : Array (Option Value)} {oc_Stairs___eq__ kV_Stairs___eq__ dc_Stairs___eq__ pm_Stairs___eq__ cd_Stairs___eq__ ct_Stairs___eq__ : Value}
    (a_Stairs___eq__ : PySem.W.findIn K (.ref C_Stairs_) "__eq__" = some (some (.ref f_Stairs___eq__)))
    (i_Stairs___eq__ : PySem.W.isFn K (.ref f_Stairs___eq__) = true)
    (l_Stairs___eq__ : K.lookup f_Stairs___eq__ = some ⟨oc_Stairs___eq__, od_Stairs___eq__, .func (PySem.W.fnOf "__eq__" "Stairs.__eq__" (defArgs s_Stairs___eq__) (defBody s_Stairs___eq__) (defScope s_Stairs___eq__) .none kV_Stairs___eq__ dc_Stairs___eq__ pm_Stairs___eq__ an_Stairs___eq__ cd_Stairs___eq__ ct_Stairs___eq__), sl_Stairs___eq__⟩)
    (c_Stairs___eq__ : PySem.W.codeIn K cd_Stairs___eq__ "Stairs.__eq__" = true)
    (k_Stairs___eq__ : PySem.W.keepIn K (.ref f_Stairs___eq__) = true)
    {f_Stairs_shows : Addr} {od_Stairs_shows an_Stairs_shows : Option Addr} {sl_Stairs_shows : Array (Option Value)} {oc_Stairs_shows kV_Stairs_shows dc_Stairs_shows pm_Stairs_shows cd_Stairs_shows ct_Stairs_shows : Value}
    (a_Stairs_shows : PySem.W.findIn K (.ref C_Stairs_) "shows" = some (some (.ref f_Stairs_shows)))
    (i_Stairs_shows : PySem.W.isFn K (.ref f_Stairs_shows) = true)
    (l_Stairs_shows : K.lookup f_Stairs_shows = some ⟨oc_Stairs_shows, od_Stairs_shows, .func (PySem.W.fnOf "shows" "Stairs.shows" (defArgs s_Stairs_shows) (defBody s_Stairs_shows) (defScope s_Stairs_shows) .none kV_Stairs_shows dc_Stairs_shows pm_Stairs_shows an_Stairs_shows cd_Stairs_shows ct_Stairs_shows), sl_Stairs_shows⟩)
    (c_Stairs_shows : PySem.W.codeIn K cd_Stairs_shows "Stairs.shows" = true)
    (k_Stairs_shows : PySem.W.keepIn K (.ref f_Stairs_shows) = true)
    {f_Crooked___init__ : Addr} {od_Crooked___init__ an_Crooked___init__ : Option Addr} {sl_Crooked___init__ : Array (Option Value)} {oc_Crooked___init__ kV_Crooked___init__ dc_Crooked___init__ pm_Crooked___init__ cd_Crooked___init__ ct_Crooked___init__ : Value}
    (a_Crooked___init__ : PySem.W.findIn K (.ref C_Crooked_) "__init__" = some (some (.ref f_Crooked___init__)))
    (i_Crooked___init__ : PySem.W.isFn K (.ref f_Crooked___init__) = true)
    (l_Crooked___init__ : K.lookup f_Crooked___init__ = some ⟨oc_Crooked___init__, od_Crooked___init__, .func (PySem.W.fnOf "__init__" "Crooked.__init__" (defArgs s_Crooked___init__) (defBody s_Crooked___init__) (defScope s_Crooked___init__) .none kV_Crooked___init__ dc_Crooked___init__ pm_Crooked___init__ an_Crooked___init__ cd_Crooked___init__ ct_Crooked___init__), sl_Crooked___init__⟩)
    (c_Crooked___init__ : PySem.W.codeIn K cd_Crooked___init__ "Crooked.__init__" = true)
    (k_Crooked___init__ : PySem.W.keepIn K (.ref f_Crooked___init__) = true)
    {f_Crooked___bool__ : Addr} {od_Crooked___bool__ an_Crooked___bool__ : Option Addr} {sl_Crooked___bool__ : Array (Option Value)} {oc_Crooked___bool__ kV_Crooked___bool__ dc_Crooked___bool__ pm_Crooked___bool__ cd_Crooked___bool__ ct_Crooked___bool__ : Value}
    (a_Crooked___bool__ : PySem.W.findIn K (.ref C_Crooked_) "__bool__" = some (some (.ref f_Crooked___bool__)))
    (i_Crooked___bool__ : PySem.W.isFn K (.ref f_Crooked___bool__) = true)
    (l_Crooked___bool__ : K.lookup f_Crooked___bool__ = some ⟨oc_Crooked___bool__, od_Crooked___bool__, .func (PySem.W.fnOf "__bool__" "Crooked.__bool__" (defArgs s_Crooked___bool__) (defBody s_Crooked___bool__) (defScope s_Crooked___bool__) .none kV_Crooked___bool__ dc_Crooked___bool__ pm_Crooked___bool__ an_Crooked___bool__ cd_Crooked___bool__ ct_Crooked___bool__), sl_Crooked___bool__⟩)
    (c_Crooked___bool__ : PySem.W.codeIn K cd_Crooked___bool__ "Crooked.__bool__" = true)
    (k_Crooked___bool__ : PySem.W.keepIn K (.ref f_Crooked___bool__) = true)
    {f_Crooked___eq__ : Addr} {od_Crooked___eq__ an_Crooked___eq__ : Option Addr} {sl_Crooked___eq__ : Array (Option Value)} {oc_Crooked___eq__ kV_Crooked___eq__ dc_Crooked___eq__ pm_Crooked___eq__ cd_Crooked___eq__ ct_Crooked___eq__ : Value}
    (a_Crooked___eq__ : PySem.W.findIn K (.ref C_Crooked_) "__eq__" = some (some (.ref f_Crooked___eq__)))
    (i_Crooked___eq__ : PySem.W.isFn K (.ref f_Crooked___eq__) = true)
    (l_Crooked___eq__ : K.lookup f_Crooked___eq__ = some ⟨oc_Crooked___eq__, od_Crooked___eq__, .func (PySem.W.fnOf "__eq__" "Crooked.__eq__" (defArgs s_Crooked___eq__) (defBody s_Crooked___eq__) (defScope s_Crooked___eq__) .none kV_Crooked___eq__ dc_Crooked___eq__ pm_Crooked___eq__ an_Crooked___eq__ cd_Crooked___eq__ ct_Crooked___eq__), sl_Crooked___eq__⟩)
    (c_Crooked___eq__ : PySem.W.codeIn K cd_Crooked___eq__ "Crooked.__eq__" = true)
    (k_Crooked___eq__ : PySem.W.keepIn K (.ref f_Crooked___eq__) = true)
    {f_Crooked_shows : Addr} {od_Crooked_shows an_Crooked_shows : Option Addr} {sl_Crooked_shows : Array (Option Value)} {oc_Crooked_shows kV_Crooked_shows dc_Crooked_shows pm_Crooked_shows cd_Crooked_shows ct_Crooked_shows : Value}
    (a_Crooked_shows : PySem.W.findIn K (.ref C_Crooked_) "shows" = some (some (.ref f_Crooked_shows)))
    (i_Crooked_shows : PySem.W.isFn K (.ref f_Crooked_shows) = true)
    (l_Crooked_shows : K.lookup f_Crooked_shows = some ⟨oc_Crooked_shows, od_Crooked_shows, .func (PySem.W.fnOf "shows" "Crooked.shows" (defArgs s_Crooked_shows) (defBody s_Crooked_shows) (defScope s_Crooked_shows) .none kV_Crooked_shows dc_Crooked_shows pm_Crooked_shows an_Crooked_shows cd_Crooked_shows ct_Crooked_shows), sl_Crooked_shows⟩)
    (c_Crooked_shows : PySem.W.codeIn K cd_Crooked_shows "Crooked.shows" = true)
    (k_Crooked_shows : PySem.W.keepIn K (.ref f_Crooked_shows) = true)
    (pg_Line : PySem.W.plainGet K C_Line_ Str.empty = true)
    (hd_Line : PySem.W.hasDictIn K C_Line_ = true)
    (po_Line : PySem.W.plainOver K C_Line_ = true)
    (sa_Line : PySem.W.findIn K (.ref C_Line_) "__setattr__" = some (some (.builtin "object.__setattr__")))
    (mk_Line : PySem.W.makesIn K C_Line_ = true)
    (kc_Line : PySem.W.keepIn K (.ref C_Line_) = true)
    (n_Line_a : PySem.W.findIn K (.ref C_Line_) "a" = some none)
    (n_Line_b : PySem.W.findIn K (.ref C_Line_) "b" = some none)
    (n_Line_m : PySem.W.findIn K (.ref C_Line_) "m" = some none)
    (pg_Stairs : PySem.W.plainGet K C_Stairs_ Str.empty = true)
    (hd_Stairs : PySem.W.hasDictIn K C_Stairs_ = true)
    (po_Stairs : PySem.W.plainOver K C_Stairs_ = true)
    (sa_Stairs : PySem.W.findIn K (.ref C_Stairs_) "__setattr__" = some (some (.builtin "object.__setattr__")))
    (mk_Stairs : PySem.W.makesIn K C_Stairs_ = true)
    (kc_Stairs : PySem.W.keepIn K (.ref C_Stairs_) = true)
    (n_Stairs_line : PySem.W.findIn K (.ref C_Stairs_) "line" = some none)
    (n_Stairs_low : PySem.W.findIn K (.ref C_Stairs_) "low" = some none)
    (n_Stairs_high : PySem.W.findIn K (.ref C_Stairs_) "high" = some none)
    (pg_Crooked : PySem.W.plainGet K C_Crooked_ Str.empty = true)
    (hd_Crooked : PySem.W.hasDictIn K C_Crooked_ = true)
    (po_Crooked : PySem.W.plainOver K C_Crooked_ = true)
    (sa_Crooked : PySem.W.findIn K (.ref C_Crooked_) "__setattr__" = some (some (.builtin "object.__setattr__")))
    (mk_Crooked : PySem.W.makesIn K C_Crooked_ = true)
    (kc_Crooked : PySem.W.keepIn K (.ref C_Crooked_) = true)
    (n_Crooked_low : PySem.W.findIn K (.ref C_Crooked_) "low" = some none)
    (n_Crooked_high : PySem.W.findIn K (.ref C_Crooked_) "high" = some none)
    (ha_Line : PySem.W.findIn K (.ref C_Line_) "__class__" = some (some (.builtin "object.__class__")))
    (hm_Line : PySem.W.mroIn K C_Line_ (.type "object") = some true)
    (own_Line : PySem.W.kitOne K (.ref C_Line_) (.ref C_Line_) = some true)
    (ha_Stairs : PySem.W.findIn K (.ref C_Stairs_) "__class__" = some (some (.builtin "object.__class__")))
    (hm_Stairs : PySem.W.mroIn K C_Stairs_ (.type "object") = some true)
    (own_Stairs : PySem.W.kitOne K (.ref C_Stairs_) (.ref C_Stairs_) = some true)
    (ha_Crooked : PySem.W.findIn K (.ref C_Crooked_) "__class__" = some (some (.builtin "object.__class__")))
    (hm_Crooked : PySem.W.mroIn K C_Crooked_ (.type "object") = some true)
    (own_Crooked : PySem.W.kitOne K (.ref C_Crooked_) (.ref C_Crooked_) = some true)
    {nmC_Line qC_Line : Str} {NC_Line : Addr} {bsC_Line : List Value} {hdC_Line : Bool} {snC_Line : List Str} {subC_Line : List Value} {abC_Line : Bool} {colC_Line : Option Bool} {ddC_Line : Option Addr} {e0_Line e1_Line e2_Line e3_Line e5_Line : Option Value} {newC_Line : String}
    (xC_Line : K.lookup C_Line_ = some (excClassObj nmC_Line qC_Line C_Line_ NC_Line bsC_Line [.type "object"] hdC_Line snC_Line subC_Line abC_Line colC_Line ddC_Line e0_Line e1_Line e2_Line e3_Line e5_Line newC_Line))
    (nsC_Line : PySem.W.nsOkIn K NC_Line = true)
    (eqC_Line : PySem.W.nsIn K NC_Line "__eq__" = some (some (.ref f_Line___eq__)))
    (neC_Line : PySem.W.nsIn K NC_Line "__ne__" = some none)
    {nmC_Stairs qC_Stairs : Str} {NC_Stairs : Addr} {bsC_Stairs : List Value} {hdC_Stairs : Bool} {snC_Stairs : List Str} {subC_Stairs : List Value} {abC_Stairs : Bool} {colC_Stairs : Option Bool} {ddC_Stairs : Option Addr} {e0_Stairs e1_Stairs e2_Stairs e3_Stairs e5_Stairs : Option Value} {newC_Stairs : String}
    (xC_Stairs : K.lookup C_Stairs_ = some (excClassObj nmC_Stairs qC_Stairs C_Stairs_ NC_Stairs bsC_Stairs [.type "object"] hdC_Stairs snC_Stairs subC_Stairs abC_Stairs colC_Stairs ddC_Stairs e0_Stairs e1_Stairs e2_Stairs e3_Stairs e5_Stairs newC_Stairs))
    (nsC_Stairs : PySem.W.nsOkIn K NC_Stairs = true)
    (eqC_Stairs : PySem.W.nsIn K NC_Stairs "__eq__" = some (some (.ref f_Stairs___eq__)))
    (neC_Stairs : PySem.W.nsIn K NC_Stairs "__ne__" = some none)
    {nmC_Crooked qC_Crooked : Str} {NC_Crooked : Addr} {bsC_Crooked : List Value} {hdC_Crooked : Bool} {snC_Crooked : List Str} {subC_Crooked : List Value} {abC_Crooked : Bool} {colC_Crooked : Option Bool} {ddC_Crooked : Option Addr} {e0_Crooked e1_Crooked e2_Crooked e3_Crooked e5_Crooked : Option Value} {newC_Crooked : String}
    (xC_Crooked : K.lookup C_Crooked_ = some (excClassObj nmC_Crooked qC_Crooked C_Crooked_ NC_Crooked bsC_Crooked [.type "object"] hdC_Crooked snC_Crooked subC_Crooked abC_Crooked colC_Crooked ddC_Crooked e0_Crooked e1_Crooked e2_Crooked e3_Crooked e5_Crooked newC_Crooked))
    (nsC_Crooked : PySem.W.nsOkIn K NC_Crooked = true)
    (eqC_Crooked : PySem.W.nsIn K NC_Crooked "__eq__" = some (some (.ref f_Crooked___eq__)))
    (neC_Crooked : PySem.W.nsIn K NC_Crooked "__ne__" = some none)
    (hn_ : PySem.W.specialIn K (.builtin "object.__class__") "__get__" = some (some (.builtin "getset_descriptor.__get__")))
    (ht_ : PySem.W.takesIn K (.builtin "object.__class__") = some true)
    {nmB_BadNumber qB_BadNumber : Str} {NB_BadNumber fI_BadNumber cda_BadNumber cc_BadNumber : Addr} {bsB_BadNumber bmB_BadNumber : List Value} {snB_BadNumber : List Str} {subB_BadNumber : List Value} {abB_BadNumber : Bool} {colB_BadNumber : Option Bool} {ddB_BadNumber : Option Addr} {m0_BadNumber m1_BadNumber m2_BadNumber m3_BadNumber m5_BadNumber : Option Value}
    (aB_BadNumber : PySem.W.nsIn K mainGlobals "BadNumber" = some (some (.ref C_BadNumber_)))
    (xB_BadNumber : K.lookup C_BadNumber_ = some (excClassObj nmB_BadNumber qB_BadNumber C_BadNumber_ NB_BadNumber bsB_BadNumber bmB_BadNumber true snB_BadNumber subB_BadNumber abB_BadNumber colB_BadNumber ddB_BadNumber m0_BadNumber m1_BadNumber m2_BadNumber m3_BadNumber m5_BadNumber "ValueError.__new__"))
    (rB_BadNumber : refsVE bmB_BadNumber = true)
    (saB_BadNumber : PySem.W.findIn K (.ref C_BadNumber_) "__setattr__" = some (some (.builtin "object.__setattr__")))
    (gaB_BadNumber : PySem.W.findIn K (.ref C_BadNumber_) "__getattribute__" = some (some (.builtin "BaseException.__getattribute__")))
    (ggB_BadNumber : PySem.W.findIn K (.ref C_BadNumber_) "__getattr__" = some none)
    (nB_BadNumber : PySem.W.findIn K (.ref C_BadNumber_) "value" = some none)
    (iB_BadNumber : PySem.W.findIn K (.ref C_BadNumber_) "__init__" = some (some (.ref fI_BadNumber)))
    {qualB_BadNumber txtB_BadNumber : Str} {nkB_BadNumber : Nat} {ocB_BadNumber : Value} {odB_BadNumber : Option Addr} {docB_BadNumber pmB_BadNumber : Value} {anB_BadNumber : Option Addr} {ctB_BadNumber : Value} {oslB_BadNumber : Array (Option Value)} {w1_BadNumber w2_BadNumber w3_BadNumber w4_BadNumber w5_BadNumber w6_BadNumber w7_BadNumber w8_BadNumber w9_BadNumber u1_BadNumber u2_BadNumber u3_BadNumber : Pos}
    (fnB_BadNumber : K.lookup fI_BadNumber = some ⟨ocB_BadNumber, odB_BadNumber, .func (ksFn "__init__" qualB_BadNumber (Xc.prm "value" w1_BadNumber w2_BadNumber) (Xc.bdy "value" txtB_BadNumber nkB_BadNumber w3_BadNumber w4_BadNumber w5_BadNumber w6_BadNumber w7_BadNumber w8_BadNumber w9_BadNumber u1_BadNumber u2_BadNumber u3_BadNumber) (Xc.scp "value") .none .none docB_BadNumber pmB_BadNumber anB_BadNumber (.ref cda_BadNumber) ctB_BadNumber cc_BadNumber), oslB_BadNumber⟩)
    (cdB_BadNumber : PySem.W.codeIn K (.ref cda_BadNumber) qualB_BadNumber = true)
    (rwB_BadNumber : (w5_BadNumber.endLine == w7_BadNumber.line) = true)
    {clB_BadNumber : Value} {cldB_BadNumber : Option Addr} {cslB_BadNumber : Array (Option Value)}
    (ceB_BadNumber : K.lookup cc_BadNumber = some ⟨clB_BadNumber, cldB_BadNumber, .cell (some (.ref C_BadNumber_)), cslB_BadNumber⟩)
    {cclB_BadNumber : Value} {cddB_BadNumber : Option Addr} {vsB_BadNumber : Array Value} {ccsB_BadNumber : Array (Option Value)} {fileB_BadNumber : Str} {tfB_BadNumber : Tok}
    (coB_BadNumber : K.lookup cda_BadNumber = some ⟨cclB_BadNumber, cddB_BadNumber, .fields vsB_BadNumber, ccsB_BadNumber⟩)
    (vsB_BadNumber : vsB_BadNumber[2]? = some (.str fileB_BadNumber tfB_BadNumber))
    (fiB_BadNumber : ((l.prog.main.file : Str) == fileB_BadNumber) = true)
    (tI_BadNumber : PySem.W.typeIn K (.ref fI_BadNumber) = some (.type "function"))
    (kB_BadNumber : PySem.W.keepIn K (.ref C_BadNumber_) = true)
    (exB_BadNumber : PySem.W.subIn K (.ref C_BadNumber_) (.type "BaseException") = some true)
    (veB_BadNumber : PySem.W.subIn K (.ref C_BadNumber_) (.type "ValueError") = some true)
    (tyB_BadNumber : PySem.W.typeIn K (.ref C_BadNumber_) = some (.type "type"))
    (hdB_BadNumber : PySem.W.hasDictIn K C_BadNumber_ = true)
    (sB_BadNumber : PySem.W.subIn K (.ref C_BadNumber_) (.ref C_BadNumber_) = some true)
    (mB_BadNumber : PySem.W.mroIn K C_BadNumber_ (.ref C_BadNumber_) = some true)
    (suB_BadNumber : ks_superIn K C_BadNumber_ C_BadNumber_ "__init__" = some (some (.builtin "ValueError.__init__")))
    (xiB_BadNumber : excInitIn K C_BadNumber_ Xc.veT "ValueError.__new__" = true)
    {nmB_TooLarge qB_TooLarge : Str} {NB_TooLarge fI_TooLarge cda_TooLarge cc_TooLarge : Addr} {bsB_TooLarge bmB_TooLarge : List Value} {snB_TooLarge : List Str} {subB_TooLarge : List Value} {abB_TooLarge : Bool} {colB_TooLarge : Option Bool} {ddB_TooLarge : Option Addr} {m0_TooLarge m1_TooLarge m2_TooLarge m3_TooLarge m5_TooLarge : Option Value}
    (aB_TooLarge : PySem.W.nsIn K mainGlobals "TooLarge" = some (some (.ref C_TooLarge_)))
    (xB_TooLarge : K.lookup C_TooLarge_ = some (excClassObj nmB_TooLarge qB_TooLarge C_TooLarge_ NB_TooLarge bsB_TooLarge bmB_TooLarge true snB_TooLarge subB_TooLarge abB_TooLarge colB_TooLarge ddB_TooLarge m0_TooLarge m1_TooLarge m2_TooLarge m3_TooLarge m5_TooLarge "ValueError.__new__"))
    (rB_TooLarge : refsVE bmB_TooLarge = true)
    (saB_TooLarge : PySem.W.findIn K (.ref C_TooLarge_) "__setattr__" = some (some (.builtin "object.__setattr__")))
    (gaB_TooLarge : PySem.W.findIn K (.ref C_TooLarge_) "__getattribute__" = some (some (.builtin "BaseException.__getattribute__")))
    (ggB_TooLarge : PySem.W.findIn K (.ref C_TooLarge_) "__getattr__" = some none)
    (nB_TooLarge : PySem.W.findIn K (.ref C_TooLarge_) "number" = some none)
    (iB_TooLarge : PySem.W.findIn K (.ref C_TooLarge_) "__init__" = some (some (.ref fI_TooLarge)))
    {qualB_TooLarge txtB_TooLarge : Str} {nkB_TooLarge : Nat} {ocB_TooLarge : Value} {odB_TooLarge : Option Addr} {docB_TooLarge pmB_TooLarge : Value} {anB_TooLarge : Option Addr} {ctB_TooLarge : Value} {oslB_TooLarge : Array (Option Value)} {w1_TooLarge w2_TooLarge w3_TooLarge w4_TooLarge w5_TooLarge w6_TooLarge w7_TooLarge w8_TooLarge w9_TooLarge u1_TooLarge u2_TooLarge u3_TooLarge : Pos}
    (fnB_TooLarge : K.lookup fI_TooLarge = some ⟨ocB_TooLarge, odB_TooLarge, .func (ksFn "__init__" qualB_TooLarge (Xc.prm "number" w1_TooLarge w2_TooLarge) (Xc.bdy "number" txtB_TooLarge nkB_TooLarge w3_TooLarge w4_TooLarge w5_TooLarge w6_TooLarge w7_TooLarge w8_TooLarge w9_TooLarge u1_TooLarge u2_TooLarge u3_TooLarge) (Xc.scp "number") .none .none docB_TooLarge pmB_TooLarge anB_TooLarge (.ref cda_TooLarge) ctB_TooLarge cc_TooLarge), oslB_TooLarge⟩)
    (cdB_TooLarge : PySem.W.codeIn K (.ref cda_TooLarge) qualB_TooLarge = true)
    (rwB_TooLarge : (w5_TooLarge.endLine == w7_TooLarge.line) = true)
    {clB_TooLarge : Value} {cldB_TooLarge : Option Addr} {cslB_TooLarge : Array (Option Value)}
    (ceB_TooLarge : K.lookup cc_TooLarge = some ⟨clB_TooLarge, cldB_TooLarge, .cell (some (.ref C_TooLarge_)), cslB_TooLarge⟩)
    {cclB_TooLarge : Value} {cddB_TooLarge : Option Addr} {vsB_TooLarge : Array Value} {ccsB_TooLarge : Array (Option Value)} {fileB_TooLarge : Str} {tfB_TooLarge : Tok}
    (coB_TooLarge : K.lookup cda_TooLarge = some ⟨cclB_TooLarge, cddB_TooLarge, .fields vsB_TooLarge, ccsB_TooLarge⟩)
    (vsB_TooLarge : vsB_TooLarge[2]? = some (.str fileB_TooLarge tfB_TooLarge))
    (fiB_TooLarge : ((l.prog.main.file : Str) == fileB_TooLarge) = true)
    (tI_TooLarge : PySem.W.typeIn K (.ref fI_TooLarge) = some (.type "function"))
    (kB_TooLarge : PySem.W.keepIn K (.ref C_TooLarge_) = true)
    (exB_TooLarge : PySem.W.subIn K (.ref C_TooLarge_) (.type "BaseException") = some true)
    (veB_TooLarge : PySem.W.subIn K (.ref C_TooLarge_) (.type "ValueError") = some true)
    (tyB_TooLarge : PySem.W.typeIn K (.ref C_TooLarge_) = some (.type "type"))
    (hdB_TooLarge : PySem.W.hasDictIn K C_TooLarge_ = true)
    (sB_TooLarge : PySem.W.subIn K (.ref C_TooLarge_) (.ref C_TooLarge_) = some true)
    (mB_TooLarge : PySem.W.mroIn K C_TooLarge_ (.ref C_TooLarge_) = some true)
    (suB_TooLarge : ks_superIn K C_TooLarge_ C_TooLarge_ "__init__" = some (some (.builtin "ValueError.__init__")))
    (xiB_TooLarge : excInitIn K C_TooLarge_ Xc.veT "ValueError.__new__" = true)
    (opq : PySem.W.nsIn K cStatics "thirdparty.any" = some none)
    (nos : PySem.W.nsIn K mainGlobals "super" = some none)
    (topB : (l.prog.main.scope.names.lookup ("super" : Str)).isSome = false)
    {eT : Value} {ddT : Option Addr} {vsT : Array Value} {slT : Array (Option Value)}
    (tc_ : K.lookup cdA = some ⟨eT, ddT, .fields vsT, slT⟩)
    (tv_ : vsT[11]? = some (.ref Pt))
    (hdT_ : PySem.W.codeHdIn K cdA Pt = true)
    (np_ : K.lookup Pt = none)
    (kCS : PySem.W.kitOne K (.ref C_Crooked_) (.ref C_Stairs_) = some false)
    (kSC : PySem.W.kitOne K (.ref C_Stairs_) (.ref C_Crooked_) = some false)
    (nfC : PySem.W.notFirst K C_Crooked_ (.ref C_Stairs_) = true)
    (sTB : PySem.W.subIn K (.ref C_TooLarge_) (.ref C_BadNumber_) = some false)
    (z_len : PySem.W.nsIn K mainGlobals "len" = some none)
    (z_range : PySem.W.nsIn K mainGlobals "range" = some none)
    (z_int : PySem.W.nsIn K mainGlobals "int" = some none)
    (z_bool : PySem.W.nsIn K mainGlobals "bool" = some none)
    (z_isinstance : PySem.W.nsIn K mainGlobals "isinstance" = some none)
    (z_list : PySem.W.nsIn K mainGlobals "list" = some none)
    (z_tuple : PySem.W.nsIn K mainGlobals "tuple" = some none)
    (z_max : PySem.W.nsIn K mainGlobals "max" = some none)
    (z_min : PySem.W.nsIn K mainGlobals "min" = some none)
    (z_any : PySem.W.nsIn K mainGlobals "any" = some none)
    (z_all : PySem.W.nsIn K mainGlobals "all" = some none)
    (z_enumerate : PySem.W.nsIn K mainGlobals "enumerate" = some none)
    {t_LEAST_MANY : Tok}
    (z_LEAST_MANY : PySem.W.nsIn K mainGlobals "LEAST_MANY" = some (some (.int 2 t_LEAST_MANY)))
    {t_MOST_MANY : Tok}
    (z_MOST_MANY : PySem.W.nsIn K mainGlobals "MOST_MANY" = some (some (.int 200 t_MOST_MANY)))
    : LamX.LawAtS l w K CX0 12 63 "script" mg fa h := by
  have e := hfa.symm.trans (PySem.W.mg_of X G a_law)
  cases e
  have F_is_number := fun_mk (st := s_is_number) l_is_number c_is_number k_is_number
  have b_is_number := F_is_number.binds (ps := ["value"]) fun _ _ _ _ _ _ us hl => match us, hl with | [_], _ => rfl
  have g_is_number := PySem.W.mg_of X G a_is_number
  have F_check_numbers := fun_mk (st := s_check_numbers) l_check_numbers c_check_numbers k_check_numbers
  have b_check_numbers := F_check_numbers.binds (ps := ["values"]) fun _ _ _ _ _ _ us hl => match us, hl with | [_], _ => rfl
  have g_check_numbers := PySem.W.mg_of X G a_check_numbers
  have F_check_from := fun_mk (st := s_check_from) l_check_from c_check_from k_check_from
  have b_check_from := F_check_from.binds (ps := ["least", "value"]) fun _ _ _ _ _ _ us hl => match us, hl with | [_, _], _ => rfl
  have g_check_from := PySem.W.mg_of X G a_check_from
  have F_is_pair := fun_mk (st := s_is_pair) l_is_pair c_is_pair k_is_pair
  have b_is_pair := F_is_pair.binds (ps := ["value"]) fun _ _ _ _ _ _ us hl => match us, hl with | [_], _ => rfl
  have g_is_pair := PySem.W.mg_of X G a_is_pair
  have F_below := fun_mk (st := s_below) l_below c_below k_below
  have b_below := F_below.binds (ps := ["one", "other"]) fun _ _ _ _ _ _ us hl => match us, hl with | [_, _], _ => rfl
  have g_below := PySem.W.mg_of X G a_below
  have F_floor_of := fun_mk (st := s_floor_of) l_floor_of c_floor_of k_floor_of
  have b_floor_of := F_floor_of.binds (ps := ["fraction"]) fun _ _ _ _ _ _ us hl => match us, hl with | [_], _ => rfl
  have g_floor_of := PySem.W.mg_of X G a_floor_of
  have F_simplest_between := fun_mk (st := s_simplest_between) l_simplest_between c_simplest_between k_simplest_between
  have b_simplest_between := F_simplest_between.binds (ps := ["low", "high"]) fun _ _ _ _ _ _ us hl => match us, hl with | [_, _], _ => rfl
  have g_simplest_between := PySem.W.mg_of X G a_simplest_between
  have F_are_places := fun_mk (st := s_are_places) l_are_places c_are_places k_are_places
  have b_are_places := F_are_places.binds (ps := ["pair", "row"]) fun _ _ _ _ _ _ us hl => match us, hl with | [_, _], _ => rfl
  have g_are_places := PySem.W.mg_of X G a_are_places
  have F_has_numbers := fun_mk (st := s_has_numbers) l_has_numbers c_has_numbers k_has_numbers
  have b_has_numbers := F_has_numbers.binds (ps := ["line", "row"]) fun _ _ _ _ _ _ us hl => match us, hl with | [_, _], _ => rfl
  have g_has_numbers := PySem.W.mg_of X G a_has_numbers
  have F_lower_bound := fun_mk (st := s_lower_bound) l_lower_bound c_lower_bound k_lower_bound
  have b_lower_bound := F_lower_bound.binds (ps := ["row", "pair"]) fun _ _ _ _ _ _ us hl => match us, hl with | [_, _], _ => rfl
  have g_lower_bound := PySem.W.mg_of X G a_lower_bound
  have F_upper_bound := fun_mk (st := s_upper_bound) l_upper_bound c_upper_bound k_upper_bound
  have b_upper_bound := F_upper_bound.binds (ps := ["row", "pair"]) fun _ _ _ _ _ _ us hl => match us, hl with | [_, _], _ => rfl
  have g_upper_bound := PySem.W.mg_of X G a_upper_bound
  have F_least_offset := fun_mk (st := s_least_offset) l_least_offset c_least_offset k_least_offset
  have b_least_offset := F_least_offset.binds (ps := ["row", "a", "m"]) fun _ _ _ _ _ _ us hl => match us, hl with | [_, _, _], _ => rfl
  have g_least_offset := PySem.W.mg_of X G a_least_offset
  have F_stairs := fun_mk (st := s_stairs) l_stairs c_stairs k_stairs
  have b_stairs := F_stairs.binds (ps := ["row"]) fun _ _ _ _ _ _ us hl => match us, hl with | [_], _ => rfl
  have g_stairs := PySem.W.mg_of X G a_stairs
  have F_stairs_of := fun_mk (st := s_stairs_of) l_stairs_of c_stairs_of k_stairs_of
  have b_stairs_of := F_stairs_of.binds (ps := ["row"]) fun _ _ _ _ _ _ us hl => match us, hl with | [_], _ => rfl
  have g_stairs_of := PySem.W.mg_of X G a_stairs_of
  have F__law_number := fun_mk (st := s__law_number) l__law_number c__law_number k__law_number
  have b__law_number := F__law_number.binds (ps := ["script", "index"]) fun _ _ _ _ _ _ us hl => match us, hl with | [_, _], _ => rfl
  have g__law_number := PySem.W.mg_of X G a__law_number
  have F__law_take := fun_mk (st := s__law_take) l__law_take c__law_take k__law_take
  have b__law_take := F__law_take.binds (ps := ["draw", "many"]) fun _ _ _ _ _ _ us hl => match us, hl with | [_, _], _ => rfl
  have g__law_take := PySem.W.mg_of X G a__law_take
  have F__law_pick := fun_mk (st := s__law_pick) l__law_pick c__law_pick k__law_pick
  have b__law_pick := F__law_pick.binds (ps := ["draw", "items"]) fun _ _ _ _ _ _ us hl => match us, hl with | [_, _], _ => rfl
  have g__law_pick := PySem.W.mg_of X G a__law_pick
  have F__law_long := fun_mk (st := s__law_long) l__law_long c__law_long k__law_long
  have b__law_long := F__law_long.binds (ps := ["draw", "figures"]) fun _ _ _ _ _ _ us hl => match us, hl with | [_, _], _ => rfl
  have g__law_long := PySem.W.mg_of X G a__law_long
  have F__law_is_number := fun_mk (st := s__law_is_number) l__law_is_number c__law_is_number k__law_is_number
  have b__law_is_number := F__law_is_number.binds (ps := ["value"]) fun _ _ _ _ _ _ us hl => match us, hl with | [_], _ => rfl
  have g__law_is_number := PySem.W.mg_of X G a__law_is_number
  have F__law_at := fun_mk (st := s__law_at) l__law_at c__law_at k__law_at
  have b__law_at := F__law_at.binds (ps := ["line", "x"]) fun _ _ _ _ _ _ us hl => match us, hl with | [_, _], _ => rfl
  have g__law_at := PySem.W.mg_of X G a__law_at
  have F__law_bounds_of := fun_mk (st := s__law_bounds_of) l__law_bounds_of c__law_bounds_of k__law_bounds_of
  have b__law_bounds_of := F__law_bounds_of.binds (ps := ["row", "low", "high"]) fun _ _ _ _ _ _ us hl => match us, hl with | [_, _, _], _ => rfl
  have g__law_bounds_of := PySem.W.mg_of X G a__law_bounds_of
  have F__law_is_pair := fun_mk (st := s__law_is_pair) l__law_is_pair c__law_is_pair k__law_is_pair
  have b__law_is_pair := F__law_is_pair.binds (ps := ["pair", "many"]) fun _ _ _ _ _ _ us hl => match us, hl with | [_, _], _ => rfl
  have g__law_is_pair := PySem.W.mg_of X G a__law_is_pair
  have F__law_between := fun_mk (st := s__law_between) l__law_between c__law_between k__law_between
  have b__law_between := F__law_between.binds (ps := ["above", "below_v", "m"]) fun _ _ _ _ _ _ us hl => match us, hl with | [_, _, _], _ => rfl
  have g__law_between := PySem.W.mg_of X G a__law_between
  have F__law_is_right := fun_mk (st := s__law_is_right) l__law_is_right c__law_is_right k__law_is_right
  have b__law_is_right := F__law_is_right.binds (ps := ["row", "told"]) fun _ _ _ _ _ _ us hl => match us, hl with | [_, _], _ => rfl
  have g__law_is_right := PySem.W.mg_of X G a__law_is_right
  have F__law_has_line := fun_mk (st := s__law_has_line) l__law_has_line c__law_has_line k__law_has_line
  have b__law_has_line := F__law_has_line.binds (ps := ["row", "m"]) fun _ _ _ _ _ _ us hl => match us, hl with | [_, _], _ => rfl
  have g__law_has_line := PySem.W.mg_of X G a__law_has_line
  have F__law_fault := fun_mk (st := s__law_fault) l__law_fault c__law_fault k__law_fault
  have b__law_fault := F__law_fault.binds (ps := ["deed"]) fun _ _ _ _ _ _ us hl => match us, hl with | [_], _ => rfl
  have g__law_fault := PySem.W.mg_of X G a__law_fault
  have F_law : FunC K "law" "law" s_law cdA _ _ := ⟨⟨_, _, _, _, _, _, _, _, rfl, l_law, c_law⟩⟩
  have F_Line___init__ := fun_mk (st := s_Line___init__) l_Line___init__ c_Line___init__ k_Line___init__
  have b_Line___init__ := F_Line___init__.binds (ps := ["self", "a", "b", "m"]) fun _ _ _ _ _ _ us hl => match us, hl with | [_, _, _, _], _ => rfl
  have F_Line___eq__ := fun_mk (st := s_Line___eq__) l_Line___eq__ c_Line___eq__ k_Line___eq__
  have b_Line___eq__ := F_Line___eq__.binds (ps := ["self", "other"]) fun _ _ _ _ _ _ us hl => match us, hl with | [_, _], _ => rfl
  have F_Line_at := fun_mk (st := s_Line_at) l_Line_at c_Line_at k_Line_at
  have b_Line_at := F_Line_at.binds (ps := ["self", "x"]) fun _ _ _ _ _ _ us hl => match us, hl with | [_, _], _ => rfl
  have F_Stairs___init__ := fun_mk (st := s_Stairs___init__) l_Stairs___init__ c_Stairs___init__ k_Stairs___init__
  have b_Stairs___init__ := F_Stairs___init__.binds (ps := ["self", "line", "low", "high"]) fun _ _ _ _ _ _ us hl => match us, hl with | [_, _, _, _], _ => rfl
  have F_Stairs___bool__ := fun_mk (st := s_Stairs___bool__) l_Stairs___bool__ c_Stairs___bool__ k_Stairs___bool__
  have b_Stairs___bool__ := F_Stairs___bool__.binds (ps := ["self"]) fun _ _ _ _ _ _ us hl => match us, hl with | [_], _ => rfl
  have F_Stairs___eq__ := fun_mk (st := s_Stairs___eq__) l_Stairs___eq__ c_Stairs___eq__ k_Stairs___eq__
  have b_Stairs___eq__ := F_Stairs___eq__.binds (ps := ["self", "other"]) fun _ _ _ _ _ _ us hl => match us, hl with | [_, _], _ => rfl
  have F_Stairs_shows := fun_mk (st := s_Stairs_shows) l_Stairs_shows c_Stairs_shows k_Stairs_shows
  have b_Stairs_shows := F_Stairs_shows.binds (ps := ["self", "row"]) fun _ _ _ _ _ _ us hl => match us, hl with | [_, _], _ => rfl
  have F_Crooked___init__ := fun_mk (st := s_Crooked___init__) l_Crooked___init__ c_Crooked___init__ k_Crooked___init__
  have b_Crooked___init__ := F_Crooked___init__.binds (ps := ["self", "low", "high"]) fun _ _ _ _ _ _ us hl => match us, hl with | [_, _, _], _ => rfl
  have F_Crooked___bool__ := fun_mk (st := s_Crooked___bool__) l_Crooked___bool__ c_Crooked___bool__ k_Crooked___bool__
  have b_Crooked___bool__ := F_Crooked___bool__.binds (ps := ["self"]) fun _ _ _ _ _ _ us hl => match us, hl with | [_], _ => rfl
  have F_Crooked___eq__ := fun_mk (st := s_Crooked___eq__) l_Crooked___eq__ c_Crooked___eq__ k_Crooked___eq__
  have b_Crooked___eq__ := F_Crooked___eq__.binds (ps := ["self", "other"]) fun _ _ _ _ _ _ us hl => match us, hl with | [_, _], _ => rfl
  have F_Crooked_shows := fun_mk (st := s_Crooked_shows) l_Crooked_shows c_Crooked_shows k_Crooked_shows
  have b_Crooked_shows := F_Crooked_shows.binds (ps := ["self", "row"]) fun _ _ _ _ _ _ us hl => match us, hl with | [_, _], _ => rfl
  have cl_Line : Cls K C_Line_ := ⟨pg_Line, hd_Line, po_Line, sa_Line⟩
  have g_Line := PySem.W.mg_of X G aC_Line
  have cl_Stairs : Cls K C_Stairs_ := ⟨pg_Stairs, hd_Stairs, po_Stairs, sa_Stairs⟩
  have g_Stairs := PySem.W.mg_of X G aC_Stairs
  have cl_Crooked : Cls K C_Crooked_ := ⟨pg_Crooked, hd_Crooked, po_Crooked, sa_Crooked⟩
  have g_Crooked := PySem.W.mg_of X G aC_Crooked
  have I_Line : ClsI K C_Line_ := ⟨ha_Line, hm_Line, own_Line⟩
  have I_Stairs : ClsI K C_Stairs_ := ⟨ha_Stairs, hm_Stairs, own_Stairs⟩
  have I_Crooked : ClsI K C_Crooked_ := ⟨ha_Crooked, hm_Crooked, own_Crooked⟩
  have E_Line : EqC K C_Line_ f_Line___eq__ := ⟨a_Line___eq__, i_Line___eq__, ⟨_, _, _, _, _, _, _, _, _, _, _, _, _, _, _, _, xC_Line, nsC_Line, eqC_Line, neC_Line⟩⟩
  have E_Stairs : EqC K C_Stairs_ f_Stairs___eq__ := ⟨a_Stairs___eq__, i_Stairs___eq__, ⟨_, _, _, _, _, _, _, _, _, _, _, _, _, _, _, _, xC_Stairs, nsC_Stairs, eqC_Stairs, neC_Stairs⟩⟩
  have E_Crooked : EqC K C_Crooked_ f_Crooked___eq__ := ⟨a_Crooked___eq__, i_Crooked___eq__, ⟨_, _, _, _, _, _, _, _, _, _, _, _, _, _, _, _, xC_Crooked, nsC_Crooked, eqC_Crooked, neC_Crooked⟩⟩
  have IO : ObjI K := ⟨hn_, ht_⟩
  have T : Nm mg := { len := PySem.W.mg_none_of X G z_len, range := PySem.W.mg_none_of X G z_range, int := PySem.W.mg_none_of X G z_int, bool := PySem.W.mg_none_of X G z_bool, isinstance := PySem.W.mg_none_of X G z_isinstance, list := PySem.W.mg_none_of X G z_list, tuple := PySem.W.mg_none_of X G z_tuple, max := PySem.W.mg_none_of X G z_max, min := PySem.W.mg_none_of X G z_min, any := PySem.W.mg_none_of X G z_any, all := PySem.W.mg_none_of X G z_all, enumerate := PySem.W.mg_none_of X G z_enumerate, LEAST_MANY := ⟨_, PySem.W.mg_of X G z_LEAST_MANY⟩, MOST_MANY := ⟨_, PySem.W.mg_of X G z_MOST_MANY⟩ }
  have B_BadNumber : Xc.Own l.prog K mg "BadNumber" "value" C_BadNumber_ fI_BadNumber cda_BadNumber cc_BadNumber :=
    { gC := PySem.W.mg_of X G aB_BadNumber, cls := ⟨_, _, _, _, _, _, _, _, _, _, _, _, _, _, _, xB_BadNumber, rB_BadNumber⟩, sa := saB_BadNumber, ga := gaB_BadNumber, gg := ggB_BadNumber, noN := nB_BadNumber, iC := iB_BadNumber, tC := tI_BadNumber, kC := kB_BadNumber, exC := exB_BadNumber, veC := veB_BadNumber, tyC := tyB_BadNumber, hdC := hdB_BadNumber, te := PySem.W.exm_ref exB_BadNumber hdB_BadNumber tyB_BadNumber sB_BadNumber, mro := mB_BadNumber, sup := suB_BadNumber, xin := xiB_BadNumber, opq := opq, nos := nos, cell := ⟨_, _, _, ceB_BadNumber⟩, code := ⟨_, _, _, _, _, _, coB_BadNumber, vsB_BadNumber, fiB_BadNumber⟩, fn := ⟨_, _, _, _, _, _, _, _, _, _, _, _, _, _, _, _, _, _, _, _, _, _, fnB_BadNumber, cdB_BadNumber, rwB_BadNumber⟩, top := topB }
  have B_TooLarge : Xc.Own l.prog K mg "TooLarge" "number" C_TooLarge_ fI_TooLarge cda_TooLarge cc_TooLarge :=
    { gC := PySem.W.mg_of X G aB_TooLarge, cls := ⟨_, _, _, _, _, _, _, _, _, _, _, _, _, _, _, xB_TooLarge, rB_TooLarge⟩, sa := saB_TooLarge, ga := gaB_TooLarge, gg := ggB_TooLarge, noN := nB_TooLarge, iC := iB_TooLarge, tC := tI_TooLarge, kC := kB_TooLarge, exC := exB_TooLarge, veC := veB_TooLarge, tyC := tyB_TooLarge, hdC := hdB_TooLarge, te := PySem.W.exm_ref exB_TooLarge hdB_TooLarge tyB_TooLarge sB_TooLarge, mro := mB_TooLarge, sup := suB_TooLarge, xin := xiB_TooLarge, opq := opq, nos := nos, cell := ⟨_, _, _, ceB_TooLarge⟩, code := ⟨_, _, _, _, _, _, coB_TooLarge, vsB_TooLarge, fiB_TooLarge⟩, fn := ⟨_, _, _, _, _, _, _, _, _, _, _, _, _, _, _, _, _, _, _, _, _, _, fnB_TooLarge, cdB_TooLarge, rwB_TooLarge⟩, top := topB }
  refine ⟨PySem.W.fnOf "law" "law" (defArgs s_law) (defBody s_law) (defScope s_law) .none kV_law dc_law pm_law an_law (.ref cdA) ct_law, [(cdA, Pt)], spLaw K Pt, fun p hp => ?_, fun p hp => ?_, fun p hp => ?_, fun s v => .of_eq rfl, fun H a ns hl _ ht hS => ⟨a, ns, rfl, hS, hl, ht _ (List.mem_singleton.mpr rfl), fun _ => rfl⟩, fun base _ _ htb => ?_⟩
  · rw [List.mem_singleton.mp hp]
    exact own _ _ _ _ _ _ _ _ l_law rfl rfl tc_ tv_
  · rw [List.mem_singleton.mp hp]
    exact np_
  · rw [List.mem_singleton.mp hp]
    exact PySem.W.codeHd_of_K X hdT_
  have TB := htb (cdA, Pt) (List.mem_singleton.mpr rfl)
  have RL : LineC K C_Line_ := ⟨cl_Line, n_Line_a, n_Line_b, n_Line_m⟩
  have RS : StairsC K C_Stairs_ := ⟨cl_Stairs, n_Stairs_line, n_Stairs_low, n_Stairs_high⟩
  have RC : CrookC K C_Crooked_ := ⟨cl_Crooked, n_Crooked_low, n_Crooked_high⟩
  have C_is_number : Has l.prog w K mg base "is_number" 1 ["value"] (spIsNum K) _ _ := ⟨ok_is_number T F_is_number, g_is_number, F_is_number.kp, b_is_number⟩
  have C_check_numbers : HasX l.prog w K mg base "check_numbers" 2 ["values"] (spCheckNums K C_BadNumber_) _ _ := ⟨ok_check_numbers B_BadNumber C_is_number F_check_numbers, g_check_numbers, F_check_numbers.kp, b_check_numbers⟩
  have C_check_from : Has l.prog w K mg base "check_from" 2 ["least", "value"] spCheckFrom _ _ := ⟨ok_check_from C_is_number F_check_from, g_check_from, F_check_from.kp, b_check_from⟩
  have C_is_pair : Has l.prog w K mg base "is_pair" 2 ["value"] (spIsPair K) _ _ := ⟨ok_is_pair T C_is_number F_is_pair, g_is_pair, F_is_pair.kp, b_is_pair⟩
  have C_below : Has l.prog w K mg base "below" 1 ["one", "other"] (spBelow K) _ _ := ⟨ok_below F_below, g_below, F_below.kp, b_below⟩
  have C_floor_of : Has l.prog w K mg base "floor_of" 1 ["fraction"] (spFloor K) _ _ := ⟨ok_floor_of F_floor_of, g_floor_of, F_floor_of.kp, b_floor_of⟩
  have C_simplest_between : Has l.prog w K mg base "simplest_between" 2 ["low", "high"] (spSimplest K) _ _ := ⟨ok_simplest_between C_below C_floor_of F_simplest_between, g_simplest_between, F_simplest_between.kp, b_simplest_between⟩
  have C_Line : Made l.prog w K mg base "Line" 3 ["self", "a", "b", "m"] (spLineI C_Line_) C_Line_ _ _ := ⟨⟨mk_Line, a_Line___init__, i_Line___init__, kc_Line⟩, ok_LineI RL C_check_numbers C_check_from F_Line___init__, g_Line, b_Line___init__⟩
  have Q_Line : EqX l.prog w K mg base C_Line_ 1 (spEqLine C_Line_) _ _ := ⟨E_Line, ok_LineEq T g_Line RL I_Line IO F_Line___eq__, b_Line___eq__⟩
  have C_Line_at : Mth l.prog w K mg base C_Line_ "at" 1 ["self", "x"] (spLineAt C_Line_) _ _ := ⟨cl_Line, ⟨a_Line_at, i_Line_at, k_Line_at⟩, ok_LineAt RL F_Line_at, b_Line_at⟩
  have C_Stairs : Made l.prog w K mg base "Stairs" 1 ["self", "line", "low", "high"] (spStairsI C_Stairs_) C_Stairs_ _ _ := ⟨⟨mk_Stairs, a_Stairs___init__, i_Stairs___init__, kc_Stairs⟩, ok_StairsI RS F_Stairs___init__, g_Stairs, b_Stairs___init__⟩
  have C_Crooked : Made l.prog w K mg base "Crooked" 1 ["self", "low", "high"] (spCrookI C_Crooked_) C_Crooked_ _ _ := ⟨⟨mk_Crooked, a_Crooked___init__, i_Crooked___init__, kc_Crooked⟩, ok_CrookI RC F_Crooked___init__, g_Crooked, b_Crooked___init__⟩
  have B_Stairs : Bol l.prog w K mg base C_Stairs_ 1 (spBool true) _ _ := ⟨⟨a_Stairs___bool__, i_Stairs___bool__⟩, ok_StairsB F_Stairs___bool__, b_Stairs___bool__⟩
  have B_Crooked : Bol l.prog w K mg base C_Crooked_ 1 (spBool false) _ _ := ⟨⟨a_Crooked___bool__, i_Crooked___bool__⟩, ok_CrookB F_Crooked___bool__, b_Crooked___bool__⟩
  have Q_Stairs : EqX l.prog w K mg base C_Stairs_ 2 (spEqS K C_Stairs_ C_Line_) _ _ := ⟨E_Stairs, ok_StairsEq T g_Stairs RS I_Stairs IO Q_Line F_Stairs___eq__, b_Stairs___eq__⟩
  have Q_Crooked : EqX l.prog w K mg base C_Crooked_ 1 (spEqC K C_Crooked_ C_Stairs_) _ _ := ⟨E_Crooked, ok_CrookEq T g_Crooked RC RS I_Crooked I_Stairs IO kSC F_Crooked___eq__, b_Crooked___eq__⟩
  have C_lower_bound : Has l.prog w K mg base "lower_bound" 1 ["row", "pair"] (spBound K (-1)) _ _ := ⟨ok_lower_bound F_lower_bound, g_lower_bound, F_lower_bound.kp, b_lower_bound⟩
  have C_upper_bound : Has l.prog w K mg base "upper_bound" 1 ["row", "pair"] (spBound K 1) _ _ := ⟨ok_upper_bound F_upper_bound, g_upper_bound, F_upper_bound.kp, b_upper_bound⟩
  have C_least_offset : Has l.prog w K mg base "least_offset" 1 ["row", "a", "m"] (spOffset K) _ _ := ⟨ok_least_offset T F_least_offset, g_least_offset, F_least_offset.kp, b_least_offset⟩
  have C_are_places : Has l.prog w K mg base "are_places" 3 ["pair", "row"] (spPlaces K) _ _ := ⟨ok_are_places T C_is_pair F_are_places, g_are_places, F_are_places.kp, b_are_places⟩
  have C_has_numbers : Has l.prog w K mg base "has_numbers" 2 ["line", "row"] (spHasN K C_Line_) _ _ := ⟨ok_has_numbers T C_Line_at F_has_numbers, g_has_numbers, F_has_numbers.kp, b_has_numbers⟩
  have C_Stairs_shows : Mth l.prog w K mg base C_Stairs_ "shows" 4 ["self", "row"] (spShowS K C_Stairs_ C_Line_) _ _ := ⟨cl_Stairs, ⟨a_Stairs_shows, i_Stairs_shows, k_Stairs_shows⟩, ok_StairsShows T g_Line RS RL I_Line IO C_has_numbers C_are_places C_lower_bound C_upper_bound C_simplest_between C_least_offset F_Stairs_shows, b_Stairs_shows⟩
  have C_Crooked_shows : Mth l.prog w K mg base C_Crooked_ "shows" 4 ["self", "row"] (spShowC K C_Crooked_) _ _ := ⟨cl_Crooked, ⟨a_Crooked_shows, i_Crooked_shows, k_Crooked_shows⟩, ok_CrookShows T RC C_are_places C_below C_lower_bound C_upper_bound F_Crooked_shows, b_Crooked_shows⟩
  have C_stairs_of : Has l.prog w K mg base "stairs_of" 5 ["row"] (spStairsOf K C_Stairs_ C_Crooked_ C_Line_) _ _ := ⟨ok_stairs_of T C_below C_simplest_between C_lower_bound C_upper_bound C_least_offset C_Line C_Stairs C_Crooked F_stairs_of, g_stairs_of, F_stairs_of.kp, b_stairs_of⟩
  have C_stairs : HasX l.prog w K mg base "stairs" 6 ["row"] (spStairs K C_Stairs_ C_Crooked_ C_Line_ C_BadNumber_ C_TooLarge_) _ _ := ⟨ok_stairs T B_TooLarge C_check_numbers C_stairs_of F_stairs, g_stairs, F_stairs.kp, b_stairs⟩
  have C__law_number : Has l.prog w K mg base "_law_number" 1 ["script", "index"] (spNumber K) _ _ := ⟨ok__law_number T F__law_number, g__law_number, F__law_number.kp, b__law_number⟩
  have C__law_take : Has l.prog w K mg base "_law_take" 2 ["draw", "many"] (spTake K) _ _ := ⟨ok__law_take T C__law_number F__law_take, g__law_take, F__law_take.kp, b__law_take⟩
  have C__law_pick : Has l.prog w K mg base "_law_pick" 3 ["draw", "items"] (spPick K) _ _ := ⟨ok__law_pick T C__law_take F__law_pick, g__law_pick, F__law_pick.kp, b__law_pick⟩
  have C__law_long : Has l.prog w K mg base "_law_long" 3 ["draw", "figures"] (spLong K) _ _ := ⟨ok__law_long T C__law_take F__law_long, g__law_long, F__law_long.kp, b__law_long⟩
  have C__law_is_number : Has l.prog w K mg base "_law_is_number" 1 ["value"] (spIsNum K) _ _ := ⟨ok__law_is_number T F__law_is_number, g__law_is_number, F__law_is_number.kp, b__law_is_number⟩
  have C__law_at : Has l.prog w K mg base "_law_at" 1 ["line", "x"] (spAt K) _ _ := ⟨ok__law_at F__law_at, g__law_at, F__law_at.kp, b__law_at⟩
  have C__law_bounds_of : Has l.prog w K mg base "_law_bounds_of" 1 ["row", "low", "high"] (spBoundsOf K) _ _ := ⟨ok__law_bounds_of F__law_bounds_of, g__law_bounds_of, F__law_bounds_of.kp, b__law_bounds_of⟩
  have C__law_is_pair : Has l.prog w K mg base "_law_is_pair" 2 ["pair", "many"] (spIsP K) _ _ := ⟨ok__law_is_pair T C__law_is_number F__law_is_pair, g__law_is_pair, F__law_is_pair.kp, b__law_is_pair⟩
  have C__law_between : Has l.prog w K mg base "_law_between" 1 ["above", "below_v", "m"] (spBtw K) _ _ := ⟨ok__law_between F__law_between, g__law_between, F__law_between.kp, b__law_between⟩
  have C__law_is_right : Has l.prog w K mg base "_law_is_right" 3 ["row", "told"] (spRight K C_Stairs_ C_Crooked_ C_Line_) _ _ := ⟨ok__law_is_right T g_Crooked RS RC RL I_Stairs I_Crooked IO kSC C__law_is_pair C__law_bounds_of C__law_between F__law_is_right, g__law_is_right, F__law_is_right.kp, b__law_is_right⟩
  have C__law_has_line : Has l.prog w K mg base "_law_has_line" 1 ["row", "m"] (spHasLine K) _ _ := ⟨ok__law_has_line T F__law_has_line, g__law_has_line, F__law_has_line.kp, b__law_has_line⟩
  have C__law_fault : Def K mg "_law_fault" s__law_fault ["deed"] f__law_fault _ := ⟨F__law_fault, g__law_fault, b__law_fault⟩
  exact ok_law T g_Stairs g_Crooked g_Line RS RC RL I_Stairs I_Crooked IO kSC kCS nfC B_BadNumber B_TooLarge (PySem.W.exm_ref exB_BadNumber hdB_BadNumber tyB_BadNumber sTB) TB C__law_take C__law_pick C__law_long C__law_at C__law_is_right C__law_has_line C_stairs C__law_fault C_Stairs_shows C_Crooked_shows C_Stairs C_Crooked C_Line B_Stairs B_Crooked Q_Stairs Q_Crooked F_law
end K14
open PySem PySem.W PyProof.Rows
set_option maxHeartbeats 0 in
theorem PySem.Challenge.cw_pointorstrip_k14_whole_stairs_holds : PySem.Challenge.rw_pointorstrip_k14_whole_stairs.Holds := by
  w_on; o_law; k_head; (case hw => w_witness2)
  k_fill
  refine LamX.walk_ofOwn (l := PySem.Challenge.rw_pointorstrip_k14_whole_stairs) (n := 63) (k := 12) (x := "script") (CX := fun _ => L2.CX0) rfl (by decide) rfl ⟨rfl, by decide, by decide⟩ (by decide +kernel) (fun w h Y => PySem.W.km_in_of Y) ?F (fun _ _ _ _ _ h => h)
  case F =>
    intro w mg fa h Y KX G hmg own
    refine' K14.all_mk KX G hmg own ?a_is_number ?l_is_number ?c_is_number ?k_is_number ?a_check_numbers ?l_check_numbers ?c_check_numbers ?k_check_numbers ?a_check_from ?l_check_from ?c_check_from ?k_check_from ?a_is_pair ?l_is_pair ?c_is_pair ?k_is_pair ?a_below ?l_below ?c_below ?k_below ?a_floor_of ?l_floor_of ?c_floor_of ?k_floor_of ?a_simplest_between ?l_simplest_between ?c_simplest_between ?k_simplest_between ?a_are_places ?l_are_places ?c_are_places ?k_are_places ?a_has_numbers ?l_has_numbers ?c_has_numbers ?k_has_numbers ?a_lower_bound ?l_lower_bound ?c_lower_bound ?k_lower_bound ?a_upper_bound ?l_upper_bound ?c_upper_bound ?k_upper_bound ?a_least_offset ?l_least_offset ?c_least_offset ?k_least_offset ?a_stairs ?l_stairs ?c_stairs ?k_stairs ?a_stairs_of ?l_stairs_of ?c_stairs_of ?k_stairs_of ?a__law_number ?l__law_number ?c__law_number ?k__law_number ?a__law_take ?l__law_take ?c__law_take ?k__law_take ?a__law_pick ?l__law_pick ?c__law_pick ?k__law_pick ?a__law_long ?l__law_long ?c__law_long ?k__law_long ?a__law_is_number ?l__law_is_number ?c__law_is_number ?k__law_is_number ?a__law_at ?l__law_at ?c__law_at ?k__law_at ?a__law_bounds_of ?l__law_bounds_of ?c__law_bounds_of ?k__law_bounds_of ?a__law_is_pair ?l__law_is_pair ?c__law_is_pair ?k__law_is_pair ?a__law_between ?l__law_between ?c__law_between ?k__law_between ?a__law_is_right ?l__law_is_right ?c__law_is_right ?k__law_is_right ?a__law_has_line ?l__law_has_line ?c__law_has_line ?k__law_has_line ?a__law_fault ?l__law_fault ?c__law_fault ?k__law_fault ?a_law ?l_law ?c_law ?aC_Line ?aC_Stairs ?aC_Crooked ?a_Line___init__ ?i_Line___init__ ?l_Line___init__ ?c_Line___init__ ?k_Line___init__ ?a_Line___eq__ ?i_Line___eq__ ?l_Line___eq__ ?c_Line___eq__ ?k_Line___eq__ ?a_Line_at ?i_Line_at ?l_Line_at ?c_Line_at ?k_Line_at ?a_Stairs___init__ ?i_Stairs___init__ ?l_Stairs___init__ ?c_Stairs___init__ ?k_Stairs___init__ ?a_Stairs___bool__ ?i_Stairs___bool__ ?l_Stairs___bool__ ?c_Stairs___bool__ ?k_Stairs___bool__ ?a_Stairs___eq__ ?i_Stairs___eq__ ?l_Stairs___eq__ ?c_Stairs___eq__ ?k_Stairs___eq__ ?a_Stairs_shows ?i_Stairs_shows ?l_Stairs_shows ?c_Stairs_shows ?k_Stairs_shows ?a_Crooked___init__ ?i_Crooked___init__ ?l_Crooked___init__ ?c_Crooked___init__ ?k_Crooked___init__ ?a_Crooked___bool__ ?i_Crooked___bool__ ?l_Crooked___bool__ ?c_Crooked___bool__ ?k_Crooked___bool__ ?a_Crooked___eq__ ?i_Crooked___eq__ ?l_Crooked___eq__ ?c_Crooked___eq__ ?k_Crooked___eq__ ?a_Crooked_shows ?i_Crooked_shows ?l_Crooked_shows ?c_Crooked_shows ?k_Crooked_shows ?pg_Line ?hd_Line ?po_Line ?sa_Line ?mk_Line ?kc_Line ?n_Line_a ?n_Line_b ?n_Line_m ?pg_Stairs ?hd_Stairs ?po_Stairs ?sa_Stairs ?mk_Stairs ?kc_Stairs ?n_Stairs_line ?n_Stairs_low ?n_Stairs_high ?pg_Crooked ?hd_Crooked ?po_Crooked ?sa_Crooked ?mk_Crooked ?kc_Crooked ?n_Crooked_low ?n_Crooked_high ?ha_Line ?hm_Line ?own_Line ?ha_Stairs ?hm_Stairs ?own_Stairs ?ha_Crooked ?hm_Crooked ?own_Crooked ?xC_Line ?nsC_Line ?eqC_Line ?neC_Line ?xC_Stairs ?nsC_Stairs ?eqC_Stairs ?neC_Stairs ?xC_Crooked ?nsC_Crooked ?eqC_Crooked ?neC_Crooked ?hn_ ?ht_ ?aB_BadNumber ?xB_BadNumber ?rB_BadNumber ?saB_BadNumber ?gaB_BadNumber ?ggB_BadNumber ?nB_BadNumber ?iB_BadNumber ?fnB_BadNumber ?cdB_BadNumber ?rwB_BadNumber ?ceB_BadNumber ?coB_BadNumber ?vsB_BadNumber ?fiB_BadNumber ?tI_BadNumber ?kB_BadNumber ?exB_BadNumber ?veB_BadNumber ?tyB_BadNumber ?hdB_BadNumber ?sB_BadNumber ?mB_BadNumber ?suB_BadNumber ?xiB_BadNumber ?aB_TooLarge ?xB_TooLarge ?rB_TooLarge ?saB_TooLarge ?gaB_TooLarge ?ggB_TooLarge ?nB_TooLarge ?iB_TooLarge ?fnB_TooLarge ?cdB_TooLarge ?rwB_TooLarge ?ceB_TooLarge ?coB_TooLarge ?vsB_TooLarge ?fiB_TooLarge ?tI_TooLarge ?kB_TooLarge ?exB_TooLarge ?veB_TooLarge ?tyB_TooLarge ?hdB_TooLarge ?sB_TooLarge ?mB_TooLarge ?suB_TooLarge ?xiB_TooLarge ?opq ?nos ?topB ?tc_ ?tv_ ?hdT_ ?np_ ?kCS ?kSC ?nfC ?sTB ?z_len ?z_range ?z_int ?z_bool ?z_isinstance ?z_list ?z_tuple ?z_max ?z_min ?z_any ?z_all ?z_enumerate ?z_LEAST_MANY ?z_MOST_MANY
    (case a_is_number => k_is)
    (case l_is_number => k_is)
    (case c_is_number => k_is)
    (case k_is_number => k_is)
    (case a_check_numbers => k_is)
    (case l_check_numbers => k_is)
    (case c_check_numbers => k_is)
    (case k_check_numbers => k_is)
    (case a_check_from => k_is)
    (case l_check_from => k_is)
    (case c_check_from => k_is)
    (case k_check_from => k_is)
    (case a_is_pair => k_is)
    (case l_is_pair => k_is)
    (case c_is_pair => k_is)
    (case k_is_pair => k_is)
    (case a_below => k_is)
    (case l_below => k_is)
    (case c_below => k_is)
    (case k_below => k_is)
    (case a_floor_of => k_is)
    (case l_floor_of => k_is)
    (case c_floor_of => k_is)
    (case k_floor_of => k_is)
    (case a_simplest_between => k_is)
    (case l_simplest_between => k_is)
    (case c_simplest_between => k_is)
    (case k_simplest_between => k_is)
    (case a_are_places => k_is)
    (case l_are_places => k_is)
    (case c_are_places => k_is)
    (case k_are_places => k_is)
    (case a_has_numbers => k_is)
    (case l_has_numbers => k_is)
    (case c_has_numbers => k_is)
    (case k_has_numbers => k_is)
    (case a_lower_bound => k_is)
    (case l_lower_bound => k_is)
    (case c_lower_bound => k_is)
    (case k_lower_bound => k_is)
    (case a_upper_bound => k_is)
    (case l_upper_bound => k_is)
    (case c_upper_bound => k_is)
    (case k_upper_bound => k_is)
    (case a_least_offset => k_is)
    (case l_least_offset => k_is)
    (case c_least_offset => k_is)
    (case k_least_offset => k_is)
    (case a_stairs => k_is)
    (case l_stairs => k_is)
    (case c_stairs => k_is)
    (case k_stairs => k_is)
    (case a_stairs_of => k_is)
    (case l_stairs_of => k_is)
    (case c_stairs_of => k_is)
    (case k_stairs_of => k_is)
    (case a__law_number => k_is)
    (case l__law_number => k_is)
    (case c__law_number => k_is)
    (case k__law_number => k_is)
    (case a__law_take => k_is)
    (case l__law_take => k_is)
    (case c__law_take => k_is)
    (case k__law_take => k_is)
    (case a__law_pick => k_is)
    (case l__law_pick => k_is)
    (case c__law_pick => k_is)
    (case k__law_pick => k_is)
    (case a__law_long => k_is)
    (case l__law_long => k_is)
    (case c__law_long => k_is)
    (case k__law_long => k_is)
    (case a__law_is_number => k_is)
    (case l__law_is_number => k_is)
    (case c__law_is_number => k_is)
    (case k__law_is_number => k_is)
    (case a__law_at => k_is)
    (case l__law_at => k_is)
    (case c__law_at => k_is)
    (case k__law_at => k_is)
    (case a__law_bounds_of => k_is)
    (case l__law_bounds_of => k_is)
    (case c__law_bounds_of => k_is)
    (case k__law_bounds_of => k_is)
    (case a__law_is_pair => k_is)
    (case l__law_is_pair => k_is)
    (case c__law_is_pair => k_is)
    (case k__law_is_pair => k_is)
    (case a__law_between => k_is)
    (case l__law_between => k_is)
    (case c__law_between => k_is)
    (case k__law_between => k_is)
    (case a__law_is_right => k_is)
    (case l__law_is_right => k_is)
    (case c__law_is_right => k_is)
    (case k__law_is_right => k_is)
    (case a__law_has_line => k_is)
    (case l__law_has_line => k_is)
    (case c__law_has_line => k_is)
    (case k__law_has_line => k_is)
    (case a__law_fault => k_is)
    (case l__law_fault => k_is)
    (case c__law_fault => k_is)
    (case k__law_fault => k_is)
    (case a_law => k_is)
    (case l_law => k_is)
    (case c_law => k_is)
    (case aC_Line => k_is)
    (case aC_Stairs => k_is)
    (case aC_Crooked => k_is)
    (case a_Line___init__ => k_is)
    (case i_Line___init__ => k_is)
    (case l_Line___init__ => k_is)
    (case c_Line___init__ => k_is)
    (case k_Line___init__ => k_is)
    (case a_Line___eq__ => k_is)
    (case i_Line___eq__ => k_is)
    (case l_Line___eq__ => k_is)
    (case c_Line___eq__ => k_is)
    (case k_Line___eq__ => k_is)
    (case a_Line_at => k_is)
    (case i_Line_at => k_is)
    (case l_Line_at => k_is)
    (case c_Line_at => k_is)
    (case k_Line_at => k_is)
    (case a_Stairs___init__ => k_is)
    (case i_Stairs___init__ => k_is)
    (case l_Stairs___init__ => k_is)
    (case c_Stairs___init__ => k_is)
    (case k_Stairs___init__ => k_is)
    (case a_Stairs___bool__ => k_is)
    (case i_Stairs___bool__ => k_is)
    (case l_Stairs___bool__ => k_is)
    (case c_Stairs___bool__ => k_is)
    (case k_Stairs___bool__ => k_is)
    (case a_Stairs___eq__ => k_is)
    (case i_Stairs___eq__ => k_is)
    (case l_Stairs___eq__ => k_is)
    (case c_Stairs___eq__ => k_is)
    (case k_Stairs___eq__ => k_is)
    (case a_Stairs_shows => k_is)
    (case i_Stairs_shows => k_is)
    (case l_Stairs_shows => k_is)
    (case c_Stairs_shows => k_is)
    (case k_Stairs_shows => k_is)
    (case a_Crooked___init__ => k_is)
    (case i_Crooked___init__ => k_is)
    (case l_Crooked___init__ => k_is)
    (case c_Crooked___init__ => k_is)
    (case k_Crooked___init__ => k_is)
    (case a_Crooked___bool__ => k_is)
    (case i_Crooked___bool__ => k_is)
    (case l_Crooked___bool__ => k_is)
    (case c_Crooked___bool__ => k_is)
    (case k_Crooked___bool__ => k_is)
    (case a_Crooked___eq__ => k_is)
    (case i_Crooked___eq__ => k_is)
    (case l_Crooked___eq__ => k_is)
    (case c_Crooked___eq__ => k_is)
    (case k_Crooked___eq__ => k_is)
    (case a_Crooked_shows => k_is)
    (case i_Crooked_shows => k_is)
    (case l_Crooked_shows => k_is)
    (case c_Crooked_shows => k_is)
    (case k_Crooked_shows => k_is)
    (case pg_Line => k_is)
    (case hd_Line => k_is)
    (case po_Line => k_is)
    (case sa_Line => k_is)
    (case mk_Line => k_is)
    (case kc_Line => k_is)
    (case n_Line_a => k_is)
    (case n_Line_b => k_is)
    (case n_Line_m => k_is)
    (case pg_Stairs => k_is)
    (case hd_Stairs => k_is)
    (case po_Stairs => k_is)
    (case sa_Stairs => k_is)
    (case mk_Stairs => k_is)
    (case kc_Stairs => k_is)
    (case n_Stairs_line => k_is)
    (case n_Stairs_low => k_is)
    (case n_Stairs_high => k_is)
    (case pg_Crooked => k_is)
    (case hd_Crooked => k_is)
    (case po_Crooked => k_is)
    (case sa_Crooked => k_is)
    (case mk_Crooked => k_is)
    (case kc_Crooked => k_is)
    (case n_Crooked_low => k_is)
    (case n_Crooked_high => k_is)
    (case ha_Line => k_is)
    (case hm_Line => k_is)
    (case own_Line => kernel_rfl)
    (case ha_Stairs => k_is)
    (case hm_Stairs => k_is)
    (case own_Stairs => kernel_rfl)
    (case ha_Crooked => k_is)
    (case hm_Crooked => k_is)
    (case own_Crooked => kernel_rfl)
    (case xC_Line => k_is)
    (case nsC_Line => kernel_rfl)
    (case eqC_Line => k_is)
    (case neC_Line => k_is)
    (case xC_Stairs => k_is)
    (case nsC_Stairs => kernel_rfl)
    (case eqC_Stairs => k_is)
    (case neC_Stairs => k_is)
    (case xC_Crooked => k_is)
    (case nsC_Crooked => kernel_rfl)
    (case eqC_Crooked => k_is)
    (case neC_Crooked => k_is)
    (case hn_ => k_is)
    (case ht_ => k_is)
    (case aB_BadNumber => k_is)
    (case xB_BadNumber => k_is)
    (case rB_BadNumber => first | rfl | decide +kernel)
    (case saB_BadNumber => k_is)
    (case gaB_BadNumber => k_is)
    (case ggB_BadNumber => k_is)
    (case nB_BadNumber => k_is)
    (case iB_BadNumber => k_is)
    (case fnB_BadNumber => k_is)
    (case cdB_BadNumber => k_is)
    (case rwB_BadNumber => first | rfl | decide)
    (case ceB_BadNumber => k_is)
    (case coB_BadNumber => k_is)
    (case vsB_BadNumber => first | rfl | k_is)
    (case fiB_BadNumber => first | rfl | decide +kernel)
    (case tI_BadNumber => k_is)
    (case kB_BadNumber => k_is)
    (case exB_BadNumber => k_is)
    (case veB_BadNumber => k_is)
    (case tyB_BadNumber => k_is)
    (case hdB_BadNumber => k_is)
    (case sB_BadNumber => first | rfl | k_is)
    (case mB_BadNumber => k_is)
    (case suB_BadNumber => ks_is)
    (case xiB_BadNumber => kernel_rfl)
    (case aB_TooLarge => k_is)
    (case xB_TooLarge => k_is)
    (case rB_TooLarge => first | rfl | decide +kernel)
    (case saB_TooLarge => k_is)
    (case gaB_TooLarge => k_is)
    (case ggB_TooLarge => k_is)
    (case nB_TooLarge => k_is)
    (case iB_TooLarge => k_is)
    (case fnB_TooLarge => k_is)
    (case cdB_TooLarge => k_is)
    (case rwB_TooLarge => first | rfl | decide)
    (case ceB_TooLarge => k_is)
    (case coB_TooLarge => k_is)
    (case vsB_TooLarge => first | rfl | k_is)
    (case fiB_TooLarge => first | rfl | decide +kernel)
    (case tI_TooLarge => k_is)
    (case kB_TooLarge => k_is)
    (case exB_TooLarge => k_is)
    (case veB_TooLarge => k_is)
    (case tyB_TooLarge => k_is)
    (case hdB_TooLarge => k_is)
    (case sB_TooLarge => first | rfl | k_is)
    (case mB_TooLarge => k_is)
    (case suB_TooLarge => ks_is)
    (case xiB_TooLarge => kernel_rfl)
    (case opq => k_is)
    (case nos => k_is)
    (case topB => first | rfl | decide +kernel)
    (case tc_ => k_is)
    (case tv_ => first | rfl | k_is)
    (case hdT_ => kernel_rfl)
    (case np_ => first | rfl | kernel_rfl)
    (case kCS => kernel_rfl)
    (case kSC => kernel_rfl)
    (case nfC => first | kernel_rfl | k_is)
    (case sTB => first | rfl | k_is | kernel_rfl)
    (case z_len => k_is)
    (case z_range => k_is)
    (case z_int => k_is)
    (case z_bool => k_is)
    (case z_isinstance => k_is)
    (case z_list => k_is)
    (case z_tuple => k_is)
    (case z_max => k_is)
    (case z_min => k_is)
    (case z_any => k_is)
    (case z_all => k_is)
    (case z_enumerate => k_is)
    (case z_LEAST_MANY => k_is)
    (case z_MOST_MANY => k_is)
