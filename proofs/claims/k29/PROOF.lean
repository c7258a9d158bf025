import PyProof.Rows.All
import Wide.All
import OpenK.AllK
import Wide.FinOn
import PySem.Challenge.RW_pointorstrip_k29_points_under_lines
import HandS.ForMost
import HandS.ForExc
import HandS.Wide
import HandS.IsInst
import HandS.Style
import HandS.ExcField
import HandS.ExcIs
import HandS.OwnEq
import KE.KExcSuper
import KE.GoesMore
import KE.BitLaws
import HandS.WideBits
import HandS.SortKw
import HandS.Flow
import HandS.Gcd
import HandS.NoneIn
import HandS.Records
import KE.DatumOrd
import KE.KExcIs
import HandS.ListEq
import HandS.DeepEq
import HandS.TupAny
import HandS.AnyAll
import HandS.Walk
set_option Elab.async false
set_option linter.all false
set_option maxRecDepth 100000
set_option maxHeartbeats 0
/-! ### rules and heaps of our own -/
namespace My
open PySem PySem.Spec PyProof.Rows L2
theorem asm {p : Prop} (h : p) : p := h
/-- what the operators ask, closed up so that nothing unfolds it -/
structure OkMul (i j : Int) : Prop where
  ok : IntMulOk i j
structure OkDiv (i j : Int) : Prop where
  ok : CDivW i j
structure OkMod (i j : Int) : Prop where
  ok : 0 < j
theorem op_mulA {X : Cx} : OpR X (binaryOp .Mult) (rI OkMul fun i j => .int (i * j)) := opI fun _ _ _ _ _ _ _ hc q => mul_int q hc.ok
theorem op_fdivA {X : Cx} : OpR X (binaryOp .FloorDiv) (rI OkDiv fun i j => .int (i / j)) := opI fun i j _ _ _ _ _ hc q => by
  have h1 : (0 : Int) < j := hc.ok.1
  exact floordiv_int (by omega) (by rw [Int.fdiv_eq_ediv_of_nonneg i (by omega)]; exact q) (.inl (PyProof.noPylong_of_log2 hc.ok.2))
theorem op_modA {X : Cx} : OpR X (binaryOp .Mod) (rI OkMod fun i j => .int (i % j)) := opI fun i j _ _ _ _ _ hc q => by
  have h1 : (0 : Int) < j := hc.ok
  exact mod_int' (by omega) (by rw [Int.fmod_eq_emod_of_nonneg i (by omega)]; exact q)
theorem pget_list {X : Cx} : PGet X (rIxL X.K) := by
  intro pins s σ H x y v u Q I rx ry h
  obtain ⟨p, xs, i, z, rfl, rfl, hq, he, q⟩ := h
  cases rx
  obtain ⟨t, rfl⟩ := ry
  obtain ⟨its, r, pl, hz⟩ := I.list hq
  obtain ⟨j, h1, h2, h3, h4, h5⟩ := atI_get he
  obtain ⟨w, ew, rw'⟩ := r.get h2
  have hl := r.length
  have hn := line63
  have fin : EP X pins σ Q w s := ⟨z, H, I, rw', q⟩
  by_cases h0 : 0 ≤ i
  · have hj : i.toNat = j := by
      rw [seqIndex_of h0 h5] at h1
      exact Option.some.inj h1
    exact wpAny_getItem_list pl.isList h0 (by omega) (by rw [hj]; simpa using ew) fin
  · have hj : (i + (its.toArray.size : Int)).toNat = j := by
      rw [seqIndex_neg (by omega) h4] at h1
      rw [List.size_toArray, ← hl]
      exact Option.some.inj h1
    exact wpAny_getItem_list_neg pl.isList (by omega) (by rw [List.size_toArray] <;> omega) (by omega) (by rw [hj]; simpa using ew) fin
theorem same_upd {H : Hp} {p : Addr} {o : HO} (h : H p = none) : Same H (upd H p o) := fun b x e => by
  rw [upd_ne (ne_of_none e h)]
  exact e
/-- all but one object as it was -/
def Keep (d : Addr) (H H' : Hp) : Prop := ∀ b o, b ≠ d → H b = some o → H' b = some o
theorem Keep.refl (d : Addr) (H : Hp) : Keep d H H := fun _ _ _ h => h
theorem Keep.trans {d : Addr} {H H1 H2 : Hp} (a : Keep d H H1) (b : Keep d H1 H2) : Keep d H H2 := fun c o n h => b c o n (a c o n h)
theorem Keep.of {d : Addr} {H H1 : Hp} (a : Same H H1) : Keep d H H1 := fun c o _ h => a c o h
theorem Keep.upd (d : Addr) (H : Hp) (o : HO) : Keep d H (upd H d o) := fun b x n e => by
  rw [upd_ne n]
  exact e
theorem Keep.seq {K : PySem.W.Frag} {d : Addr} {H H' : Hp} {a : Addr} {xs : List V} (e : Keep d H H') (n : a ≠ d) (h : SqL K H a xs) : SqL K H' a xs := by
  rcases h with (h | ⟨o, h⟩) | h
  · exact .inl (.inl (e _ _ n h))
  · exact .inl (.inr ⟨o, e _ _ n h⟩)
  · exact .inr h
theorem Keep.tup {K : PySem.W.Frag} {d : Addr} {H H' : Hp} {a : Addr} {xs : List V} (e : Keep d H H') (n : a ≠ d) (h : SqT K H a xs) : SqT K H' a xs := by
  rcases h with (h | ⟨o, h⟩) | h
  · exact .inl (.inl (e _ _ n h))
  · exact .inl (.inr ⟨o, e _ _ n h⟩)
  · exact .inr h
theorem Same.tup {K : PySem.W.Frag} {H H' : Hp} {a : Addr} {xs : List V} (e : Same H H') (h : SqT K H a xs) : SqT K H' a xs := by
  rcases h with (h | ⟨o, h⟩) | h
  · exact .inl (.inl (e _ _ h))
  · exact .inl (.inr ⟨o, e _ _ h⟩)
  · exact .inr h
theorem Keep.seqS {K : PySem.W.Frag} {d s : Addr} {H H' : Hp} {r : List V} {ns : List Int} (e : Keep d H H') (hd : H d = some (.lst (.ref s :: r))) (h : SqL K H s (ns.map V.int)) : SqL K H' s (ns.map V.int) := by
  rcases h with (h | ⟨o, h⟩) | h
  · refine .inl (.inl (e _ _ ?_ h))
    rintro rfl
    rw [hd] at h
    cases ns with
    | nil => cases h
    | cons n ns => cases h
  · refine .inl (.inr ⟨o, e _ _ ?_ h⟩)
    rintro rfl
    rw [hd] at h
    cases h
  · exact .inr h
/-- the list that draws: the script, how many were drawn -/
def DrawAt (K : PySem.W.Frag) (H : Hp) (d s : Addr) (ns : List Int) : Prop := ∃ k : Int, H d = some (.lst [.ref s, .int k]) ∧ SqL K H s (ns.map V.int) ∧ ns.length ≤ 63
theorem DrawAt.same {K : PySem.W.Frag} {H H' : Hp} {d s : Addr} {ns : List Int} (e : Same H H') (h : DrawAt K H d s ns) : DrawAt K H' d s ns := by
  obtain ⟨k, h1, h3, h4⟩ := h
  exact ⟨k, e _ _ h1, e.seq h3, h4⟩
theorem DrawAt.set {K : PySem.W.Frag} {H : Hp} {d s : Addr} {ns : List Int} {k : Int} (h : DrawAt K H d s ns) : DrawAt K (upd H d (.lst [.ref s, .int k])) d s ns := by
  obtain ⟨k0, h1, h3, h4⟩ := h
  exact ⟨k, upd_same, (Keep.upd d H _).seqS h1 h3, h4⟩
theorem mulOk {i j : Int} {a b : Nat} (ha : i.natAbs < 2 ^ a) (hb : j.natAbs < 2 ^ b) (h0 : 0 < a) (h1 : 0 < b) (h : a + b ≤ 1000000) : OkMul i j := ⟨(wide_mul ha hb h0 h1 h).ok⟩
theorem mulOkL {i j : Int} (h1 : -(2 ^ 64) < i) (h2 : i < 2 ^ 64) : OkMul i j := ⟨CMul.ok (.inl ⟨h1, h2⟩)⟩
theorem mulOkR {i j : Int} (h1 : -(2 ^ 64) < j) (h2 : j < 2 ^ 64) : OkMul i j := ⟨CMul.ok (.inr ⟨h1, h2⟩)⟩
theorem divOk {i j : Int} (h : 0 < j) (hb : j < 2 ^ 64) : OkDiv i j := ⟨wide_div (b := 64) h (by omega) (by decide) (by decide)⟩
theorem call_absN {X : Cx} : CallR X (.builtin "abs") (fun xs H Q => ∃ i : Int, xs = [.int i] ∧ Q (.int (i.natAbs : Int)) H) := fun pins s σ H xs us Q I r ⟨i, e, q⟩ => call_abs pins s σ H xs us Q I r ⟨i, e, by
  have h : (if i < 0 then -i else i) = (i.natAbs : Int) := by split <;> omega
  rw [h]
  exact q⟩
theorem call_minN {X : Cx} (hc : X.calm = true) : CallR X (.builtin "min") (fun xs H Q => ∃ i j : Int, xs = [.int i, .int j] ∧ Q (.int (min i j)) H) := fun pins s σ H xs us Q I r ⟨i, j, e, q⟩ => call_min2 hc pins s σ H xs us Q I r ⟨i, j, e, by
  have h : (if j < i then j else i) = min i j := by split <;> omega
  rw [h]
  exact q⟩
/-- the ways of a conditional expression joined -/
theorem tIf_via {t : TT} {ta tb : TE} {σ : L2.St} {H : Hp} {Q : VK} (R : V → Hp → Prop) (h : ∀ Q' : VK, (∀ v H', R v H' → Q' v H') → tIf t ta tb σ H Q') (k : ∀ v H', R v H' → Q v H') : tIf t ta tb σ H Q := h Q k
/-- name = a if t else b, more -/
theorem sIf_via {t : TT} {ta tb : TE} {g : TG} {u : TS} {D : Ends} {σ : L2.St} {H : Hp} (R : V → Hp → Prop) (h : ∀ Q' : VK, (∀ v H', R v H' → Q' v H') → tIf t ta tb σ H Q') (k : ∀ v H', R v H' → g v σ H' fun σ' H'' => u D σ' H'') : tSeq (tAsg (tIf t ta tb) g) u D σ H := h _ k
theorem call_intI {X : Cx} : CallR X (.type "int") (fun xs H Q => ∃ i, xs = [.int i] ∧ Q (.int i) H) := fun pins s σ H xs us Q I r h => call_int1 pins s σ H xs us Q I r (.inl h)
theorem call_lenL {X : Cx} : CallR X (.builtin "len") (fun xs H Q => ∃ p ys, xs = [.ref p] ∧ SqL X.K H p ys ∧ Q (.int ys.length) H) := fun pins s σ H xs us Q I r ⟨p, ys, e, h, q⟩ => call_len_seq pins s σ H xs us Q I r ⟨p, ys, e, .inl h, q⟩
theorem pe_ty {X : Cx} {x : Str} {n : String} {pos : Pos} (hg : Gl X x) (hm : X.mg x = none) (hv : bootBuiltins x = some (.type n)) (hn : x ≠ Str.ofString "__name__" := by decide) (hd : (x == Str.ofString "__debug__") = false := by decide) : PE X (.Name x pos) (tC (.ty n)) := pe_bltn hg hm hv rfl (hn := hn) (hd := hd)
section
variable {P : Program} {w : World} {K : PySem.W.Frag} {mg : Str → Option Value} {base : Heap}
/-- a def that stands at its name and keeps its promise -/
structure Has (P : Program) (w : World) (K : PySem.W.Frag) (mg : Str → Option Value) (base : Heap) (x : Str) (k : Nat) (ps : List Str) (sp : Sp) (f : Addr) (fd : FuncData) : Prop where
  G : FnOk P w K mg base CX0 k f fd ps sp
  g : mg x = some (.ref f)
  k : PySem.W.keepIn K (.ref f) = true
  b : Binds K fd ps []
/-- the def as the top left it -/
structure Def (K : PySem.W.Frag) (mg : Str → Option Value) (x : Str) (st : Stmt) (ps : List Str) (f : Addr) (fd : FuncData) : Prop where
  F : Fun K x x st f fd
  g : mg x = some (.ref f)
  b : Binds K fd ps []
theorem Def.has {x : Str} {st : Stmt} {ps : List Str} {k : Nat} {sp : Sp} {f : Addr} {fd : FuncData} (D : Def K mg x st ps f fd) (G : FnOk P w K mg base CX0 k f fd ps sp) : Has P w K mg base x k ps sp f fd := ⟨G, D.g, D.F.kp, D.b⟩
end
end My
/-! ### an own error: class X(Base) over ValueError, def __init__(self, f): super().__init__("..") and self.f = f -/
namespace Xc
open PySem PySem.W PySem.Calls PyProof.Rows PySem.HandSPX
abbrev veT : List Value := [.type "ValueError", .type "Exception", .type "BaseException", .type "object"]
/-- the two parameters -/
def prm (f : Str) (p1 p2 : Pos) : Arguments := { posonlyargs := [], args := [{ arg := "self", annotation := none, pos := p1 }, { arg := f, annotation := none, pos := p2 }], vararg := none, kwonlyargs := [], kw_defaults := [], kwarg := none, defaults := [] }
/-- the two statements -/
def bdy (f txt : Str) (k : Nat) (p0 p1 p2 p3 p4 p5 q1 q2 q3 q4 : Pos) : List Stmt :=
  [.Expr (.Call (.Attribute (.Call (.Name "super" p0) [] [] p1) "__init__" p2) [.Constant (.str txt) k p3] [] p4) p5, .Assign [.Attribute (.Name "self" q1) f q2] (.Name f q3) q4]
def scp (f : Str) : Scope := { kind := .function, names := [(PySem.Str.ofString "self", .local), (f, .local), (PySem.Str.ofString "__class__", .free), (PySem.Str.ofString "super", .globalImplicit)], isGenerator := false, isCoroutine := false, more := [] }
/-- what the written part says of the class at C, its __init__ at fI, the code's record at cda, the cell of the class at cc -/
structure Own (P : Program) (K : Frag) (mg : Str → Option Value) (n f : Str) (C fI cda cc : Addr) : Prop where
  gC : mg n = some (.ref C)
  cls : ∃ nm q N bs bm sn sub ab col dd k0 k1 k2 k3 k5, K.lookup C = some (excClassObj nm q C N bs bm true sn sub ab col dd k0 k1 k2 k3 k5 "ValueError.__new__") ∧ refsVE bm = true
  sa : findIn K (.ref C) "__setattr__" = some (some (.builtin "object.__setattr__"))
  ga : findIn K (.ref C) "__getattribute__" = some (some (.builtin "BaseException.__getattribute__"))
  gg : findIn K (.ref C) "__getattr__" = some none
  noN : findIn K (.ref C) f = some none
  iC : findIn K (.ref C) "__init__" = some (some (.ref fI))
  tC : typeIn K (.ref fI) = some (.type "function")
  kC : keepIn K (.ref C) = true
  exC : subIn K (.ref C) (.type "BaseException") = some true
  veC : subIn K (.ref C) (.type "ValueError") = some true
  tyC : typeIn K (.ref C) = some (.type "type")
  hdC : hasDictIn K C = true
  te : exmOne K (.ref C) (.ref C) = some true
  mro : mroIn K C (.ref C) = some true
  sup : ks_superIn K C C "__init__" = some (some (.builtin "ValueError.__init__"))
  xin : excInitIn K C veT "ValueError.__new__" = true
  opq : nsIn K cStatics "thirdparty.any" = some none
  nos : nsIn K mainGlobals "super" = some none
  cell : ∃ cl cld csl, K.lookup cc = some ⟨cl, cld, .cell (some (.ref C)), csl⟩
  code : ∃ ccl cdd vs ccs file tf, K.lookup cda = some ⟨ccl, cdd, .fields vs, ccs⟩ ∧ vs[2]? = some (.str file tf) ∧ ((P.main.file : Str) == file) = true
  fn : ∃ (qual txt : Str) (k : Nat) (oc : Value) (od : Option Addr) (doc pm : Value) (an : Option Addr) (ct : Value) (osl : Array (Option Value)) (a1 a2 p0 p1 p2 p3 p4 p5 q1 q2 q3 q4 : Pos),
    K.lookup fI = some ⟨oc, od, .func (ksFn "__init__" qual (prm f a1 a2) (bdy f txt k p0 p1 p2 p3 p4 p5 q1 q2 q3 q4) (scp f) .none .none doc pm an (.ref cda) ct cc), osl⟩ ∧ codeIn K (.ref cda) qual = true ∧ (p2.endLine == p4.line) = true
  top : (P.main.scope.names.lookup ("super" : Str)).isSome = false
/-- how the arguments bind, for a written name -/
def Bnd (f : Str) : Prop := ∀ (qual : Str) (a1 a2 : Pos) (body : List Stmt) (doc pm : Value) (an : Option Addr) (cdv ct : Value) (cc : Addr) (x v : Value),
  bindArgs (ksFn "__init__" qual (prm f a1 a2) body (scp f) .none .none doc pm an cdv ct cc) ⟨[x, v], []⟩ = pure ([("self", x), (f, v)] : List (Str × Value))
/-- a written name of a field -/
structure Fld (f : Str) : Prop where
  ne : (f == ("self" : Str)) = false
  bd : Bnd f
  c : (scp f).names.lookup ("__class__" : Str) = some .free
  s : (scp f).names.lookup ("super" : Str) = some .globalImplicit
  l : (scp f).names.lookup f = some .local
  db : (f == ("__debug__" : Str)) = false
theorem fld_number : Fld "number" := ⟨by decide, fun _ _ _ _ _ _ _ _ _ _ _ _ => rfl, rfl, rfl, rfl, by decide⟩
theorem fld_value : Fld "value" := ⟨by decide, fun _ _ _ _ _ _ _ _ _ _ _ _ => rfl, rfl, rfl, rfl, by decide⟩
/-- a call of a method, name and parenthesis in one row -/
theorem one_row {o : Expr} {name : Str} {apos pos : Pos} {e : Expr} {env : Env} (h : (apos.endLine == pos.line) = true) (hs : starEach [e] env = [(false, eval e env)]) :
    eval (.Call (.Attribute o name apos) [e] [] pos) env = (do
      let ov ← attributeBase o name env (eval o env)
      standAt apos.atName
      let (fn, first) ← holding [ov] (getMethod ov name (do return (← importBound o env).getD true))
      callWith pos fn first (backTo pos (starEach [e] env)) []) := by
  have hf : methodCallForm ([e].length + ([] : List Keyword).length) (backTo pos (starEach [e] env)) (backToKw pos (keywordEach [] env)) = true := by
    rw [hs]
    rfl
  have hp : ∀ few, methodCallPos few o env apos pos = pure pos := fun few => by
    unfold methodCallPos
    rw [h, Bool.or_true]
    rfl
  show (do
    let ov ← attributeBase o name env (eval o env)
    standAt apos.atName
    methodCall o name apos pos env ov ([e].length + ([] : List Keyword).length) (backTo pos (starEach [e] env)) (backToKw pos (keywordEach [] env))) = _
  unfold methodCall
  rw [hf]
  simp only [hp, pure_bind]
  rfl
/-- what __init__ leaves, against the heap ahead of the object -/
structure Left (h h' : Heap) (x C dx t1 : Addr) (f : Str) (v : Value) : Prop where
  keep : ∀ b o, h.get? b = some o → h'.get? b = some o
  obj : h'.get? x = some { cls := .ref C, dict := some dx, data := .fields #[.ref t1, .none, .none, .none, .bool false, .none] }
  dbig : h.objs.size ≤ dx
  dne : dx ≠ x
  ns : h'.Ns1 dx (fun y => if y = f then some v else none)
section
variable {prog : Program} {w : World} {A : Around} {R : Result → Shared → Prop} {K : Frag} {mg : Str → Option Value} {n f : Str} {C fI cda cc : Addr} {hp : Heap} {g : Array GenState} {dr : Drawn} {tk : Nat} {os : OsState}
theorem xc_init (T : Own prog K mg n f C fI cda cc) {v : Value} (X : K.In hp) (hlim : hp.NoLimit) (Gm : hp.Ns mainGlobals mg) (Gb : ∃ mb, hp.Ns builtinsNs mb ∧ ∀ x : Str, x ≠ "__name__" → mb x = bootBuiltins x)
    (W : Fld f) (hroom : A.depth < recursionLimit)
    (hq : ∀ h' tk' dx t1, Left hp h' (hp.objs.size + 1) C dx t1 f v → R (.ok (.ret .none)) ⟨h', g, dr, tk', os⟩) :
    codeAny (model prog w) A (.call (.ref fI) ⟨[.ref (hp.objs.size + 1), v], []⟩) R ⟨(hp.push (kdv_tup [v])).push (HandSPX.excO C hp.objs.size), g, dr, tk, os⟩ := by
  obtain ⟨qual, txt, k, oc, od, doc, pm, an, ct, osl, a1, a2, p0, p1, p2, p3, p4, p5, q1, q2, q3, q4, ho, hcd, hrow⟩ := T.fn
  obtain ⟨nm, q, N, bs, bm, sn, sub, ab, col, dd, k0, k1, k2, k3, k5, hC, hbm⟩ := T.cls
  have hcl : clsIn K C = some { name := nm, bases := bs, mro := .ref C :: bm, ns := N, qualname := q, hasDict := true, slotNames := sn, subclasses := sub, abstract := ab, collection := col, hasDel := false } := by unfold clsIn; rw [hC] <;> rfl
  have kk : ∀ b o, hp.get? b = some o → ((hp.push (kdv_tup [v])).push (HandSPX.excO C hp.objs.size)).get? b = some o := fun b o e => Heap.get?_push_of_some _ (Heap.get?_push_of_some _ e)
  have hx : ((hp.push (kdv_tup [v])).push (HandSPX.excO C hp.objs.size)).get? (hp.objs.size + 1) = some (HandSPX.excO C hp.objs.size) := by heap_get
  have ht : ((hp.push (kdv_tup [v])).push (HandSPX.excO C hp.objs.size)).get? hp.objs.size = some (kdv_tup [v]) := by heap_get
  refine ks_codeAny_call_defAt (fd := ksFn "__init__" qual (prm f a1 a2) (bdy f txt k p0 p1 p2 p3 p4 p5 q1 q2 q3 q4) (scp f) .none .none doc pm an (.ref cda) ct cc) (body := bdy f txt k p0 p1 p2 p3 p4 p5 q1 q2 q3 q4) (binds := [("self", .ref (hp.objs.size + 1)), (f, v)])
    hroom ((X.keeps kk) _ _ ho) rfl (hlim.keeps kk) (codeRec_of (X.keeps kk) hcd) rfl (BindsTo.of_eq ?bind) ?cells ?locs (fun h₁ hns hk => ?_)
  case bind => exact W.bd _ _ _ _ _ _ _ _ _ _ _ _
  case cells =>
    intro y hy
    have hy : y ∈ (scp f).names := hy
    simp only [scp, List.mem_cons, List.not_mem_nil, or_false] at hy
    rcases hy with rfl | rfl | rfl | rfl <;> (intro z; cases z)
  case locs =>
    intro y hy
    show (scp f).names.lookup y.1 = some .local
    simp only [List.mem_cons, List.not_mem_nil, or_false] at hy
    rcases hy with rfl | rfl
    · rfl
    · show List.lookup f ((PySem.Str.ofString "self", NameKind.local) :: (f, NameKind.local) :: _) = _
      rw [List.lookup_cons, W.ne, List.lookup_cons, beq_self_eq_true]
  -- the frame at L, the object and its args as what is new
  have hL : ((hp.push (kdv_tup [v])).push (HandSPX.excO C hp.objs.size)).objs.size = hp.objs.size + 1 + 1 := by rw [Heap.size_push, Heap.size_push]
  dsimp only at hns ⊢
  generalize ((hp.push (kdv_tup [v])).push (HandSPX.excO C hp.objs.size)).objs.size = L at hns hL ⊢
  have F : Fr hp L h₁ (fun y => [(("self" : Str), Value.ref (hp.objs.size + 1)), (f, v)].reverse.lookup y) := ⟨hns, fun b o e => hk b o (kk b o e), by omega⟩
  have N : News hp L h₁ [(hp.objs.size + 1, excObj C hp.objs.size none .none), (hp.objs.size, excTup [v])] := by
    intro p hp'
    rcases List.mem_cons.mp hp' with rfl | hp'
    · exact ⟨hk _ _ hx, by show hp.objs.size + 1 ≠ _; omega, Heap.get?_none_of_le (by show hp.objs.size ≤ hp.objs.size + 1; omega)⟩
    rcases List.mem_cons.mp hp' with rfl | hp'
    · exact ⟨hk _ _ ht, by show hp.objs.size ≠ _; omega, Heap.get?_none_of_le (Nat.le_refl _)⟩
    · cases hp'
  have X₁ : K.In h₁ := X.keeps F.keep
  have I : InstAt h₁ (hp.objs.size + 1) (excObj C hp.objs.size none .none) C none := ⟨(N _ List.mem_cons_self).1, rfl, rfl, trivial⟩
  have keepQ : ∀ (h' : Heap) (tk' : Nat), True := fun _ _ => trivial
  -- super()
  show PySem.wpAt (model prog w) (A.deeper (ksEnv qual (scp f) L fI (.ref cda) cc)) (.func (bdy f txt k p0 p1 p2 p3 p4 p5 q1 q2 q3 q4) (ksEnv qual (scp f) L fI (.ref cda) cc))
    (execs [.Expr (.Call (.Attribute (.Call (.Name "super" p0) [] [] p1) "__init__" p2) [.Constant (.str txt) k p3] [] p4) p5, .Assign [.Attribute (.Name "self" q1) f q2] (.Name f q3) q4] (ksEnv qual (scp f) L fI (.ref cda) cc)) _ _ _
  refine ks_wpAt_execs_cons (ks_wpAt_Expr_any (ks_wpAt_MethodCall ?_ (one_row hrow rfl)))
  obtain ⟨cl, cld, csl, hcell⟩ := T.cell
  obtain ⟨ccl, cdd, vs, ccs, file, tf, hcode, hvs, hfile⟩ := T.code
  obtain ⟨mb, hmb, hbb⟩ := Gb
  refine ks_wpAt_super_base (hks := W.s) (hkc := W.c) (hat := by decide) (hfu := rfl) (hf := X₁ _ _ ho) (hfd := rfl) (hp := rfl) (hco := rfl) (hcc := X₁ _ _ hcode) (hoc := rfl) (hvs := hvs) (hfile := hfile) (htop := T.top) ?_
  refine ks_loadName_global rfl W.s (loadGlobal_builtin (mg := mg) (mb := mb) (Gm.keepsP F.keep) (mg_none_of X Gm T.nos) (hmb.keepsP F.keep) ((hbb _ (by decide +kernel)).trans (by decide +kernel : bootBuiltins "super" = some (.type "super"))) ⟨rfl, ?_⟩)
  refine wpAny_loadName_free rfl W.c rfl (v := .ref C) ⟨_, X₁ _ _ hcell, rfl⟩ ?_
  refine wpAny_loadName_local rfl rfl F.ns (v := .ref (hp.objs.size + 1)) ?_ ?_
  · show List.lookup ("self" : Str) [(f, v), (("self" : Str), Value.ref (hp.objs.size + 1))] = _
    have e : (("self" : Str) == f) = false := by
      have := W.ne
      rw [beq_eq_false_iff_ne] at this ⊢
      exact fun z => this z.symm
    rw [List.lookup_cons, e, List.lookup_cons, beq_self_eq_true]
  refine ks_wpAny_isType_cls (X₁ _ _ hC) rfl ⟨rfl, ?_⟩
  refine ks_wpAny_call_super (X₁ _ _ hC) rfl I.at_ I.cls (fun c e => by cases e) (looks_mroIn X₁ T.mro) (fun h₂ e₂ k₂ => ?_)
  obtain ⟨F₂, N₂, l₂⟩ := ks_newsPush (s := ⟨h₁, g, dr, tk + 2, os⟩) F N rfl e₂ k₂
  -- .__init__
  have I₂ : InstAt h₂ (hp.objs.size + 1) (excObj C hp.objs.size none .none) C none := ⟨k₂ _ _ I.at_, rfl, rfl, trivial⟩
  refine kxs_method kxs_ValueError F₂ X N₂ List.mem_cons_self I₂ T.opq T.sup T.veC (by decide) (fun u h₃ F₃ N₃ l₃ => ?_)
  -- ("..")
  refine kxs_callWith1 N₃ List.mem_cons_self (spliced_more (wpAny_Constant_str (spliced_none ⟨(N₃ _ List.mem_cons_self).1, ?_⟩)))
  have nu : u ≠ hp.objs.size + 1 := Nat.ne_of_gt (l₃ _ (List.mem_cons_of_mem _ List.mem_cons_self))
  have ns : h₁.objs.size ≠ hp.objs.size + 1 := Nat.ne_of_gt (l₂ _ List.mem_cons_self)
  refine kxs_call F₃ X N₃ PySem.F.excBase_ValueError T.xin List.mem_cons_self (UpdF.tail nu (UpdF.tail ns (UpdF.head fun p hp' => ?_))) ?_ (fun t' h₄ F₄ N₄ l₄ => ?_)
  · rcases List.mem_cons.mp hp' with rfl | hp'
    · show hp.objs.size ≠ hp.objs.size + 1
      omega
    · cases hp'
  · show 1 ≤ sizeLine
    decide
  have X₄ : K.In h₄ := X.keeps F₄.keep
  have hx₄ : h₄.get? (hp.objs.size + 1) = some (excObj C t' none .none) := (N₄ _ (List.mem_cons_of_mem _ (List.mem_cons_of_mem _ (List.mem_cons_of_mem _ List.mem_cons_self)))).1
  -- self.f = f
  show PySem.wpAt _ _ _ (execs _ _) _ _ _
  refine wpAt_of_wpAny (wpAny_execs_cons (plainObj_wpAny_Assign_Attribute ?_))
  have vf : (fun y => [(("self" : Str), Value.ref (hp.objs.size + 1)), (f, v)].reverse.lookup y) f = some v := by
    show List.lookup f [(f, v), (("self" : Str), Value.ref (hp.objs.size + 1))] = _
    rw [List.lookup_cons, beq_self_eq_true]
  have vs' : (fun y => [(("self" : Str), Value.ref (hp.objs.size + 1)), (f, v)].reverse.lookup y) ("self" : Str) = some (.ref (hp.objs.size + 1)) := by
    show List.lookup ("self" : Str) [(f, v), (("self" : Str), Value.ref (hp.objs.size + 1))] = _
    have e : (("self" : Str) == f) = false := by
      have := W.ne
      rw [beq_eq_false_iff_ne] at this ⊢
      exact fun z => this z.symm
    rw [List.lookup_cons, e, List.lookup_cons, beq_self_eq_true]
  refine wpAny_Name (wpAny_loadName_local rfl W.l F₄.ns vf ?_) W.db
  refine wpAny_Name (wpAny_loadName_local rfl rfl F₄.ns vs' ?_) (by decide)
  refine set_plain X₄ (ox := excObj C t' none .none) (od := none) ⟨hx₄, rfl, rfl, trivial⟩ T.sa ?_
  refine exc_osa X₄ hx₄ hcl (show refsVE (.ref C :: bm) = true from hbm) rfl T.noN (fun h₅ tk₅ dx k₅ dn dne hx₅ hn₅ => ?_)
  show wpAny _ _ (execs _ _) _ _ _
  have b₄ : hp.objs.size ≤ h₄.objs.size := Nat.le_of_lt (Nat.lt_of_succ_lt (Heap.lt_size hx₄))
  refine wpAny_execs_nil (hq h₅ tk₅ dx t' ⟨fun b o e => k₅ b o ?_ (F₄.keep b o e), hx₅, Nat.le_trans b₄ dn, dne, hn₅⟩)
  rintro rfl
  exact absurd (Nat.lt_of_succ_lt (Heap.lt_size e)) (Nat.lt_irrefl _)
/-- X(v) -/
structure Made (h h' : Heap) (e C d : Addr) (f : Str) (v : Value) : Prop where
  keep : ∀ b o, h.get? b = some o → h'.get? b = some o
  new : h.objs.size ≤ e
  obj : ∃ oe vs, h'.get? e = some oe ∧ oe.cls = .ref C ∧ oe.dict = some d ∧ oe.data = .fields vs ∧ vs[1]? = some .none
  dbig : h.objs.size ≤ d
  dne : d ≠ e
  ns : h'.Ns1 d (fun y => if y = f then some v else none)
theorem xc_made (T : Own prog K mg n f C fI cda cc) {v : Value} (X : K.In hp) (hlim : hp.NoLimit) (Gm : hp.Ns mainGlobals mg) (Gb : ∃ mb, hp.Ns builtinsNs mb ∧ ∀ x : Str, x ≠ "__name__" → mb x = bootBuiltins x)
    (W : Fld f) (hroom : A.depth + 1 < recursionLimit)
    (hq : ∀ h' tk' e d, Made hp h' e C d f v → R (.ok (.ret (.ref e))) ⟨h', g, dr, tk', os⟩) :
    codeAny (model prog w) A (.call (.ref C) ⟨[v], []⟩) R ⟨hp, g, dr, tk, os⟩ := by
  obtain ⟨nm, q, N, bs, bm, sn, sub, ab, col, dd, k0, k1, k2, k3, k5, hC, hbm⟩ := T.cls
  refine call_own PySem.F.excBase_ValueError (fun Y => refsVE_contains Y bm hbm) (X _ _ hC) (looks_findIn X T.iC) (fun self => bind_fn X self T.tC) (show 1 ≤ sizeLine by decide) ?_
  refine xc_init T X hlim Gm Gb W hroom fun h' tk' dx t1 Z => ?_
  exact ⟨rfl, hq h' tk' (hp.objs.size + 1) dx ⟨Z.keep, Nat.le_succ _, ⟨_, _, Z.obj, rfl, rfl, rfl, rfl⟩, Z.dbig, Z.dne, Z.ns⟩⟩
end
end Xc
/-! ### the same over the layer: raise X(e), the field in an except suite -/
namespace L2
open PySem PySem.Spec PyProof.Rows
theorem relO_one {f : Str} {v : V} {v' : Value} (r : RelV v v') (y : Str) : RelO (List.lookup y [(f, v)]) (if y = f then some v' else none) := by
  by_cases hw : y = f
  · rw [if_pos hw, hw, List.lookup_cons, beq_self_eq_true]
    exact r
  · rw [if_neg hw, List.lookup_cons, show (y == f) = false by simpa using hw]
    trivial
section
variable {X : Cx} {n f : Str} {C fI cda cc : Addr}
/-- X(e) -/
def tMkX (C : Addr) (f : Str) (ta : TA) : St → Hp → XK → Prop := fun σ H Q => ta σ H fun vs H1 => ∃ v, vs = [v] ∧ ∀ d, H1 d = none → Q (.ref C) (some d) (upd H1 d (.xd [(f, v)]))
theorem pmk_x {a : Expr} {ta : TA} {p pos : Pos} {k : Nat} (T : Xc.Own X.prog X.K X.mg n f C fI cda cc) (W : Xc.Fld f) (hr : Room k X.A) (ha : PA X [a] ta) (hg : Gl X n) (hdb : (n == ("__debug__" : Str)) = false)
    (he : starEach (a :: []) X.env = (false, eval a X.env) :: starEach [] X.env := by rfl) (hpl : (backTo pos (starEach [] X.env)).any (·.1) = false := by rfl) :
    PMk X (.Call (.Name n p) [a] [] pos) (tMkX C f ta) := by
  intro pins s σ H Q I h
  refine wpAny_Call_Name_kw (ld_glob I hg T.gC ?_ hdb)
  refine PySem.W.callWith_K (h₀ := X.base) I.ok.mod.kin T.kC (thn (ha.run pos pins s σ H _ I h) fun us s1 hh => ?_) he hpl
  obtain ⟨vs, H1, I1, r1, v, ev, q1⟩ := hh
  subst ev
  refine ⟨I1.kIn, ?_⟩
  cases r1 with
  | cons rv rn =>
    rename_i v' us'
    cases rn
    show wpAny _ _ (call (.ref C) [v']) _ _ _
    have hlim := I1.nolimit
    have hgm := I1.mod.glob.keepsP I1.bk
    obtain ⟨mb, hb1, hb2⟩ := I1.mod.blt
    have hgb := hb1.keepsP I1.bk
    obtain ⟨hp, g, dr, tk, os⟩ := s1
    refine wpAny_call (Xc.xc_made T I1.kIn hlim hgm ⟨mb, hgb, hb2⟩ W (by have := hr.dp; omega) fun h' tk' e d M => ?_)
    show MkP X pins σ Q (.ref e) ⟨h', g, dr, tk', os⟩
    obtain ⟨oe, fv, hoe, hc, hd, hdat, h1⟩ := M.obj
    have hns := M.ns
    obtain ⟨G', g1, g2⟩ := restrict h' fun b => decide (b ≠ e)
    have gk : ∀ b, b ≠ e → G'.get? b = h'.get? b := fun b hb => g1 b (decide_eq_true hb)
    have ge : G'.get? e = none := g2 e (by simp)
    have old : ∀ b o, hp.get? b = some o → G'.get? b = some o := fun b o q => (gk b (Nat.ne_of_lt (Nat.lt_of_lt_of_le (Heap.lt_size q) M.new))).trans (M.keep b o q)
    have ob : ObjOk X.prog X.w (upd H1 d (.xd [(f, v)])) G' d (.xd [(f, v)]) :=
      ⟨_, hns.at (fun o q => (gk d M.dne).trans q), fun y => relO_one rv y⟩
    have J : Inv X pins σ (upd H1 d (.xd [(f, v)])) ⟨G', g, dr, tk', os⟩ := I1.laid (t' := tk') old M.dbig ob
    refine ⟨e, oe, fv, ⟨G', g, dr, tk', os⟩, _, .ref C, some d, rfl, J, fun b o q => ?_, ge, hoe, ⟨hc, hd⟩, hdat, h1, ?_, rfl, I1.bare, raises_own T.exC T.tyC, q1 d (I1.hok.fresh M.dbig)⟩
    · by_cases hb : b = e
      · have q' : G'.get? b = some o := q
        rw [hb, ge] at q'
        cases q'
      · exact (gk b hb).symm.trans q
    · rw [upd_ne (Ne.symm M.dne)]
      exact I1.hok.fresh M.new
/-- raise X(e) -/
def tRaiseX (C : Addr) (f : Str) (W : WX) (ta : TA) : TS := fun _ σ H => tMkX C f ta σ H fun cls d H' => W cls d σ H'
theorem ps_raiseX {a : Expr} {ta : TA} {Wx : WX} {p pos pos2 : Pos} {k : Nat} (hc : X.calm = true) (T : Xc.Own X.prog X.K X.mg n f C fI cda cc) (W : Xc.Fld f) (hr : Room k X.A) (tk : Takes X Wx) (ha : PA X [a] ta) (hg : Gl X n) (hdb : (n == ("__debug__" : Str)) = false)
    (he : starEach (a :: []) X.env = (false, eval a X.env) :: starEach [] X.env := by rfl) (hpl : (backTo pos (starEach [] X.env)).any (·.1) = false := by rfl) :
    PS X (.Raise (some (.Call (.Name n p) [a] [] pos)) none pos2) (tRaiseX C f Wx ta) := ps_raise hc tk (pmk_x T W hr ha hg hdb he hpl)
end
end L2
/-! ### == and != by an own __eq__, both answers -/
namespace L2
open PySem PySem.Spec PyProof.Rows
/-- what may stand on the right -/
inductive EqTy (K : PySem.W.Frag) (H : Hp) (C : Addr) : V → Prop where
  | ins {b dx : Addr} {fs : List (Str × V)} (e : H b = some (.ins C dx fs)) : EqTy K H C (.ref b)
  | lst {b : Addr} {xs : List V} (e : H b = some (.lst xs)) (n : PySem.W.notFirst K C (.type "list") = true) : EqTy K H C (.ref b)
  | int (i : Int) (n : PySem.W.notFirst K C (.type "int") = true) : EqTy K H C (.int i)
/-- a class with an own __eq__ at f and no __ne__ -/
structure EqC (K : PySem.W.Frag) (C f : Addr) : Prop where
  eq : PySem.W.findIn K (.ref C) "__eq__" = some (some (.ref f))
  fn : PySem.W.isFn K (.ref f) = true
  cls : ∃ nm q N bs hdct sn sub ab col dd k0 k1 k2 k3 k5 newId, K.lookup C = some (excClassObj nm q C N bs [.type "object"] hdct sn sub ab col dd k0 k1 k2 k3 k5 newId) ∧
    PySem.W.nsOkIn K N = true ∧ PySem.W.nsIn K N "__eq__" = some (some (.ref f)) ∧ PySem.W.nsIn K N "__ne__" = some none
section
variable {X : Cx} {C f : Addr} {fd : FuncData} {ps : List Str} {sp : Sp} {CX : CXT} {E : XK} {n : Nat}
theorem EqTy.looks {pins : List (Addr × Obj)} {σ : L2.St} {H : Hp} {s : Shared} {y : V} {u : Value} (I : Inv X pins σ H s) (ry : RelV y u) (t : EqTy X.K H C y) :
    ∃ tb, PySem.W.Looks (model X.prog X.w) s.heap (typeOf u) tb ∧ PySem.W.notFirst X.K C tb = true := by
  cases t with
  | ins e =>
    cases ry
    obtain ⟨m, J, _⟩ := ins_get I.hok e
    obtain ⟨od, J, _⟩ := J.look
    exact ⟨.ref C, J.type, by simp [PySem.W.notFirst]⟩
  | lst e h =>
    cases ry
    obtain ⟨its, k, _, ho, _⟩ := I.lst e
    exact ⟨.type "list", fun A Q E s' k q => wpAny_typeOf_ref (k _ _ ho) q, h⟩
  | int i h =>
    obtain ⟨t, rfl⟩ := ry
    exact ⟨.type "int", PySem.W.Looks.of_pure rfl, h⟩
theorem ns_some_of {K : PySem.W.Frag} {h : Heap} {N : Addr} {m : Str → Option Value} {x : Str} {v : Value} (Y : K.In h) (G : h.Ns N m) (e : PySem.W.nsIn K N x = some (some v)) : m x = some v := by
  obtain ⟨o, es, ep, ho, hd, _, hf⟩ := G
  unfold PySem.W.nsIn at e
  split at e
  · rename_i c d es' k' sl q
    have z := (Y _ _ q).symm.trans ho
    cases z
    cases hd
    split at e
    · rename_i w he
      rw [← hf]
      unfold nsFind findBy
      rw [← Array.find?_toList, he]
      injection e with e
    · split at e <;> cases e
  · cases e
/-- the call of __eq__ -/
theorem eq_call (F : FnOk X.prog X.w X.K X.mg X.base CX n f fd ps sp) (hb : Binds X.K fd ps []) (hx : Passes CX X E) {A : Around} (hr : Room n A) (hfr : A.frames = X.A.frames) {pins : List (Addr × Obj)} {σ : L2.St} {H : Hp} {s : Shared} {x y : V} {u v : Value}
    (I : Inv X pins σ H s) (rx : RelV x u) (ry : RelV y v) {Q : VK} (h : sp [x, y] H Q E) : wpAny (model X.prog X.w) A (call (.ref f) [u, v]) (EP X pins σ Q) X.xe s := by
  have e0 : Env0 X.prog X.w X.K X.mg X.base A X.stack s H := by
    have e := I.env0
    exact ⟨by rw [hfr]; exact e.frames, e.mod, e.bs, e.bsz, e.funs, e.frf, e.hok, e.bare⟩
  have hl := F.len _ _ _ _ h
  have r2 : Vals [x, y] [u, v] := .cons rx (.cons ry .nil)
  refine wpAny_call (codeAny_mono (F.run A X.stack s H ⟨[u, v], []⟩ [u, v] [x, y] _ E hr e0 (by
    have z := hb s [u, v] I.kIn (by simpa using hl)
    simpa using z) r2 h) fun r s' hq => ?_)
  cases r with
  | error e => exact hx pins σ H s e s' I hq
  | ok fl =>
    cases fl with
    | ret w => exact I.after hq
    | next => exact False.elim hq
    | brk => exact False.elim hq
    | cont => exact False.elim hq
def rEqI (K : PySem.W.Frag) (C : Addr) (sp : Sp) (E : XK) : R2 := fun x y H Q => ∃ a dx fs, x = .ref a ∧ H a = some (.ins C dx fs) ∧ EqTy K H C y ∧ sp [x, y] H (fun v H' => ∃ b, v = .bl b ∧ Q (.bl b) H') E
def rNeI (K : PySem.W.Frag) (C : Addr) (sp : Sp) (E : XK) : R2 := fun x y H Q => ∃ a dx fs b dy gs, x = .ref a ∧ H a = some (.ins C dx fs) ∧ y = .ref b ∧ H b = some (.ins C dy gs) ∧ sp [x, y] H (fun v H' => ∃ k, v = .bl k ∧ Q (.bl (!k)) H') E
theorem op_eqI (M : EqC X.K C f) (F : FnOk X.prog X.w X.K X.mg X.base CX n f fd ps sp) (hb : Binds X.K fd ps []) (hx : Passes CX X E) (hr : Room n X.A) : OpR X (compareOp .Eq) (rEqI X.K C sp E) := by
  intro pins s σ H x y u v Q I rx ry h
  obtain ⟨a, dx, fs, rfl, ha, ty, q⟩ := h
  obtain ⟨tb, lk, nf⟩ := ty.looks I ry
  cases rx
  obtain ⟨mA, J, _⟩ := ins_get I.hok ha
  obtain ⟨od, J, _⟩ := J.look
  obtain ⟨m, hF⟩ := I.fr
  show wpAny _ _ (richCompare .Eq _ _) _ _ _
  refine PySem.W.cmp_K (op := .Eq) hr.units0 hF I.ok.mod.kin J lk nf M.eq M.fn ?_
  refine wpAny_mono (eq_call F hb hx hr rfl I (x := .ref a) rfl ry q) (fun w s' z => ?_) fun _ _ e => e
  obtain ⟨_, H', I', rz, k, rfl, qk⟩ := z
  cases (show w = .bool k from rz)
  exact ⟨.bl k, H', I', rfl, qk⟩
theorem op_neI (M : EqC X.K C f) (F : FnOk X.prog X.w X.K X.mg X.base CX n f fd ps sp) (hb : Binds X.K fd ps []) (hx : Passes CX X E) (hr : Room (n + 1) X.A) : OpR X (compareOp .NotEq) (rNeI X.K C sp E) := by
  intro pins s σ H x y u v Q I rx ry h
  obtain ⟨a, dx, fs, b, dy, gs, rfl, ha, rfl, hb', q⟩ := h
  cases rx
  cases ry
  obtain ⟨mA, J, _⟩ := ins_get I.hok ha
  obtain ⟨od, J, _⟩ := J.look
  obtain ⟨mB, J', _⟩ := ins_get I.hok hb'
  obtain ⟨od', J', _⟩ := J'.look
  have K1 := I.kIn
  obtain ⟨nm, qn, N, bs, hdct, sn, sub, ab, col, dd, k0, k1, k2, k3, k5, newId, hC, hN, he, hne⟩ := M.cls
  have G := Heap.Ns.of_isNs (PySem.W.isNs_of_in K1 hN)
  have hfn : ∃ of, s.heap.get? f = some of ∧ of.cls = .type "function" := by
    have z : (X.K.lookup f).map (·.cls) = some (.type "function") := beq_iff_eq.mp M.fn
    cases e : X.K.lookup f with
    | none => rw [e] at z; cases z
    | some o => rw [e] at z; exact ⟨o, K1 _ _ e, Option.some.inj z⟩
  obtain ⟨of, hof, hofc⟩ := hfn
  have Y : s.heap.OwnEqNoNe a C f "object" [.type "object"] :=
    ⟨_, of, nm, qn, N, bs, hdct, sn, sub, ab, col, dd, k0, k1, k2, k3, k5, newId, _, _, J.at_, J.cls, K1 _ _ hC, G, ns_some_of K1 G he, hof, hofc, PySem.F.cmp_object.mro, PySem.F.cmp_object.eq.lookup, PySem.W.ns_none_of K1 G hne⟩
  obtain ⟨hp, g, dr, tk, os⟩ := s
  refine compareOp_ne_ownEq PySem.F.cmp_object Y J'.at_ J'.cls (hu_of hr) ?_
  refine wpAny_mono (eq_call F hb hx hr.in1 rfl I (x := .ref a) (y := .ref b) rfl rfl q) (fun w s' z => ?_) fun _ _ e => e
  obtain ⟨_, H', I', rz, k, rfl, qk⟩ := z
  cases (show w = .bool k from rz)
  exact ⟨k, rfl, .bl (!k), H', I', rfl, qk⟩
end
end L2
/-! ### for i, x in enumerate(t), t a tuple -/
namespace EnT
open PySem
open AutoSeq1 (wpAny_loadPart')
theorem makes (a : Addr) (xs : Array Value) (k : Nat) (dc : Option Addr) (sx : Array (Option Value)) :
    Meets (Builtin.«enumerate.__new__» ⟨[.type "enumerate", .ref a], []⟩) (fun _ R s => s.heap.get? a = some { cls := .type "tuple", dict := dc, data := .seq xs k, slots := sx } ∧
      R (.ok (.ret (.ref (s.heap.push { cls := .type "tuple_iterator", data := .fields #[.ref a, .int 0 0] }).objs.size)))
        { s with heap := (s.heap.push { cls := .type "tuple_iterator", data := .fields #[.ref a, .int 0 0] }).push { cls := .type "enumerate", data := .fields #[.none, .bool false, .ref s.heap.objs.size, rawInt 0, .none, .none] } }) :=
  .of_wp fun prog w A R s z => by
    obtain ⟨hh, gg, dd, tt, oo⟩ := s
    obtain ⟨ha, z⟩ := z
    have e0 := sub_enumerate
    have hT : Heap.IsTuple (Shared.heap ⟨hh, gg, dd, tt, oo⟩) a xs := ⟨_, ha, rfl, k, rfl⟩
    wp_walk using wpAny_loadPart' ha
    refine wpAny_stack_any fun st => wpAny_pure ?_
    split
    · rename_i c _ _ _ _ _
      cases (c == Value.type "enumerate") <;> (wp_walk using wpAny_loadPart' ha, wpAny_pyIter_tuple hT; exact ⟨_, rfl, z⟩)
    · wp_walk using wpAny_loadPart' ha, wpAny_pyIter_tuple hT
      exact ⟨_, rfl, z⟩
section
variable {prog : Program} {w : World} {A : Around} {E : Value → Shared → Prop} {s : Shared}
theorem called {a : Addr} {xs : Array Value} {Q : Value → Shared → Prop} (hT : s.heap.IsTuple a xs)
    (q : ∀ h', IsEnum h' (s.heap.objs.size + 1) s.heap.objs.size 0 .none → h'.IsTupleIter s.heap.objs.size a 0 → (∀ b o, s.heap.get? b = some o → h'.get? b = some o) → Q (.ref (s.heap.objs.size + 1)) { s with heap := h' }) :
    wpAny (model prog w) A (call (.type "enumerate") [.ref a]) Q E s := by
  obtain ⟨⟨c, dc, dt, sx⟩, ha, hc, k, hd⟩ := hT
  obtain rfl : c = .type "tuple" := hc
  obtain rfl : dt = .seq xs k := hd
  refine callType_new F.called_enumerate (by decide) (F.typeCall_enumerate_1 _) (F.newCall_enumerate_1 _) (fun ob => F.args_object_init_2 ob _) F.entry_enumerate_new (makes a xs k dc sx) ⟨ha, ?_⟩
  have sz : (s.heap.push { cls := .type "tuple_iterator", data := .fields #[.ref a, .int 0 0] }).objs.size = s.heap.objs.size + 1 := Heap.size_push ..
  show _ ∧ _
  rw [sz]
  have en : IsEnum ((s.heap.push { cls := .type "tuple_iterator", data := .fields #[.ref a, .int 0 0] }).push { cls := .type "enumerate", data := .fields #[.none, .bool false, .ref s.heap.objs.size, rawInt 0, .none, .none] }) (s.heap.objs.size + 1) s.heap.objs.size 0 .none := by
    have y := Heap.get?_push_size (s.heap.push { cls := .type "tuple_iterator", data := .fields #[.ref a, .int 0 0] }) (o := { cls := .type "enumerate", data := .fields #[.none, .bool false, .ref s.heap.objs.size, rawInt 0, .none, .none] }) rfl
    rw [sz] at y
    exact y
  exact ⟨⟨_, en, rfl⟩, q _ en ⟨_, Heap.get?_push_of_some _ (Heap.get?_push_size _ rfl), rfl, rfl⟩ fun b o x => Heap.get?_push_of_some _ (Heap.get?_push_of_some _ x)⟩
end
end EnT
namespace L2
open PySem PySem.Spec PyProof.Rows
/-- the tuple at a as it stands at each turn, each item in a new pair -/
def IteT (K : PySem.W.Frag) (a : Addr) : It :=
  ⟨fun i H => ∃ (xs : List V) (x : V), SqT K H a xs ∧ xs[i]? = some x, fun i H v H' => ∃ T x, v = .ref T ∧ H T = none ∧ H' = upd H T (.tup [.int (i : Nat), x]) ∧ ∀ xs, SqT K H a xs → xs[i]? = some x, fun i H => ∃ xs : List V, SqT K H a xs ∧ xs.length ≤ i⟩
theorem turn_enumT {P : Program} {w : World} {K : PySem.W.Frag} {elts : List Expr} {kk : Nat} {tpos : Pos} (a e it : Addr) :
    Turn P w K (.Tuple elts kk tpos) (IteT K a) [e, it] e (fun i h => (∃ old, IsEnum h e it ((i : Nat) : Int) old) ∧ h.IsTupleIter it a i ∧ e ≠ it ∧ a ≠ it ∧ a ≠ e) where
  mem := by simp
  obj := fun i h st b hb => by
    obtain ⟨⟨old, he⟩, ⟨o, ho, hc, hd⟩, _⟩ := st
    rcases (show b = e ∨ b = it by simpa using hb) with z | z
    · rw [z]
      exact ⟨_, he, fun v q => nomatch q⟩
    · rw [z]
      exact ⟨o, ho, fun v q => by rw [hd] at q; cases q⟩
  keep := fun i h h' st k => let ⟨⟨old, he⟩, hi, r⟩ := st; ⟨⟨old, k e (by simp) _ he⟩, hi.at fun o q => k it (by simp) o q, r⟩
  item := by
    intro X hP hw hK hc i pins s σ H E I hf st hg
    subst hP hw hK
    obtain ⟨⟨old, he⟩, hit, hne, hat, hae⟩ := st
    obtain ⟨xs, x, hq, hx⟩ := hg
    obtain ⟨its, rv, p, hz⟩ := I.tuple hq
    obtain ⟨u, hu, ru⟩ := rv.get hx
    have le : e < s.heap.objs.size := Heap.lt_size he
    have li : it < s.heap.objs.size := by obtain ⟨_, q, _⟩ := hit; exact Heap.lt_size q
    have lt : i < its.toArray.size := by
      have y := (List.getElem?_eq_some_iff.mp hu).1
      simpa using y
    refine wpAny_pyNext_enum_itemD (Draws.tuple (show X.A.in1.handled = none from I.ok.hd hc) it a hat its.toArray) he ⟨hit, p⟩ lt hne (by simp [hne, Ne.symm hae]) fun v h' tk hv ho st' hT sz hk => ?_
    have ev : v = u := by
      have y : its.toArray[i]? = some v := hv
      rw [List.getElem?_toArray, hu] at y
      exact (Option.some.inj y).symm
    subst ev
    refine ⟨_, rfl, wpAny_letOwnedTupleGo_enum (s := { s with heap := h', toks := tk + 1 }) ho fun h2 he2 sb => ?_⟩
    have hT2 : h2.get? s.heap.objs.size = some { cls := .type "tuple", data := .seq #[.int i tk, v] } := (sb.2 _ (Nat.ne_of_gt le)).trans hT
    have nw : ObjOk X.prog X.w (upd H s.heap.objs.size (.tup [.int (i : Nat), x])) h2 s.heap.objs.size (.tup [.int (i : Nat), x]) :=
      ⟨by show 2 ≤ sizeLine; decide, [.int i tk, v], .cons ⟨_, rfl⟩ (.cons ru .nil), ⟨_, hT2, rfl, _, rfl⟩⟩
    have I1 : Inv X pins σ (upd H s.heap.objs.size (.tup [.int (i : Nat), x])) { s with heap := h2, toks := tk + 1 } :=
      I.turnedNew (ch := [e, it]) (fun b ob hb q => (sb.2 b (fun z => hb (by simp [z]))).trans (hk b ob (fun z => hb (by simp [z])) (fun z => hb (by simp [z])) q)) hf (Nat.le_refl _) nw
    refine ⟨.ref s.heap.objs.size, _, I1, rfl, ⟨_, x, rfl, I.hok.fresh (Nat.le_refl _), rfl, fun ys hy => by rw [I.tuple_inj hy hq]; exact hx⟩, ⟨⟨v, ?_⟩, st'.1.at fun o q => (sb.2 it (Ne.symm hne)).trans q, hne, hat, hae⟩, fun b hb => ?_⟩
    · rw [show ((i + 1 : Nat) : Int) = (i : Int) + 1 by omega]
      exact he2
    · have lb : b < s.heap.objs.size := by
        rcases (show b = e ∨ b = it by simpa using hb) with z | z
        · exact z ▸ le
        · exact z ▸ li
      rw [upd_ne (Nat.ne_of_lt lb)]
      exact (hf b hb).1
  done := by
    intro X hP hw hK hc i pins s σ H E I hf st hg
    subst hP hw hK
    obtain ⟨⟨old, he⟩, hit, hne, hat, hae⟩ := st
    obtain ⟨xs, hq, hx⟩ := hg
    obtain ⟨its, rv, p, hz⟩ := I.tuple hq
    obtain ⟨f0, f1, f2, f3, f4, f5⟩ := hf it (by simp)
    have hl := rv.length
    have D : Draws X.prog X.w X.A.in1 it [it, a] i (fun _ _ => True) (fun j h => j = i ∧ h.IsTupleIter it a i ∧ h.IsTuple a its.toArray) :=
      { live := fun _ _ st => let ⟨o, ho, _⟩ := st.2.1; ⟨o, ho⟩
        frame := fun _ _ _ st hk => ⟨st.1, st.2.1.at fun o q => hk it (by simp) o q, st.2.2.at fun o q => hk a (by simp) o q⟩
        item := fun j _ _ _ hj st _ => absurd st.1 (Nat.ne_of_lt hj)
        done := fun _ _ _ st hE => wpAny_nextOf_tuple_end (show X.A.in1.handled = none from I.ok.hd hc) st.2.1 st.2.2 (by simp; omega) hE }
    exact wpAny_pyNext_enum_endD D he ⟨rfl, hit, p⟩ fun h' eb => ⟨rfl, I.turned (t' := s.toks) (fun b o hb q => eb b o hb q) f0 f1 f3 f4 f5⟩
  self := fun A i s Q E st h => let ⟨⟨_, he⟩, _⟩ := st; wpAny_pyIter_enum he h
def iEnumT (K : PySem.W.Frag) (ta : TA) : TI := fun σ H R => ta σ H fun vs H1 => ∃ a xs, vs = [.ref a] ∧ SqT K H1 a xs ∧ R (IteT K a) H1
theorem pi_enumT {X : Cx} {e : Expr} {ta : TA} {p pos tpos : Pos} {elts : List Expr} {kk : Nat} (hg : Gl X "enumerate") (hm : X.mg "enumerate" = none) (ha : PA X [e] ta) (hs : starEach [e] X.env = [(false, eval e X.env)] := by rfl) :
    PI X (.Tuple elts kk tpos) (.Call (.Name "enumerate" p) [e] [] pos) (iEnumT X.K ta) := by
  refine ⟨fun pins s σ H R I h => ?_⟩
  refine Call_ (ld_blt I hg hm boot_enumerate (PyProof.Rows.callWith_type1 (thn (ha.run pos pins s σ H _ I h) fun us s1 ⟨vs, H1, I1, r1, q1⟩ => ?_) hs rfl))
  obtain ⟨a, xs, ex, hq, q⟩ := q1
  subst ex
  cases r1 with
  | cons r rr =>
    cases rr
    cases r
    obtain ⟨its, rv, p', hz⟩ := I1.tuple hq
    obtain ⟨o, ho, _⟩ := id p'
    have la : a < s1.heap.objs.size := Heap.lt_size ho
    refine EnT.called p' fun h' he hit hk => wpAny_pyIter_enum he ?_
    refine ⟨s1.heap.objs.size + 1, [s1.heap.objs.size + 1, s1.heap.objs.size], _, _, H1, rfl, I1.kept (t' := s1.toks) hk, turn_enumT a (s1.heap.objs.size + 1) s1.heap.objs.size, ⟨⟨.none, he⟩, hit, Nat.succ_ne_self _, Nat.ne_of_lt la, Nat.ne_of_lt (Nat.lt_succ_of_lt la)⟩, fun b hb => ?_, q⟩
    have lb : s1.heap.objs.size ≤ b := by
      rcases (show b = s1.heap.objs.size + 1 ∨ b = s1.heap.objs.size by simpa using hb) with z | z
      · exact z ▸ Nat.le_add_right _ _
      · exact z ▸ Nat.le_refl _
    exact I1.fpOk lb (I1.hok.fresh lb)
/-- over a tuple in new pairs, the invariant over turns -/
theorem for_enumT {K : PySem.W.Frag} {a : Addr} {xs : List V} {g : TG} {tb : TS} {D : Ends} {σ : L2.St} {H : Hp} (Pv : Nat → L2.St → Hp → Prop) (h0 : Pv 0 σ H) (hl : ∀ i σ H, i ≤ xs.length → Pv i σ H → SqT K H a xs)
    (hs : ∀ i x σ H T, xs[i]? = some x → Pv i σ H → H T = none → g (.ref T) σ (upd H T (.tup [.int (i : Nat), x])) fun σ2 H2 => tb { D with nx := Pv (i + 1), ct := Pv (i + 1), bk := D.nx } σ2 H2) (hd : ∀ σ H, Pv xs.length σ H → D.nx σ H) :
    ∃ W : Nat → Nat → L2.St → Hp → Prop, (∃ m, W 0 m σ H) ∧ ∀ i m σ H, W i m σ H →
      ((IteT K a).stop i H ∧ D.nx σ H) ∨ ((IteT K a).go i H ∧ ∃ N : L2.St → Hp → Prop, (∀ σ' H', N σ' H' → ∃ m', m' < m ∧ W (i + 1) m' σ' H') ∧ ∀ x H', (IteT K a).yld i H x H' → g x σ H' fun σ2 H2 => tb { D with nx := N, ct := N, bk := D.nx } σ2 H2) := by
  refine ⟨fun i m σ H => m = xs.length - i ∧ i ≤ xs.length ∧ Pv i σ H, ⟨_, rfl, Nat.zero_le _, h0⟩, ?_⟩
  rintro i m σ H ⟨rfl, hi, p⟩
  have q := hl i σ H hi p
  by_cases lt : i < xs.length
  · refine .inr ⟨⟨xs, xs[i], q, by simp [lt]⟩, Pv (i + 1), fun σ' H' p' => ⟨xs.length - (i + 1), by omega, rfl, lt, p'⟩, fun x H' y => ?_⟩
    obtain ⟨T, x', rfl, nT, rfl, f⟩ := y
    exact hs i x' σ H T (f xs q) p nT
  · have e : i = xs.length := by omega
    subst e
    exact .inl ⟨⟨xs, q, Nat.le_refl _⟩, hd σ H p⟩
end L2
/-! ### isinstance of a caught error that has a dict of its own -/
namespace L2
open PySem PySem.Spec PyProof.Rows
def rIsX (K : PySem.W.Frag) (D a : Addr) (cls : Value) (d : Option Addr) : List V → Hp → VK → Prop := fun xs H Q => cls = .ref D ∧ ∃ (dd : Addr) (fs : List (Str × V)) (c : V) (cv : Value) (b : Bool), d = some dd ∧ H dd = some (.xd fs) ∧ xs = [.ref a, c] ∧ ClsV c cv ∧ PySem.W.kitOne K (.ref D) cv = some b ∧ Q (.bl b) H
theorem call_isX {X : Cx} {a D : Addr} {oe : Obj} {cls : Value} {d : Option Addr} {pn : List (Addr × Obj)} (C : ExcC X.K D) (hz : Zc cls d oe) (hf : ∃ vs, oe.data = .fields vs) : CallR (X.suite a ((a, oe) :: pn)) (.builtin "isinstance") (rIsX X.K D a cls d) := by
  intro pins s σ H xs us Q I r h
  obtain ⟨ec, dd, fs, c, cv, b, ed, hdd, rfl, hcv, e, q⟩ := h
  subst ec
  subst ed
  obtain ⟨u1, u2, rfl, r1, r2⟩ := vals2 r
  have e2 := hcv.eq r2
  subst e2
  cases (show u1 = Value.ref a from r1)
  have hp := (I.pin (a, oe) (List.mem_append_left _ List.mem_cons_self)).1
  obtain ⟨vs, hv⟩ := hf
  obtain ⟨mA, hns, _⟩ := (show ObjOk X.prog X.w H s.heap dd (.xd fs) from I.hok dd _ hdd)
  obtain ⟨od, ho, _⟩ := lookIn_ns hns
  have J : PySem.W.InstAt s.heap a oe D (some od) := by
    refine ⟨hp, hz.1, ?_, ?_⟩
    · unfold PySem.W.notCls
      rw [hv] <;> rfl
    · rw [hz.2]
      exact ho
  have hcl : (PySem.W.clsIn X.K D).isSome = true := by
    have z := C.hd
    unfold PySem.W.hasDictIn at z
    cases y : PySem.W.clsIn X.K D with
    | none => rw [y] at z; cases z
    | some _ => rfl
  exact PySem.W.kia_one (PySem.W.kitx_exc (x := a) (ox := oe) (od := some od) hcl C.hg C.hk C.hs C.ha C.hn C.ht C.hm) I.kIn J e (fun z => nomatch z) fun tk => ⟨.bl b, H, I.kept (t' := tk) fun _ _ z => z, rfl, q⟩
theorem passN {X : Cx} {W : WX} (tk : Takes X W) : Passes (CX X.prog X.w) X (fun cls d H => ∀ σ : L2.St, σ.length = X.N.length → W cls d σ H) := fun _ σ _ _ e s' I c => tk e s' (XE.of_call I (fun _ _ _ h => h σ I.len) c)
theorem passO {X : Cx} {E : XK} (tk : Takes X (fun cls d _ H => E cls d H)) : Passes (CX X.prog X.w) X E := passes_call tk fun _ _ _ _ h => h
end L2
/-! ### rows of three numbers -/
namespace My
open PySem PySem.Spec PyProof.Rows L2
theorem lst_ne_tup {H : Hp} {d a : Addr} {zs xs : List V} (hd : H d = some (.lst zs)) (h : H a = some (.tup xs)) : a ≠ d := fun z => by
  rw [z, hd] at h
  cases h
theorem Keep.tupD {K : PySem.W.Frag} {d a : Addr} {H H' : Hp} {zs xs : List V} (e : Keep d H H') (hd : H d = some (.lst zs)) (h : SqT K H a xs) : SqT K H' a xs := by
  rcases h with (h | ⟨o, h⟩) | h
  · exact .inl (.inl (e _ _ (lst_ne_tup hd h) h))
  · refine .inl (.inr ⟨o, e _ _ (fun z => ?_) h⟩)
    rw [z, hd] at h
    cases h
  · exact .inr h
theorem Keep.free {d l : Addr} {H H' : Hp} {o : HO} (e : Keep d H H') (hd : H' d = some o) (h : H' l = none) : H l = none := by
  cases q : H l with
  | none => rfl
  | some u =>
    by_cases n : l = d
    · rw [n, hd] at h
      cases h
    · rw [e l u n q] at h
      cases h
theorem DrawAt.lst {K : PySem.W.Frag} {H : Hp} {d s : Addr} {ns : List Int} (h : DrawAt K H d s ns) : ∃ zs, H d = some (.lst zs) := let ⟨_, h, _⟩ := h; ⟨_, h⟩
abbrev LineR := Int × Int × Int
def RowV (K : PySem.W.Frag) (H : Hp) (v : V) (r : LineR) : Prop := ∃ a, v = .ref a ∧ SqT K H a [.int r.1, .int r.2.1, .int r.2.2]
inductive RowsV (K : PySem.W.Frag) (H : Hp) : List V → List LineR → Prop where
  | nil : RowsV K H [] []
  | cons {v : V} {vs : List V} {r : LineR} {rs : List LineR} : RowV K H v r → RowsV K H vs rs → RowsV K H (v :: vs) (r :: rs)
section
variable {K : PySem.W.Frag} {H H' : Hp} {d : Addr} {zs : List V}
theorem RowV.same {v : V} {r : LineR} (e : Same H H') : RowV K H v r → RowV K H' v r := fun ⟨a, h, t⟩ => ⟨a, h, Same.tup e t⟩
theorem RowV.keep {v : V} {r : LineR} (e : Keep d H H') (hd : H d = some (.lst zs)) : RowV K H v r → RowV K H' v r := fun ⟨a, h, t⟩ => ⟨a, h, e.tupD hd t⟩
theorem RowsV.map {vs : List V} {rs : List LineR} (f : ∀ v r, RowV K H v r → RowV K H' v r) : RowsV K H vs rs → RowsV K H' vs rs
  | .nil => .nil
  | .cons h t => .cons (f _ _ h) (RowsV.map f t)
theorem RowsV.same {vs : List V} {rs : List LineR} (e : Same H H') (h : RowsV K H vs rs) : RowsV K H' vs rs := h.map fun _ _ => RowV.same e
theorem RowsV.keep {vs : List V} {rs : List LineR} (e : Keep d H H') (hd : H d = some (.lst zs)) (h : RowsV K H vs rs) : RowsV K H' vs rs := h.map fun _ _ => RowV.keep e hd
theorem RowsV.len {vs : List V} {rs : List LineR} : RowsV K H vs rs → vs.length = rs.length
  | .nil => rfl
  | .cons _ t => congrArg Nat.succ t.len
theorem RowsV.app {vs ws : List V} {rs qs : List LineR} : RowsV K H vs rs → RowsV K H ws qs → RowsV K H (vs ++ ws) (rs ++ qs)
  | .nil, h => h
  | .cons h t, g => .cons h (t.app g)
theorem RowsV.at {vs : List V} {rs : List LineR} {v : V} : ∀ {i : Nat}, RowsV K H vs rs → vs[i]? = some v → ∃ r, rs[i]? = some r ∧ RowV K H v r
  | 0, .cons h _, e => ⟨_, rfl, by cases e; exact h⟩
  | i + 1, .cons _ t, e => t.at (i := i) e
  | _, .nil, e => by simp at e
theorem RowsV.take {vs : List V} {rs : List LineR} : ∀ (n : Nat), RowsV K H vs rs → RowsV K H (vs.take n) (rs.take n)
  | 0, _ => .nil
  | _ + 1, .nil => .nil
  | n + 1, .cons h t => .cons h (t.take n)
theorem RowsV.drop {vs : List V} {rs : List LineR} : ∀ (n : Nat), RowsV K H vs rs → RowsV K H (vs.drop n) (rs.drop n)
  | 0, h => h
  | _ + 1, .nil => .nil
  | n + 1, .cons _ t => t.drop n
theorem RowsV.rev {vs : List V} {rs : List LineR} : RowsV K H vs rs → RowsV K H vs.reverse rs.reverse
  | .nil => .nil
  | .cons h t => by
    rw [List.reverse_cons, List.reverse_cons]
    exact t.rev.app (.cons h .nil)
end
/-- a list of rows stands at l -/
def RowsAt (K : PySem.W.Frag) (H : Hp) (l : Addr) (rs : List LineR) : Prop := ∃ vs, H l = some (.lst vs) ∧ RowsV K H vs rs
def Sz2 (i : Int) : Prop := i.natAbs < 2 ^ 200
structure Bnd (r : LineR) : Prop where
  a : Sz2 r.1
  b : Sz2 r.2.1
  c : Sz2 r.2.2
theorem sz2 {i : Int} (h1 : -1000000000000 < i) (h2 : i < 1000000000000) : Sz2 i := by
  have h : (1000000000000 : Nat) < 2 ^ 200 := by decide +kernel
  unfold Sz2
  omega
theorem bnd {a b c : Int} (a1 : -1000000000000 < a) (a2 : a < 1000000000000) (b1 : -1000000000000 < b) (b2 : b < 1000000000000) (c1 : -1000000000000 < c) (c2 : c < 1000000000000) : Bnd (a, b, c) := ⟨sz2 a1 a2, sz2 b1 b2, sz2 c1 c2⟩
/-- one more row at the list's end: a new tuple at p -/
theorem push_row {K : PySem.W.Frag} {H : Hp} {l p : Addr} {vs : List V} {rs : List LineR} {a b c : Int} (hl : H l = some (.lst vs)) (hv : RowsV K H vs rs) (np : H p = none) :
    RowsAt K (upd (upd H p (.tup [.int a, .int b, .int c])) l (.lst (vs ++ [.ref p]))) l (rs ++ [(a, b, c)]) := by
  have s1 : Same H (upd H p (.tup [.int a, .int b, .int c])) := same_upd np
  have hl1 := s1 _ _ hl
  refine ⟨_, upd_same, ?_⟩
  refine ((hv.same s1).keep (Keep.upd l _ _) hl1).app (.cons (RowV.keep (Keep.upd l _ _) hl1 ⟨p, rfl, ?_⟩) .nil)
  exact .inl (.inl upd_same)
/-- a list of rows in the making: made behind H, at l -/
structure Acc (K : PySem.W.Frag) (H : Hp) (d s : Addr) (ns : List Int) (l : Addr) (H' : Hp) (rs : List LineR) : Prop where
  new : H l = none
  ne : l ≠ d
  rows : RowsAt K H' l rs
  kp : Keep d H H'
  dr : DrawAt K H' d s ns
  sc : SqL K H s (ns.map V.int)
section
variable {K : PySem.W.Frag} {H H' H2 : Hp} {d s l p : Addr} {ns : List Int} {rs : List LineR}
theorem Acc.start (D0 : DrawAt K H d s ns) (k : Keep d H H') (D : DrawAt K H' d s ns) (n : H' l = none) : Acc K H d s ns l (upd H' l (.lst [])) [] := by
  obtain ⟨zs, hd⟩ := D.lst
  refine ⟨k.free hd n, fun z => ?_, ⟨[], upd_same, .nil⟩, k.trans (Keep.of (same_upd n)), D.same (same_upd n), let ⟨_, _, h, _⟩ := D0; h⟩
  rw [z, hd] at n
  cases n
theorem Acc.of {vs : List V} (D0 : DrawAt K H d s ns) (k : Keep d H H') (D : DrawAt K H' d s ns) (n : H' l = none) (hv : RowsV K H' vs rs) : Acc K H d s ns l (upd H' l (.lst vs)) rs := by
  obtain ⟨zs, hd⟩ := D.lst
  refine ⟨k.free hd n, fun z => ?_, ⟨vs, upd_same, hv.same (same_upd n)⟩, k.trans (Keep.of (same_upd n)), D.same (same_upd n), let ⟨_, _, h, _⟩ := D0; h⟩
  rw [z, hd] at n
  cases n
theorem rowV_new {a b c : Int} : RowV K (upd H p (.tup [.int a, .int b, .int c])) (.ref p) (a, b, c) := ⟨p, rfl, .inl (.inl upd_same)⟩
theorem Acc.keep (A : Acc K H d s ns l H' rs) (k : Keep d H' H2) (D : DrawAt K H2 d s ns) : Acc K H d s ns l H2 rs := by
  obtain ⟨zs, hd⟩ := A.dr.lst
  obtain ⟨vs, h1, h2⟩ := A.rows
  exact ⟨A.new, A.ne, ⟨vs, k _ _ A.ne h1, h2.keep k hd⟩, A.kp.trans k, D, A.sc⟩
theorem Acc.push {a b c : Int} {vs : List V} (A : Acc K H d s ns l H' rs) (hl : H' l = some (.lst vs)) (np : H' p = none) :
    Acc K H d s ns l (upd (upd H' p (.tup [.int a, .int b, .int c])) l (.lst (vs ++ [.ref p]))) (rs ++ [(a, b, c)]) := by
  obtain ⟨ws, h1, h2⟩ := A.rows
  have e : ws = vs := by
    rw [h1] at hl
    cases hl
    rfl
  subst e
  have s1 : Same H' (upd H' p (.tup [.int a, .int b, .int c])) := same_upd np
  refine ⟨A.new, A.ne, push_row h1 h2 np, fun b' o n e => ?_, ?_, A.sc⟩
  · rw [upd_ne (ne_of_none e A.new)]
    exact s1 _ _ (A.kp _ _ n e)
  · obtain ⟨k, g1, g2, g3⟩ := A.dr
    have g1' := s1 _ _ g1
    refine ⟨k, ?_, ?_, g3⟩
    · rw [upd_ne (Ne.symm A.ne)]
      exact g1'
    · rcases A.sc with h | h
      · have nsl : s ≠ l := fun z => by
          rw [z] at h
          rcases h with h | ⟨o, h⟩ <;> rw [A.new] at h <;> cases h
        exact (Keep.upd l _ _).seq nsl (s1.seq g2)
      · exact .inr h
end
theorem tYes_in {A B : Hp → Prop} {σ : L2.St} {H : Hp} (h : A H) : tYes σ H (fun b H3 => if b = true then A H3 else B H3) := by
  show if true = true then A H else B H
  rw [if_pos rfl]
  exact h
end My
/-! ### max and min of a list of numbers -/
namespace L2
open PySem PySem.Spec PyProof.Rows PySem.W
theorem maxI_spec : ∀ (ys : List Int) (y : Int), (maxOf y ys ∈ y :: ys) ∧ ∀ x ∈ y :: ys, x ≤ maxOf y ys
  | [], y => ⟨List.mem_cons_self, fun x hx => by rw [List.mem_singleton.mp hx]; exact Int.le_refl _⟩
  | z :: zs, y => by
    have e : maxOf y (z :: zs) = maxOf (if (decide (y < z)) = true then z else y) zs := rfl
    by_cases c : y < z
    · rw [decide_eq_true c, if_pos rfl] at e
      obtain ⟨h1, h2⟩ := maxI_spec zs z
      rw [e]
      refine ⟨List.mem_cons_of_mem _ h1, fun x hx => ?_⟩
      rcases List.mem_cons.mp hx with rfl | hx
      · exact Int.le_trans (Int.le_of_lt c) (h2 z List.mem_cons_self)
      · exact h2 x hx
    · rw [decide_eq_false c, if_neg (by decide)] at e
      obtain ⟨h1, h2⟩ := maxI_spec zs y
      rw [e]
      refine ⟨?_, fun x hx => ?_⟩
      · rcases List.mem_cons.mp h1 with h | h
        · rw [h]
          exact List.mem_cons_self
        · exact List.mem_cons_of_mem _ (List.mem_cons_of_mem _ h)
      · rcases List.mem_cons.mp hx with rfl | hx
        · exact h2 _ List.mem_cons_self
        · rcases List.mem_cons.mp hx with rfl | hx
          · exact Int.le_trans (Int.not_lt.mp c) (h2 y List.mem_cons_self)
          · exact h2 x (List.mem_cons_of_mem _ hx)
theorem hold_ints {h : Heap} : ∀ {ns : List Int} {us : List Value}, Vals (ns.map V.int) us → HoldAll h us ns
  | [], _, r => by
    cases r
    exact .nil
  | n :: ns, _, r => by
    cases r with
    | cons r1 r2 =>
      obtain ⟨t, rfl⟩ := r1
      exact .cons ⟨_, Reads.int n t⟩ (hold_ints r2)
theorem int_holds {h : Heap} {v : Value} {n : Int} (z : Holds h v n) : ∃ t, v = .int n t := by
  obtain ⟨as, r⟩ := z
  cases r
  exact ⟨_, rfl⟩
/-- max(list, default=d) -/
def rMaxD (K : PySem.W.Frag) : List V → List V → Hp → VK → Prop := fun xs zs H Q => ∃ (a : Addr) (ns : List Int) (d : Int), xs = [.ref a] ∧ zs = [.int d] ∧ SqL K H a (ns.map V.int) ∧ (ns = [] → Q (.int d) H) ∧ ∀ m ∈ ns, (∀ x ∈ ns, x ≤ m) → Q (.int m) H
theorem call_maxD {X : Cx} (hc : X.calm = true) (hu : X.A.units + 64 < cLine) : CallRK X (.builtin "max") ["default"] (rMaxD X.K) := by
  intro pins s σ H xs zs us ws Q I r r' h
  obtain ⟨a, ns, d, rfl, rfl, hq, q0, q⟩ := h
  obtain ⟨u, rfl, r1⟩ := vals1 r
  obtain ⟨u', rfl, r2⟩ := vals1 r'
  cases (show u = Value.ref a from r1)
  obtain ⟨t, rfl⟩ := (show ∃ t, u' = Value.int d t from r2)
  obtain ⟨its, rv, pl, _⟩ := I.list hq
  refine max_list_datum_default (α := Int) (vs := its.toArray) (xs := ns) (I.ok.hd hc) pl.isList (by simpa using hold_ints rv) (Nat.lt_of_le_of_lt (by show _ + 1 + 0 ≤ X.A.units + 64; omega) hu) (fun e h' tk k => ?_) fun y ys i v h' tk e hi z k => ?_
  · exact ⟨.int d, H, I.kept k, ⟨t, rfl⟩, q0 e⟩
  · obtain ⟨t', rfl⟩ := int_holds z
    obtain ⟨m1, m2⟩ := maxI_spec ys y
    rw [← e] at m1 m2
    exact ⟨.int (maxOf y ys), H, I.kept k, ⟨t', rfl⟩, q _ m1 m2⟩
end L2
/-! ### what is a list or a tuple -/
namespace My
open PySem PySem.Spec PyProof.Rows L2
def SqA (K : PySem.W.Frag) (H : Hp) (a : Addr) (xs : List V) : Prop := SqL K H a xs ∨ SqT K H a xs
theorem SqA.same {K : PySem.W.Frag} {H H' : Hp} {a : Addr} {xs : List V} (e : Same H H') (h : SqA K H a xs) : SqA K H' a xs := h.imp e.seq (Same.tup e)
theorem walk_enumT {K : PySem.W.Frag} {a : Addr} {xs : List V} : Walk (IteT K a) xs.length (fun H => SqT K H a xs) (YPair (fun i => some (.int (i : Nat))) (fun i => xs[i]?)) where
  goes := fun j _ lt hh => ⟨xs, xs[j], hh, List.getElem?_eq_getElem lt⟩
  stops := fun _ hh => ⟨xs, hh, Nat.le_refl xs.length⟩
  yields := fun j H0 z H1 _ hh yy => by
    obtain ⟨T, c, e1, nT, e2, cc⟩ := yy
    exact ⟨T, _, c, e1, nT, e2, rfl, cc xs hh⟩
/-- of some list or tuple in slot i: whichever walk it is -/
def iEnumV (K : PySem.W.Frag) (i : Nat) : TI := fun σ H R => ∃ a xs, σ[i]? = some (some (.ref a)) ∧ SqA K H a xs ∧ ∀ J G, G H → (∀ H', (SqL K H a xs → SqL K H' a xs) → (SqT K H a xs → SqT K H' a xs) → G H') → Walk J xs.length G (YPair (fun i => some (.int (i : Nat))) (fun i => xs[i]?)) → R J H
theorem pi_enumV {X : Cx} {i : Nat} {x : Str} {p1 p pos tpos : Pos} {elts : List Expr} {kk : Nat} (hv : PE X (.Name x p1) (tVar i)) (hg : Gl X "enumerate") (hm : X.mg "enumerate" = none) :
    PI X (.Tuple elts kk tpos) (.Call (.Name "enumerate" p) [.Name x p1] [] pos) (iEnumV X.K i) := by
  refine ⟨fun pins s σ H R I h => ?_⟩
  obtain ⟨a, xs, hs, hx, k⟩ := h
  rcases hx with hx | hx
  · exact (pi_enum (elts := elts) (kk := kk) (tpos := tpos) hg hm (pa_cons hv pa_nil)).run pins s σ H R I ⟨_, hs, a, xs, rfl, hx, k _ (fun H => SqL X.K H a xs) hx (fun _ e _ => e hx) walk_enum⟩
  · exact (pi_enumT (elts := elts) (kk := kk) (tpos := tpos) hg hm (pa_cons hv pa_nil)).run pins s σ H R I ⟨_, hs, a, xs, rfl, hx, k _ (fun H => SqT X.K H a xs) hx (fun _ _ e => e hx) walk_enumT⟩
/-- for x in l, l in slot i -/
def iSeqV (K : PySem.W.Frag) (i : Nat) : TI := fun σ H R => ∃ a xs, σ[i]? = some (some (.ref a)) ∧ SqA K H a xs ∧ ∀ J G, G H → (∀ H', (SqL K H a xs → SqL K H' a xs) → (SqT K H a xs → SqT K H' a xs) → G H') → Walk J xs.length G (YAt xs) → R J H
theorem pi_seqV {X : Cx} {i : Nat} {x : Str} {p1 : Pos} {tg : Expr} (hv : PE X (.Name x p1) (tVar i)) : PI X tg (.Name x p1) (iSeqV X.K i) := by
  refine ⟨fun pins s σ H R I h => ?_⟩
  obtain ⟨a, xs, hs, hx, k⟩ := h
  rcases hx with hx | hx
  · exact (pi_list (tg := tg) hv).run pins s σ H R I ⟨_, hs, a, rfl, ⟨xs, hx⟩, k _ (fun H => SqL X.K H a xs) hx (fun _ e _ => e hx) walk_list⟩
  · exact (pi_tup (tg := tg) hv).run pins s σ H R I ⟨_, hs, a, rfl, ⟨xs, hx⟩, k _ (fun H => SqT X.K H a xs) hx (fun _ _ e => e hx) walk_tup⟩
def rIxA (K : PySem.W.Frag) : R2 := fun x y H Q => ∃ p xs i v, x = .ref p ∧ y = .int i ∧ SqA K H p xs ∧ atI xs i = some v ∧ Q v H
theorem ix_seq {X : Cx} : IxR X (rIxA X.K) := by
  intro value slice pins s σ H x y v u Q I rx ry h hs
  obtain ⟨p, xs, i, z, e1, e2, hq, he, q⟩ := h
  rcases hq with hq | hq
  · exact ix_list value slice pins s σ H x y v u Q I rx ry ⟨p, xs, i, z, e1, e2, hq, he, q⟩ hs
  · exact ix_tup value slice pins s σ H x y v u Q I rx ry ⟨p, xs, i, z, e1, e2, hq, he, q⟩ hs
theorem call_lenA {X : Cx} : CallR X (.builtin "len") (fun xs H Q => ∃ p ys, xs = [.ref p] ∧ SqA X.K H p ys ∧ Q (.int ys.length) H) := fun pins s σ H xs us Q I r ⟨p, ys, e, h, q⟩ => call_len_seq pins s σ H xs us Q I r ⟨p, ys, e, h, q⟩
/-- no constraint on the tuple that is not an own one -/
theorem SqA.keep {K : PySem.W.Frag} {d a : Addr} {H H' : Hp} {xs : List V} {C dx : Addr} {fs : List (Str × V)} (e : Keep d H H') (hd : H d = some (.ins C dx fs)) (h : SqA K H a xs) : SqA K H' a xs := by
  have ne : ∀ o, H a = some o → (∀ c x f, o ≠ .ins c x f) → a ≠ d := fun o ho hn z => by
    rw [z, hd] at ho
    exact hn _ _ _ (Option.some.inj ho).symm
  rcases h with ((h | ⟨o, h⟩) | h) | ((h | ⟨o, h⟩) | h)
  · exact .inl (.inl (.inl (e _ _ (ne _ h fun _ _ _ z => nomatch z) h)))
  · exact .inl (.inl (.inr ⟨o, e _ _ (ne _ h fun _ _ _ z => nomatch z) h⟩))
  · exact .inl (.inr h)
  · exact .inr (.inl (.inl (e _ _ (ne _ h fun _ _ _ z => nomatch z) h)))
  · exact .inr (.inl (.inr ⟨o, e _ _ (ne _ h fun _ _ _ z => nomatch z) h⟩))
  · exact .inr (.inr h)
/-- the ways of an if's test joined -/
theorem sTest_via {c : TT} {t u v : TS} {D : Ends} {σ : L2.St} {H : Hp} (R : Bool → Hp → Prop) (h : ∀ Q' : Bool → Hp → Prop, (∀ b H', R b H' → Q' b H') → c σ H Q') (k : ∀ b H', R b H' → if b = true then t { D with nx := v D } σ H' else u { D with nx := v D } σ H') :
    tSeq (tIfS c t u) v D σ H := h _ k
theorem sLast_via {c : TT} {t u : TS} {D : Ends} {σ : L2.St} {H : Hp} (R : Bool → Hp → Prop) (h : ∀ Q' : Bool → Hp → Prop, (∀ b H', R b H' → Q' b H') → c σ H Q') (k : ∀ b H', R b H' → if b = true then t D σ H' else u D σ H') : tIfS c t u D σ H := h _ k
/-- the ways of an if joined -/
theorem sJoin {c : TT} {t u v : TS} {D : Ends} {σ : L2.St} {H : Hp} (R : L2.St → Hp → Prop) (h : ∀ N : L2.St → Hp → Prop, (∀ σ' H', R σ' H' → N σ' H') → tIfS c t u { D with nx := N } σ H) (k : ∀ σ' H', R σ' H' → v D σ' H') : tSeq (tIfS c t u) v D σ H := h _ k
theorem iteTt {b : Bool} {A B : Prop} (hb : b = true) (h : A) : if b = true then A else B := by
  rw [if_pos hb]
  exact h
theorem iteFf {b : Bool} {A B : Prop} (hb : b = false) (h : B) : if b = true then A else B := by
  rw [if_neg (by rw [hb]; decide)]
  exact h
theorem iteN {c A B : Prop} [Decidable c] (hc : ¬ c) (h : A) : if (!decide c) = true then A else B := by
  rw [decide_eq_false hc]
  exact iteT h
/-- a fresh address stays one where nothing else was written -/
theorem same_keep {H H1 H2 : Hp} {L : Addr} (n : H L = none) (s : Same H H1) (k : Keep L H1 H2) : Same H H2 := fun b o e => k b o (ne_of_none e n) (s _ _ e)
end My
/-! ### the truth of an instance whose class has an own __bool__; objects that are made -/
namespace L2
open PySem PySem.Spec PyProof.Rows
/-- a class with an own __bool__ at f -/
structure BoolC (K : PySem.W.Frag) (C f : Addr) : Prop where
  eq : PySem.W.findIn K (.ref C) "__bool__" = some (some (.ref f))
  fn : PySem.W.isFn K (.ref f) = true
section
variable {X : Cx} {C f : Addr} {fd : FuncData} {ps : List Str} {sp : Sp} {CX : CXT} {E : XK} {n : Nat}
theorem call_one (F : FnOk X.prog X.w X.K X.mg X.base CX n f fd ps sp) (hb : Binds X.K fd ps []) (hx : Passes CX X E) {A : Around} (hr : Room n A) (hfr : A.frames = X.A.frames) {pins : List (Addr × Obj)} {σ : L2.St} {H : Hp} {s : Shared} {x : V} {u : Value}
    (I : Inv X pins σ H s) (rx : RelV x u) {Q : VK} (h : sp [x] H Q E) : wpAny (model X.prog X.w) A (call (.ref f) [u]) (EP X pins σ Q) X.xe s := by
  have e0 : Env0 X.prog X.w X.K X.mg X.base A X.stack s H := by
    have e := I.env0
    exact ⟨hfr ▸ e.frames, e.mod, e.bs, e.bsz, e.funs, e.frf, e.hok, e.bare⟩
  have hl := F.len _ _ _ _ h
  have r1 : Vals [x] [u] := .cons rx .nil
  refine wpAny_call (codeAny_mono (F.run A X.stack s H ⟨[u], []⟩ [u] [x] _ E hr e0 (by simpa using hb s [u] I.kIn (by simpa using hl)) r1 h) fun r s' hq => ?_)
  cases r with
  | error e => exact hx pins σ H s e s' I hq
  | ok fl =>
    cases fl with
    | ret w => exact I.after hq
    | next => exact hq.elim
    | brk => exact hq.elim
    | cont => exact hq.elim
def rTruI (C : Addr) (sp : Sp) (E : XK) : V → Hp → (Bool → Hp → Prop) → Prop := fun x H Q => ∃ a dx fs, x = .ref a ∧ H a = some (.ins C dx fs) ∧ sp [x] H (fun v H' => ∃ b, v = .bl b ∧ Q b H') E
theorem tru_ins (M : BoolC X.K C f) (F : FnOk X.prog X.w X.K X.mg X.base CX n f fd ps sp) (hb : Binds X.K fd ps []) (hx : Passes CX X E) (hr : Room n X.A) : TruR X (rTruI C sp E) := by
  intro pins s σ H x v Q I rx h
  obtain ⟨a, dx, fs, rfl, ha, q⟩ := h
  cases rx
  obtain ⟨mA, J, _⟩ := ins_get I.hok ha
  obtain ⟨od, J, _⟩ := J.look
  obtain ⟨m, hF⟩ := I.fr
  refine PySem.W.truthy_K hF I.ok.mod.kin J M.eq M.fn ?_
  refine wpAny_mono (call_one F hb hx hr rfl I (x := .ref a) rfl q) (fun w s' z => ?_) fun _ _ e => e
  obtain ⟨_, H', I', rz, k, rfl, qk⟩ := z
  cases (show w = .bool k from rz)
  exact ⟨H', I', qk⟩
theorem tru_or {r1 r2 : V → Hp → (Bool → Hp → Prop) → Prop} (h1 : TruR X r1) (h2 : TruR X r2) : TruR X (fun x H Q => r1 x H Q ∨ r2 x H Q) := by
  intro pins s σ H x v Q I rx h
  rcases h with h | h
  · exact h1 pins s σ H x v Q I rx h
  · exact h2 pins s σ H x v Q I rx h
end
end L2
namespace My
open PySem PySem.Spec PyProof.Rows L2
/-- what a class must have so that its instances' fields are read and stored -/
structure ClsR (K : PySem.W.Frag) (mg : Str → Option Value) (x : Str) (C : Addr) : Prop where
  g : mg x = some (.ref C)
  cl : Cls K C
/-- and so that isinstance may be asked of them -/
structure ClsI (K : PySem.W.Frag) (C : Addr) : Prop where
  ha : PySem.W.findIn K (.ref C) "__class__" = some (some (.builtin "object.__class__"))
  hm : PySem.W.mroIn K C (.type "object") = some true
  own : PySem.W.kitOne K (.ref C) (.ref C) = some true
/-- what isinstance asks of object itself -/
structure ObjI (K : PySem.W.Frag) : Prop where
  hn : PySem.W.specialIn K (.builtin "object.__class__") "__get__" = some (some (.builtin "getset_descriptor.__get__"))
  ht : PySem.W.takesIn K (.builtin "object.__class__") = some true
theorem same_make {H H' : Hp} {x dx C : Addr} {fs : List (Str × V)} (nx : H x = none) (nd : H dx = none) (ne : dx ≠ x) (kp : Keep x (upd (upd H dx (.own x)) x (.ins C dx fs)) H') : Same H H' := fun b o e => by
  have n1 : b ≠ x := fun z => by
    rw [z, nx] at e
    cases e
  have n2 : b ≠ dx := fun z => by
    rw [z, nd] at e
    cases e
  refine kp _ _ n1 ?_
  rw [upd_ne n1, upd_ne n2]
  exact e
section
variable {P : Program} {w : World} {K : PySem.W.Frag} {mg : Str → Option Value} {base : Heap}
/-- C(..), as a def calls it, that raises nothing -/
structure Made (P : Program) (w : World) (K : PySem.W.Frag) (mg : Str → Option Value) (base : Heap) (x : Str) (k : Nat) (ps : List Str) (sp : Sp) (C f : Addr) (fd : FuncData) : Prop where
  M : Mk K C f
  G : FnOk P w K mg base CX0 k f fd ps sp
  g : mg x = some (.ref C)
  b : Binds K fd ps []
/-- x.m(..), as a def calls it -/
structure Mth (P : Program) (w : World) (K : PySem.W.Frag) (mg : Str → Option Value) (base : Heap) (C : Addr) (m : Str) (k : Nat) (ps : List Str) (sp : Sp) (f : Addr) (fd : FuncData) : Prop where
  c : Cls K C
  m : Meth K C m f
  G : FnOk P w K mg base CX0 k f fd ps sp
  b : Binds K fd ps []
/-- bool(x), if x: .., as a def asks it -/
structure Bol (P : Program) (w : World) (K : PySem.W.Frag) (mg : Str → Option Value) (base : Heap) (C : Addr) (k : Nat) (sp : Sp) (f : Addr) (fd : FuncData) : Prop where
  M : BoolC K C f
  G : FnOk P w K mg base CX0 k f fd ["self"] sp
  b : Binds K fd ["self"] []
end
/-- an __init__ that only stores its arguments -/
def spStore (C : Addr) (names : List Str) : Sp := fun vs H Q _ => ∃ x dx xs, vs = .ref x :: xs ∧ xs.length = names.length ∧ H x = some (.ins C dx []) ∧ ∀ H', Keep x H H' → H' x = some (.ins C dx (names.zip xs)) → Q .non H'
end My
/-! three of four rows are empty already: the mathematics -/
namespace MT
abbrev R3 := Int × Int × Int
def cr (e f : R3) : Int := e.1 * f.2.1 - e.2.1 * f.1
/-- the weights of three rows with which their first two numbers vanish -/
def P0 (i j k : R3) : Int := cr j k
def P1 (i j k : R3) : Int := cr k i
def P2 (i j k : R3) : Int := cr i j
def C3 (i j k : R3) : Int := i.2.2 * P0 i j k + j.2.2 * P1 i j k + k.2.2 * P2 i j k
/-- what the program takes: all weights not below 0, or all not above 0, and then they are empty -/
def Takes (i j k : R3) : Prop := (0 ≤ P0 i j k ∧ 0 ≤ P1 i j k ∧ 0 ≤ P2 i j k ∧ C3 i j k < 0) ∨ (P0 i j k ≤ 0 ∧ P1 i j k ≤ 0 ∧ P2 i j k ≤ 0 ∧ 0 < C3 i j k)
theorem neg_of_pos {x y z : Int} (hx : 0 < x) (hz : 0 ≤ z) (e : x * y = z) : 0 ≤ y := by
  apply Int.not_lt.mp
  intro c
  have := Int.mul_pos hx (show 0 < -y by omega)
  grind
theorem sgn {x y z : Int} (hx : 0 < x) (hz : z < 0) (e : x * y = z) : y < 0 := by
  apply Int.not_le.mp
  intro c
  have := Int.mul_nonneg (Int.le_of_lt hx) c
  omega
/-- weights not below 0 of three rows that are not all parallel: the program takes these three -/
theorem takes_of {i j k : R3} {x y z : Int} (x0 : 0 ≤ x) (y0 : 0 ≤ y) (z0 : 0 ≤ z) (ea : x * i.1 + y * j.1 + z * k.1 = 0) (eb : x * i.2.1 + y * j.2.1 + z * k.2.1 = 0) (ec : x * i.2.2 + y * j.2.2 + z * k.2.2 < 0)
    (n : cr i j ≠ 0 ∨ cr j k ≠ 0 ∨ cr k i ≠ 0) : Takes i j k := by
  have q1 : x * P1 i j k = y * P0 i j k := by
    unfold P0 P1 cr
    grind
  have q2 : y * P2 i j k = z * P1 i j k := by
    unfold P1 P2 cr
    grind
  have q3 : z * P0 i j k = x * P2 i j k := by
    unfold P0 P2 cr
    grind
  have xc : x * C3 i j k = P0 i j k * (x * i.2.2 + y * j.2.2 + z * k.2.2) := by
    unfold C3
    grind
  have yc : y * C3 i j k = P1 i j k * (x * i.2.2 + y * j.2.2 + z * k.2.2) := by
    unfold C3
    grind
  have zc : z * C3 i j k = P2 i j k * (x * i.2.2 + y * j.2.2 + z * k.2.2) := by
    unfold C3
    grind
  have n : P2 i j k ≠ 0 ∨ P0 i j k ≠ 0 ∨ P1 i j k ≠ 0 := n
  unfold Takes
  generalize P0 i j k = p at *
  generalize P1 i j k = q at *
  generalize P2 i j k = r at *
  generalize C3 i j k = c at *
  generalize x * i.2.2 + y * j.2.2 + z * k.2.2 = d at *
  -- one weight is above 0, with it all others' signs are known
  have pos : 0 < x ∨ 0 < y ∨ 0 < z := by
    apply Classical.byContradiction
    intro h
    have hx : x = 0 := by omega
    have hy : y = 0 := by omega
    have hz : z = 0 := by omega
    subst hx hy hz
    rw [Int.zero_mul] at xc yc zc
    rcases n with h | h | h
    · rcases Int.mul_eq_zero.mp zc.symm with w | w <;> omega
    · rcases Int.mul_eq_zero.mp xc.symm with w | w <;> omega
    · rcases Int.mul_eq_zero.mp yc.symm with w | w <;> omega
  have main : ∀ {x y z p q r : Int}, 0 < x → 0 ≤ y → 0 ≤ z → x * q = y * p → z * p = x * r → x * c = p * d → (p ≠ 0 ∨ q ≠ 0 ∨ r ≠ 0) → (0 ≤ p ∧ 0 ≤ q ∧ 0 ≤ r ∧ c < 0) ∨ (p ≤ 0 ∧ q ≤ 0 ∧ r ≤ 0 ∧ 0 < c) := by
    intro x y z p q r hx hy hz h1 h2 h3 h4
    rcases Int.lt_trichotomy p 0 with hp | hp | hp
    · right
      have a1 := neg_of_pos (y := -q) hx (Int.mul_nonneg hy (show 0 ≤ -p by omega)) (by grind)
      have a2 := neg_of_pos (y := -r) hx (Int.mul_nonneg hz (show 0 ≤ -p by omega)) (by grind)
      have a3 := sgn (y := -c) hx (z := p * -d) (by
        have := Int.mul_pos (show 0 < -p by omega) (show 0 < -d by omega)
        grind) (by grind)
      omega
    · exfalso
      subst hp
      rw [Int.mul_zero] at h1 h2
      have e1 := Int.mul_eq_zero.mp h1
      have e2 := Int.mul_eq_zero.mp h2.symm
      omega
    · left
      have a1 := neg_of_pos (y := q) hx (Int.mul_nonneg hy (show 0 ≤ p by omega)) (by grind)
      have a2 := neg_of_pos (y := r) hx (Int.mul_nonneg hz (show 0 ≤ p by omega)) (by grind)
      have a3 := sgn (y := c) hx (z := p * d) (by
        have := Int.mul_pos hp (show 0 < -d by omega)
        grind) (by grind)
      omega
  rcases pos with h | h | h
  · exact main h y0 z0 q1 q3 xc (by omega)
  · have := main (p := q) (q := r) (r := p) h z0 x0 q2 q1 yc (by omega)
    omega
  · have := main (p := r) (q := p) (r := q) h x0 y0 q3 q2 zc (by omega)
    omega
/-- of some ratios the least -/
theorem argmin {ι : Type} (f g : ι → Int) : ∀ L : List ι, (∃ n, n ∈ L ∧ 0 < g n) → ∃ m, m ∈ L ∧ 0 < g m ∧ ∀ n, n ∈ L → 0 < g n → f m * g n ≤ f n * g m
  | [], ⟨_, h, _⟩ => (List.not_mem_nil h).elim
  | a :: L, h => by
    by_cases t : ∃ n, n ∈ L ∧ 0 < g n
    · obtain ⟨m, hm, gm, mn⟩ := argmin f g L t
      by_cases c : 0 < g a
      · by_cases l : f a * g m ≤ f m * g a
        · refine ⟨a, List.mem_cons_self, c, fun n hn gn => ?_⟩
          rcases List.mem_cons.mp hn with rfl | hn
          · exact Int.le_refl _
          · have x := Int.mul_le_mul_of_nonneg_right l (Int.le_of_lt gn)
            have y := Int.mul_le_mul_of_nonneg_right (mn n hn gn) (Int.le_of_lt c)
            have z : (f a * g n) * g m ≤ (f n * g a) * g m := by grind
            exact Int.le_of_mul_le_mul_right z gm
        · refine ⟨m, List.mem_cons_of_mem _ hm, gm, fun n hn gn => ?_⟩
          rcases List.mem_cons.mp hn with rfl | hn
          · omega
          · exact mn n hn gn
      · refine ⟨m, List.mem_cons_of_mem _ hm, gm, fun n hn gn => ?_⟩
        rcases List.mem_cons.mp hn with rfl | hn
        · exact absurd gn c
        · exact mn n hn gn
    · obtain ⟨n, hn, gn⟩ := h
      have e : n = a := by
        rcases List.mem_cons.mp hn with e | e
        · exact e
        · exact absurd ⟨n, e, gn⟩ t
      subst e
      refine ⟨n, List.mem_cons_self, gn, fun k hk gk => ?_⟩
      rcases List.mem_cons.mp hk with rfl | hk
      · exact Int.le_refl _
      · exact absurd ⟨k, hk, gk⟩ t
/-- weights of four rows -/
structure Four (v0 v1 v2 v3 : R3) (w0 w1 w2 w3 : Int) : Prop where
  a : w0 * v0.1 + w1 * v1.1 + w2 * v2.1 + w3 * v3.1 = 0
  b : w0 * v0.2.1 + w1 * v1.2.1 + w2 * v2.2.1 + w3 * v3.2.1 = 0
def csum (v0 v1 v2 v3 : R3) (w0 w1 w2 w3 : Int) : Int := w0 * v0.2.2 + w1 * v1.2.2 + w2 * v2.2.2 + w3 * v3.2.2
/-- no three of the four are parallel, as the fourth one has a weight -/
theorem no_three {v0 v1 v2 v3 : R3} {w0 w1 w2 w3 : Int} (h : Four v0 v1 v2 v3 w0 w1 w2 w3) (p3 : 0 < w3) (n : v0.2.1 ≠ 0) (z1 : cr v0 v1 = 0) (z2 : cr v0 v2 = 0) : cr v0 v3 = 0 := by
  have : w3 * cr v0 v3 = 0 := by
    have ha := h.a
    have hb := h.b
    unfold cr at *
    grind
  rcases Int.mul_eq_zero.mp this with z | z
  · omega
  · exact z
/-- weights of four not below 0, one of which is 0: the program takes the other three -/
theorem takes_four {v0 v1 v2 v3 : R3} {x0 x1 x2 x3 : Int} (h : Four v0 v1 v2 v3 x0 x1 x2 x3) (p0 : 0 ≤ x0) (p1 : 0 ≤ x1) (p2 : 0 ≤ x2) (p3 : 0 ≤ x3) (c : csum v0 v1 v2 v3 x0 x1 x2 x3 < 0)
    (n0 : cr v1 v2 ≠ 0 ∨ cr v2 v3 ≠ 0 ∨ cr v3 v1 ≠ 0) (n1 : cr v0 v2 ≠ 0 ∨ cr v2 v3 ≠ 0 ∨ cr v3 v0 ≠ 0) (n2 : cr v0 v1 ≠ 0 ∨ cr v1 v3 ≠ 0 ∨ cr v3 v0 ≠ 0) (n3 : cr v0 v1 ≠ 0 ∨ cr v1 v2 ≠ 0 ∨ cr v2 v0 ≠ 0)
    (z : x0 = 0 ∨ x1 = 0 ∨ x2 = 0 ∨ x3 = 0) : Takes v1 v2 v3 ∨ Takes v0 v2 v3 ∨ Takes v0 v1 v3 ∨ Takes v0 v1 v2 := by
  have ha := h.a
  have hb := h.b
  unfold csum at c
  rcases z with rfl | rfl | rfl | rfl
  · exact .inl (takes_of p1 p2 p3 (by omega) (by omega) (by omega) n0)
  · exact .inr (.inl (takes_of p0 p2 p3 (by omega) (by omega) (by omega) n1))
  · exact .inr (.inr (.inl (takes_of p0 p1 p3 (by omega) (by omega) (by omega) n2)))
  · exact .inr (.inr (.inr (takes_of p0 p1 p2 (by omega) (by omega) (by omega) n3)))
/-- from weights above 0 along others up to the first that vanishes -/
theorem move {w0 w1 w2 w3 z0 z1 z2 z3 : Int} (p0 : 0 < w0) (p1 : 0 < w1) (p2 : 0 < w2) (p3 : 0 < w3) (h : z0 < 0 ∨ z1 < 0 ∨ z2 < 0 ∨ z3 < 0) :
    ∃ s t : Int, 0 < s ∧ 0 < t ∧ 0 ≤ s * w0 + t * z0 ∧ 0 ≤ s * w1 + t * z1 ∧ 0 ≤ s * w2 + t * z2 ∧ 0 ≤ s * w3 + t * z3 ∧ (s * w0 + t * z0 = 0 ∨ s * w1 + t * z1 = 0 ∨ s * w2 + t * z2 = 0 ∨ s * w3 + t * z3 = 0) := by
  obtain ⟨m, hm, gm, mn⟩ := argmin (fun p : Int × Int => p.1) (fun p => -p.2) [(w0, z0), (w1, z1), (w2, z2), (w3, z3)] (by
    rcases h with h | h | h | h
    · exact ⟨(w0, z0), by simp, by show 0 < -z0; omega⟩
    · exact ⟨(w1, z1), by simp, by show 0 < -z1; omega⟩
    · exact ⟨(w2, z2), by simp, by show 0 < -z2; omega⟩
    · exact ⟨(w3, z3), by simp, by show 0 < -z3; omega⟩)
  have wp : 0 < m.1 := by
    simp only [List.mem_cons, List.not_mem_nil, or_false] at hm
    rcases hm with rfl | rfl | rfl | rfl <;> assumption
  have gm : 0 < -m.2 := gm
  have key : ∀ w z : Int, (w, z) ∈ [(w0, z0), (w1, z1), (w2, z2), (w3, z3)] → 0 < w → 0 ≤ -m.2 * w + m.1 * z := by
    intro w z hn pw
    by_cases c : z < 0
    · have := mn _ hn (show 0 < -z by omega)
      dsimp only at this
      grind
    · have a := Int.mul_pos gm pw
      have b := Int.mul_nonneg (Int.le_of_lt wp) (show 0 ≤ z by omega)
      omega
  refine ⟨-m.2, m.1, gm, wp, key _ _ (by simp) p0, key _ _ (by simp) p1, key _ _ (by simp) p2, key _ _ (by simp) p3, ?_⟩
  simp only [List.mem_cons, List.not_mem_nil, or_false] at hm
  rcases hm with rfl | rfl | rfl | rfl
  · exact .inl (by dsimp only; grind)
  · exact .inr (.inl (by dsimp only; grind))
  · exact .inr (.inr (.inl (by dsimp only; grind)))
  · exact .inr (.inr (.inr (by dsimp only; grind)))
theorem Four.mix {v0 v1 v2 v3 : R3} {w0 w1 w2 w3 z0 z1 z2 z3 s t : Int} (h : Four v0 v1 v2 v3 w0 w1 w2 w3) (g : Four v0 v1 v2 v3 z0 z1 z2 z3) : Four v0 v1 v2 v3 (s * w0 + t * z0) (s * w1 + t * z1) (s * w2 + t * z2) (s * w3 + t * z3) := by
  obtain ⟨a, b⟩ := h
  obtain ⟨a', b'⟩ := g
  constructor
  · have : s * (w0 * v0.1 + w1 * v1.1 + w2 * v2.1 + w3 * v3.1) + t * (z0 * v0.1 + z1 * v1.1 + z2 * v2.1 + z3 * v3.1) = 0 := by rw [a, a']; omega
    clear a b a' b'
    grind
  · have : s * (w0 * v0.2.1 + w1 * v1.2.1 + w2 * v2.2.1 + w3 * v3.2.1) + t * (z0 * v0.2.1 + z1 * v1.2.1 + z2 * v2.2.1 + z3 * v3.2.1) = 0 := by rw [b, b']; omega
    clear a b a' b'
    grind
theorem csum_mix (v0 v1 v2 v3 : R3) (w0 w1 w2 w3 z0 z1 z2 z3 s t : Int) : csum v0 v1 v2 v3 (s * w0 + t * z0) (s * w1 + t * z1) (s * w2 + t * z2) (s * w3 + t * z3) = s * csum v0 v1 v2 v3 w0 w1 w2 w3 + t * csum v0 v1 v2 v3 z0 z1 z2 z3 := by
  unfold csum
  grind
/-- of four rows with weights above 0 that are empty, not all parallel, the program takes three -/
theorem some_three {v0 v1 v2 v3 : R3} {w0 w1 w2 w3 : Int} (h : Four v0 v1 v2 v3 w0 w1 w2 w3) (p0 : 0 < w0) (p1 : 0 < w1) (p2 : 0 < w2) (p3 : 0 < w3) (c : csum v0 v1 v2 v3 w0 w1 w2 w3 < 0)
    (n0 : cr v1 v2 ≠ 0 ∨ cr v2 v3 ≠ 0 ∨ cr v3 v1 ≠ 0) (n1 : cr v0 v2 ≠ 0 ∨ cr v2 v3 ≠ 0 ∨ cr v3 v0 ≠ 0) (n2 : cr v0 v1 ≠ 0 ∨ cr v1 v3 ≠ 0 ∨ cr v3 v0 ≠ 0) (n3 : cr v0 v1 ≠ 0 ∨ cr v1 v2 ≠ 0 ∨ cr v2 v0 ≠ 0) :
    Takes v1 v2 v3 ∨ Takes v0 v2 v3 ∨ Takes v0 v1 v3 ∨ Takes v0 v1 v2 := by
  -- the weights of the first three
  have g : Four v0 v1 v2 v3 (P0 v0 v1 v2) (P1 v0 v1 v2) (P2 v0 v1 v2) 0 := by
    unfold P0 P1 P2 cr
    constructor <;> grind
  have g' : Four v0 v1 v2 v3 (-P0 v0 v1 v2) (-P1 v0 v1 v2) (-P2 v0 v1 v2) 0 := by
    obtain ⟨a, b⟩ := g
    constructor <;> grind
  have gc : csum v0 v1 v2 v3 (-P0 v0 v1 v2) (-P1 v0 v1 v2) (-P2 v0 v1 v2) 0 = -csum v0 v1 v2 v3 (P0 v0 v1 v2) (P1 v0 v1 v2) (P2 v0 v1 v2) 0 := by
    unfold csum
    grind
  have nz : P2 v0 v1 v2 ≠ 0 ∨ P0 v0 v1 v2 ≠ 0 ∨ P1 v0 v1 v2 ≠ 0 := n3
  have down : (P0 v0 v1 v2 < 0 ∨ P1 v0 v1 v2 < 0 ∨ P2 v0 v1 v2 < 0 ∨ (0 : Int) < 0) → csum v0 v1 v2 v3 (P0 v0 v1 v2) (P1 v0 v1 v2) (P2 v0 v1 v2) 0 ≤ 0 → Takes v1 v2 v3 ∨ Takes v0 v2 v3 ∨ Takes v0 v1 v3 ∨ Takes v0 v1 v2 := by
    intro hz cz
    obtain ⟨s, t, s0, t0, q0, q1, q2, q3, z⟩ := move p0 p1 p2 p3 hz
    refine takes_four (h.mix g) q0 q1 q2 q3 ?_ n0 n1 n2 n3 z
    rw [csum_mix]
    have a := Int.mul_lt_mul_of_pos_left c s0
    have b := Int.mul_le_mul_of_nonneg_left cz (Int.le_of_lt t0)
    omega
  have up : (-P0 v0 v1 v2 < 0 ∨ -P1 v0 v1 v2 < 0 ∨ -P2 v0 v1 v2 < 0 ∨ (0 : Int) < 0) → 0 ≤ csum v0 v1 v2 v3 (P0 v0 v1 v2) (P1 v0 v1 v2) (P2 v0 v1 v2) 0 → Takes v1 v2 v3 ∨ Takes v0 v2 v3 ∨ Takes v0 v1 v3 ∨ Takes v0 v1 v2 := by
    intro hz cz
    obtain ⟨s, t, s0, t0, q0, q1, q2, q3, z⟩ := move p0 p1 p2 p3 hz
    refine takes_four (h.mix g') q0 q1 q2 q3 ?_ n0 n1 n2 n3 z
    rw [csum_mix, gc]
    have a := Int.mul_lt_mul_of_pos_left c s0
    have b := Int.mul_le_mul_of_nonneg_left cz (Int.le_of_lt t0)
    grind
  by_cases hn : P0 v0 v1 v2 < 0 ∨ P1 v0 v1 v2 < 0 ∨ P2 v0 v1 v2 < 0
  · by_cases hp : 0 < P0 v0 v1 v2 ∨ 0 < P1 v0 v1 v2 ∨ 0 < P2 v0 v1 v2
    · rcases Int.le_total (csum v0 v1 v2 v3 (P0 v0 v1 v2) (P1 v0 v1 v2) (P2 v0 v1 v2) 0) 0 with cz | cz
      · exact down (by omega) cz
      · exact up (by omega) cz
    · by_cases cz : csum v0 v1 v2 v3 (P0 v0 v1 v2) (P1 v0 v1 v2) (P2 v0 v1 v2) 0 ≤ 0
      · exact down (by omega) cz
      · refine .inr (.inr (.inr (.inr ⟨by omega, by omega, by omega, ?_⟩)))
        unfold csum at cz
        unfold C3
        grind
  · by_cases cz : 0 ≤ csum v0 v1 v2 v3 (P0 v0 v1 v2) (P1 v0 v1 v2) (P2 v0 v1 v2) 0
    · exact up (by omega) cz
    · refine .inr (.inr (.inr (.inl ⟨by omega, by omega, by omega, ?_⟩)))
      unfold csum at cz
      unfold C3
      grind
theorem cr_par {u x y : R3} (n : u.2.1 ≠ 0) (hx : cr u x = 0) (hy : cr u y = 0) : cr x y = 0 := by
  have : u.2.1 * cr x y = 0 := by
    unfold cr at *
    grind
  rcases Int.mul_eq_zero.mp this with z | z
  · exact absurd z n
  · exact z
theorem cr_neg {u x : R3} (h : cr u x = 0) : cr x u = 0 := by
  unfold cr at *
  grind
theorem Four.turn {v0 v1 v2 v3 : R3} {w0 w1 w2 w3 : Int} (h : Four v0 v1 v2 v3 w0 w1 w2 w3) : Four v1 v2 v3 v0 w1 w2 w3 w0 := ⟨by have := h.a; omega, by have := h.b; omega⟩
/-- all four are parallel if three are -/
theorem all_par {v0 v1 v2 v3 : R3} {w0 w1 w2 w3 : Int} (h : Four v0 v1 v2 v3 w0 w1 w2 w3) (p3 : 0 < w3) (n : v0.2.1 ≠ 0) (z1 : cr v0 v1 = 0) (z2 : cr v0 v2 = 0) : cr v0 v1 = 0 ∧ cr v0 v2 = 0 ∧ cr v0 v3 = 0 ∧ cr v1 v2 = 0 ∧ cr v1 v3 = 0 ∧ cr v2 v3 = 0 := by
  have z3 := no_three h p3 n z1 z2
  exact ⟨z1, z2, z3, cr_par n z1 z2, cr_par n z1 z3, cr_par n z2 z3⟩
/-- four rows with weights above 0 that are empty, and not all parallel: the program takes three of them -/
theorem four_takes {v0 v1 v2 v3 : R3} {w0 w1 w2 w3 : Int} (h : Four v0 v1 v2 v3 w0 w1 w2 w3) (p0 : 0 < w0) (p1 : 0 < w1) (p2 : 0 < w2) (p3 : 0 < w3) (c : csum v0 v1 v2 v3 w0 w1 w2 w3 < 0)
    (b0 : v0.2.1 ≠ 0) (b1 : v1.2.1 ≠ 0) (b2 : v2.2.1 ≠ 0) (b3 : v3.2.1 ≠ 0) (ne : ¬ (cr v0 v1 = 0 ∧ cr v0 v2 = 0 ∧ cr v0 v3 = 0 ∧ cr v1 v2 = 0 ∧ cr v1 v3 = 0 ∧ cr v2 v3 = 0)) :
    Takes v1 v2 v3 ∨ Takes v0 v2 v3 ∨ Takes v0 v1 v3 ∨ Takes v0 v1 v2 := by
  have f1 := h.turn
  have f2 := f1.turn
  have f3 := f2.turn
  refine some_three h p0 p1 p2 p3 c ?_ ?_ ?_ ?_
  · apply Classical.byContradiction
    intro k
    have k1 : cr v1 v2 = 0 := by omega
    have k2 : cr v1 v3 = 0 := cr_neg (by omega)
    have := all_par f1 p0 b1 k1 k2
    exact ne ⟨cr_neg this.2.2.1, cr_neg this.2.2.2.2.1, cr_neg this.2.2.2.2.2, this.1, this.2.1, this.2.2.2.1⟩
  · apply Classical.byContradiction
    intro k
    have k1 : cr v2 v3 = 0 := by omega
    have k2 : cr v2 v0 = 0 := cr_neg (by omega)
    have := all_par f2 p1 b2 k1 k2
    exact ne ⟨this.2.2.2.2.2, cr_neg this.2.1, cr_neg this.2.2.2.1, cr_neg this.2.2.1, cr_neg this.2.2.2.2.1, this.1⟩
  · apply Classical.byContradiction
    intro k
    have k1 : cr v3 v0 = 0 := by omega
    have k2 : cr v3 v1 = 0 := cr_neg (by omega)
    have := all_par f3 p2 b3 k1 k2
    exact ne ⟨this.2.2.2.1, this.2.2.2.2.1, cr_neg this.1, this.2.2.2.2.2, cr_neg this.2.1, cr_neg this.2.2.1⟩
  · apply Classical.byContradiction
    intro k
    have k1 : cr v0 v1 = 0 := by omega
    have k2 : cr v0 v2 = 0 := cr_neg (by omega)
    exact ne (all_par h p3 b0 k1 k2)
end MT
/-! sums of rounded lines: the mathematics -/
namespace M46
def rsum (f : Nat → Int) : Nat → Int
  | 0 => 0
  | n + 1 => rsum f n + f n
theorem rsum_zero (f : Nat → Int) : rsum f 0 = 0 := rfl
theorem rsum_succ (f : Nat → Int) (n : Nat) : rsum f (n + 1) = rsum f n + f n := rfl
theorem rsum_congr {f g : Nat → Int} : ∀ n : Nat, (∀ i, i < n → f i = g i) → rsum f n = rsum g n
  | 0, _ => rfl
  | n + 1, h => by
    rw [rsum_succ, rsum_succ, rsum_congr n fun i hi => h i (by omega), h n (by omega)]
theorem rsum_add (f g : Nat → Int) : ∀ n, rsum (fun i => f i + g i) n = rsum f n + rsum g n
  | 0 => rfl
  | n + 1 => by rw [rsum_succ, rsum_succ, rsum_succ, rsum_add f g n]; omega
theorem rsum_const (c : Int) : ∀ n : Nat, rsum (fun _ => c) n = c * n
  | 0 => by rw [rsum_zero]; simp
  | n + 1 => by rw [rsum_succ, rsum_const c n, Int.natCast_succ, Int.mul_add, Int.mul_one]
theorem rsum_smul (c : Int) (f : Nat → Int) : ∀ n : Nat, rsum (fun i => c * f i) n = c * rsum f n
  | 0 => by rw [rsum_zero, rsum_zero, Int.mul_zero]
  | n + 1 => by rw [rsum_succ, rsum_succ, rsum_smul c f n, Int.mul_add]
theorem rsum_front (f : Nat → Int) : ∀ n, rsum f (n + 1) = f 0 + rsum (fun i => f (i + 1)) n
  | 0 => by rw [rsum_succ, rsum_zero, rsum_zero]; omega
  | n + 1 => by rw [rsum_succ, rsum_front f n, rsum_succ]; omega
theorem rsum_rev (f : Nat → Int) : ∀ n, rsum (fun i => f (n - 1 - i)) n = rsum f n
  | 0 => rfl
  | n + 1 => by
    rw [rsum_front, rsum_succ]
    have e : rsum (fun i => f (n + 1 - 1 - (i + 1))) n = rsum (fun i => f (n - 1 - i)) n := rsum_congr n fun i _ => by
      congr 1; omega
    rw [e, rsum_rev f n]
    show f (n + 1 - 1 - 0) + _ = _
    rw [show n + 1 - 1 - 0 = n by omega]; omega
theorem rsum_more (f : Nat → Int) (n : Nat) : ∀ k, rsum f (n + k) = rsum f n + rsum (fun i => f (n + i)) k
  | 0 => by rw [rsum_zero]; simp
  | k + 1 => by
    show rsum f ((n + k) + 1) = _
    rw [rsum_succ, rsum_succ, rsum_more f n k]; omega
theorem rsum_blocks (f : Nat → Int) (p : Nat) : ∀ n, rsum (fun r => rsum (fun i => f (p * i + r)) n) p = rsum f (n * p)
  | 0 => by
    rw [Nat.zero_mul, rsum_zero]
    show rsum (fun _ => (0 : Int)) p = 0
    rw [rsum_const]; simp
  | n + 1 => by
    rw [Nat.add_mul, Nat.one_mul, rsum_more, ← rsum_blocks f p n]
    rw [← rsum_add]
    refine rsum_congr p fun i _ => ?_
    show rsum _ (n + 1) = _
    rw [rsum_succ]
    show _ + f (p * n + i) = _ + f (n * p + i)
    rw [Nat.mul_comm n p]
/-- the sum of (a i + b) // m -/
def fsum (a b m : Int) (n : Nat) : Int := rsum (fun i => (a * (i : Int) + b) / m) n
theorem fsum_zero (a b m : Int) : fsum a b m 0 = 0 := rfl
theorem fsum_succ (a b m : Int) (n : Nat) : fsum a b m (n + 1) = fsum a b m n + (a * (n : Int) + b) / m := rfl
/-- 0 + 1 + .. below n -/
def tri (n : Nat) : Int := rsum (fun i => (i : Int)) n
theorem tri_two : ∀ n : Nat, 2 * tri n = (n : Int) * ((n : Int) - 1)
  | 0 => by simp [tri, rsum_zero]
  | n + 1 => by
    have h := tri_two n
    have e : tri (n + 1) = tri n + n := rfl
    rw [e, Int.mul_add, h]
    have x : ((n + 1 : Nat) : Int) = (n : Int) + 1 := by omega
    rw [x]
    have y : ((n : Int) + 1) * ((n : Int) + 1 - 1) = (n : Int) * ((n : Int) - 1) + 2 * n := by
      rw [show (n : Int) + 1 - 1 = n by omega, Int.add_mul, Int.mul_sub, Int.mul_one, Int.one_mul]; omega
    rw [y]
theorem tri_eq (n : Nat) : (n : Int) * ((n : Int) - 1) / 2 = tri n := by
  rw [← tri_two]; omega
theorem fsum_shift {m : Int} (hm : 0 < m) (a b p q : Int) (n : Nat) : fsum a b m n = fsum (a - p * m) (b - q * m) m n + p * tri n + q * n := by
  unfold fsum tri
  rw [← rsum_smul, ← rsum_const, ← rsum_add, ← rsum_add]
  refine rsum_congr n fun i _ => ?_
  have e : a * (i : Int) + b = ((a - p * m) * i + (b - q * m)) + (p * i + q) * m := by
    rw [Int.sub_mul, Int.add_mul, Int.mul_right_comm p m i]; omega
  rw [e, Int.add_mul_ediv_right _ _ (by omega)]; omega
theorem fsum_mod {m : Int} (hm : 0 < m) (a b : Int) (n : Nat) : fsum a b m n = tri n * (a / m) + n * (b / m) + fsum (a % m) (b % m) m n := by
  have h := fsum_shift hm a b (a / m) (b / m) n
  have e1 : a - a / m * m = a % m := by rw [Int.emod_def, Int.mul_comm]
  have e2 : b - b / m * m = b % m := by rw [Int.emod_def, Int.mul_comm]
  rw [e1, e2] at h
  rw [h, Int.mul_comm (a / m), Int.mul_comm (b / m)]; omega
/-- the sum over the numbers -/
def hsum (a b m : Int) (n : Nat) (K : Nat) : Int := rsum (fun j => (n : Int) + (b - m * ((j : Int) + 1)) / a) K
theorem hsum_next (a b m : Int) (n K : Nat) : hsum a b m (n + 1) K = hsum a b m n K + K := by
  unfold hsum
  have h : (K : Int) = rsum (fun _ => 1) K := by rw [rsum_const]; omega
  rw [h, ← rsum_add]
  refine rsum_congr K fun i _ => ?_
  omega
theorem fsum_hsum {a b m : Int} (ha : 0 < a) (ham : a < m) (hb : 0 ≤ b) (hbm : b < m) : ∀ n : Nat, fsum a b m n = hsum a b m n ((a * n + b) / m).toNat
  | 0 => by
    have : (a * ((0 : Nat) : Int) + b) / m = 0 := by
      rw [Int.natCast_zero, Int.mul_zero, Int.zero_add]; exact Int.ediv_eq_zero_of_lt hb hbm
    rw [this, fsum_zero]; rfl
  | n + 1 => by
    have ih := fsum_hsum ha ham hb hbm n
    have hm : 0 < m := by omega
    have hn : 0 ≤ a * (n : Int) := Int.mul_nonneg (by omega) (by omega)
    have e : a * ((n + 1 : Nat) : Int) + b = (a * n + b) + a := by
      rw [Int.natCast_succ, Int.mul_add, Int.mul_one]; omega
    rw [fsum_succ, ih, e]
    generalize hK : (a * (n : Int) + b) / m = K
    have k0 : 0 ≤ K := by rw [← hK]; exact Int.ediv_nonneg (by omega) (by omega)
    have k1 : m * K ≤ a * n + b := by rw [← hK]; exact Int.mul_ediv_self_le (by omega)
    have k2 : a * n + b < m * K + m := by
      have := Int.lt_mul_ediv_self_add (x := a * (n : Int) + b) hm
      rw [hK] at this; exact this
    by_cases h : a * n + b + a < m * K + m
    · have eK : (a * (n : Int) + b + a) / m = K := by
        rw [Int.ediv_eq_iff_of_pos hm]
        constructor
        · rw [Int.mul_comm]; omega
        · rw [Int.mul_comm K m]; omega
      rw [eK, hsum_next]; omega
    · have eK : (a * (n : Int) + b + a) / m = K + 1 := by
        rw [Int.ediv_eq_iff_of_pos hm]
        constructor
        · rw [Int.add_mul, Int.mul_comm K m]; omega
        · rw [Int.add_mul, Int.mul_comm K m]; omega
      rw [eK, show (K + 1).toNat = K.toNat + 1 by omega, hsum_next]
      show hsum a b m n K.toNat + K = hsum a b m n (K.toNat + 1) + ((K.toNat + 1 : Nat) : Int)
      have es : hsum a b m n (K.toNat + 1) = hsum a b m n K.toNat + ((n : Int) + (b - m * ((K.toNat : Int) + 1)) / a) := rfl
      rw [es]
      have eq : (b - m * ((K.toNat : Int) + 1)) / a = - ((n : Int) + 1) := by
        rw [show ((K.toNat : Int)) = K by omega, Int.ediv_eq_iff_of_pos ha]
        rw [Int.mul_add, Int.mul_one, Int.neg_mul, Int.add_mul, Int.mul_comm (n : Int) a]
        constructor <;> omega
      omega
/-- the places and the numbers exchanged -/
theorem fsum_swap {a b m : Int} (ha : 0 < a) (ham : a < m) (hb : 0 ≤ b) (hbm : b < m) (n : Nat) : fsum a b m n = fsum m ((a * n + b) % m) a ((a * n + b) / m).toNat := by
  rw [fsum_hsum ha ham hb hbm]
  have hm : 0 < m := by omega
  have hn : 0 ≤ a * (n : Int) := Int.mul_nonneg (by omega) (by omega)
  have k0 : 0 ≤ (a * (n : Int) + b) / m := Int.ediv_nonneg (by omega) (by omega)
  rw [Int.emod_def]
  generalize (a * (n : Int) + b) / m = K at k0
  unfold hsum fsum
  rw [← rsum_rev]
  refine rsum_congr _ fun i hi => ?_
  have e1 : ((K.toNat - 1 - i : Nat) : Int) + 1 = K - i := by omega
  rw [e1]
  have e2 : m * (i : Int) + (a * n + b - m * K) = (b - m * (K - i)) + n * a := by
    rw [Int.mul_sub, Int.mul_comm (n : Int) a]; omega
  rw [e2, Int.add_mul_ediv_right _ _ (by omega)]; omega
/-- a line that stays at 0 -/
theorem fsum_flat {b m : Int} (hb : 0 ≤ b) (hbm : b < m) (n : Nat) : fsum 0 b m n = 0 := by
  unfold fsum
  have e : rsum (fun i => (0 * (i : Int) + b) / m) n = rsum (fun _ => (0 : Int)) n := rsum_congr n fun i _ => by
    rw [Int.zero_mul, Int.zero_add]; exact Int.ediv_eq_zero_of_lt hb hbm
  rw [e, rsum_const]; omega
theorem fsum_back (a b m : Int) (n : Nat) : fsum (0 - a) (b + a * ((n : Int) - 1)) m n = fsum a b m n := by
  unfold fsum
  rw [← rsum_rev (fun i => (a * (i : Int) + b) / m)]
  refine rsum_congr n fun i hi => ?_
  have e : ((n - 1 - i : Nat) : Int) = (n : Int) - 1 - i := by omega
  show _ = (a * ((n - 1 - i : Nat) : Int) + b) / m
  rw [e]
  congr 1
  rw [Int.sub_mul, Int.zero_mul, Int.mul_sub a _ (i : Int)]; omega
theorem fsum_times {m t r : Int} (hm : 0 < m) (ht : 0 < t) (h0 : 0 ≤ r) (hr : r < t) (a b : Int) (n : Nat) : fsum (a * t) (b * t + r) (m * t) n = fsum a b m n := by
  unfold fsum
  refine rsum_congr n fun i hi => ?_
  have e : a * t * (i : Int) + (b * t + r) = r + (a * i + b) * t := by
    rw [Int.add_mul, Int.mul_right_comm]; omega
  rw [e, Int.mul_comm m t, ← Int.ediv_ediv_of_nonneg (by omega), Int.add_mul_ediv_right _ _ (by omega), Int.ediv_eq_zero_of_lt h0 hr, Int.zero_add]
theorem fsum_parts (a b m : Int) (p n : Nat) : rsum (fun r => fsum (a * (p : Int)) (a * (r : Int) + b) m n) p = fsum a b m (n * p) := by
  unfold fsum
  rw [← rsum_blocks]
  refine rsum_congr p fun r _ => rsum_congr n fun i _ => ?_
  congr 1
  rw [Int.natCast_add, Int.natCast_mul, Int.mul_add, Int.mul_assoc]; omega
theorem ediv_turn {m : Int} (hm : 0 < m) (x : Int) : x / m + (0 - x - 1) / m = -1 := by
  have h : (0 - x - 1) / m = -(x / m) - 1 := by
    rw [Int.ediv_eq_iff_of_pos hm]
    have k1 : m * (x / m) ≤ x := Int.mul_ediv_self_le (by omega)
    have k2 : x < m * (x / m) + m := Int.lt_mul_ediv_self_add hm
    generalize x / m = K at k1 k2
    rw [Int.sub_mul, Int.neg_mul, Int.mul_comm K m]
    constructor <;> omega
  omega
theorem fsum_turn {m : Int} (hm : 0 < m) (a b : Int) (n : Nat) : fsum a b m n + fsum (0 - a) (0 - b - 1) m n = 0 - (n : Int) := by
  unfold fsum
  rw [← rsum_add]
  have e : rsum (fun i => (a * (i : Int) + b) / m + ((0 - a) * (i : Int) + (0 - b - 1)) / m) n = rsum (fun _ => (-1 : Int)) n := rsum_congr n fun i _ => by
    have h := ediv_turn hm (a * (i : Int) + b)
    have x : (0 - a) * (i : Int) + (0 - b - 1) = 0 - (a * (i : Int) + b) - 1 := by
      rw [Int.sub_mul, Int.zero_mul]; omega
    rw [x]; exact h
  rw [e, rsum_const]; omega
/-- one turn of the loop -/
theorem turn_ok {m : Int} (hm : 0 < m) (a b : Int) (n : Nat) : fsum a b m n = (n : Int) * ((n : Int) - 1) / 2 * (a / m) + n * (b / m) + fsum m ((a % m * n + b % m) % m) (a % m) ((a % m * n + b % m) / m).toNat := by
  rw [fsum_mod hm, tri_eq]
  have a0 := Int.emod_nonneg a (show m ≠ 0 by omega)
  have a1 := Int.emod_lt_of_pos a hm
  have b0 := Int.emod_nonneg b (show m ≠ 0 by omega)
  have b1 := Int.emod_lt_of_pos b hm
  by_cases h : 0 < a % m
  · rw [fsum_swap h a1 b0 b1]
  · have z : a % m = 0 := by omega
    rw [z, fsum_flat b0 b1, Int.zero_mul, Int.zero_add, Int.ediv_eq_zero_of_lt b0 b1]
    rfl
end M46
namespace K29
open PySem PySem.Spec PyProof.Rows L2 My
/-! ### the text -/
def topS (i : Nat) : Stmt := PySem.Challenge.pw_pointorstrip_k29_points_under_lines.main.body.getD i (.Pass ⟨0, 0, 0, 0⟩)
abbrev s_is_line_row : Stmt := topS 16
theorem sc_is_line_row : FnScope ["row"] ["row"] (defScope s_is_line_row) := ⟨rfl, rfl, rfl, by decide +kernel, rfl, by decide +kernel, by decide +kernel⟩
abbrev s_line_rows : Stmt := topS 17
theorem sc_line_rows : FnScope ["rows", "number", "row"] ["rows"] (defScope s_line_rows) := ⟨rfl, rfl, rfl, by decide +kernel, rfl, by decide +kernel, by decide +kernel⟩
abbrev s_Region___init__ : Stmt := inClass (topS 18) 0
theorem sc_Region___init__ : FnScope ["self", "rows"] ["self", "rows"] (defScope s_Region___init__) := ⟨rfl, rfl, rfl, by decide +kernel, rfl, by decide +kernel, by decide +kernel⟩
abbrev s__law_number : Stmt := topS 70
theorem sc__law_number : FnScope ["script", "index", "cell", "turn", "rest", "step", "blend"] ["script", "index"] (defScope s__law_number) := ⟨rfl, rfl, rfl, by decide +kernel, rfl, by decide +kernel, by decide +kernel⟩
abbrev s__law_take : Stmt := topS 71
theorem sc__law_take : FnScope ["draw", "many"] ["draw", "many"] (defScope s__law_take) := ⟨rfl, rfl, rfl, by decide +kernel, rfl, by decide +kernel, by decide +kernel⟩
abbrev s__law_long : Stmt := topS 72
theorem sc__law_long : FnScope ["draw", "figures_v", "found", "turn"] ["draw", "figures_v"] (defScope s__law_long) := ⟨rfl, rfl, rfl, by decide +kernel, rfl, by decide +kernel, by decide +kernel⟩
abbrev s__law_bezout : Stmt := topS 73
theorem sc__law_bezout : FnScope ["one", "other", "now", "late", "turn", "times"] ["one", "other"] (defScope s__law_bezout) := ⟨rfl, rfl, rfl, by decide +kernel, rfl, by decide +kernel, by decide +kernel⟩
abbrev s_law : Stmt := topS 74
theorem sc_law : FnScope ["script", "draw", "a", "m", "many", "b", "region", "g", "p", "q", "wide"] ["script"] (defScope s_law) := ⟨rfl, rfl, rfl, by decide +kernel, rfl, by decide +kernel, by decide +kernel⟩
abbrev s_is_number : Stmt := topS 8
theorem sc_is_number : FnScope ["value"] ["value"] (defScope s_is_number) := ⟨rfl, rfl, rfl, by decide +kernel, rfl, by decide +kernel, by decide +kernel⟩
abbrev s_check_numbers : Stmt := topS 9
theorem sc_check_numbers : FnScope ["values", "value"] ["values"] (defScope s_check_numbers) := ⟨rfl, rfl, rfl, by decide +kernel, rfl, by decide +kernel, by decide +kernel⟩
abbrev s_check_from : Stmt := topS 10
theorem sc_check_from : FnScope ["least", "value"] ["least", "value"] (defScope s_check_from) := ⟨rfl, rfl, rfl, by decide +kernel, rfl, by decide +kernel, by decide +kernel⟩
abbrev s_power : Stmt := topS 11
theorem sc_power : FnScope ["base", "exponent", "found"] ["base", "exponent"] (defScope s_power) := ⟨rfl, rfl, rfl, by decide +kernel, rfl, by decide +kernel, by decide +kernel⟩
abbrev s_figures : Stmt := topS 12
theorem sc_figures : FnScope ["number", "rest", "many", "bound"] ["number"] (defScope s_figures) := ⟨rfl, rfl, rfl, by decide +kernel, rfl, by decide +kernel, by decide +kernel⟩
abbrev s_check_size : Stmt := topS 13
theorem sc_check_size : FnScope ["rows", "others", "most_rows", "most_figures", "row", "number"] ["rows", "others", "most_rows", "most_figures"] (defScope s_check_size) := ⟨rfl, rfl, rfl, by decide +kernel, rfl, by decide +kernel, by decide +kernel⟩
abbrev s_check_figures : Stmt := topS 14
theorem sc_check_figures : FnScope ["numbers", "most", "longest", "number"] ["numbers", "most"] (defScope s_check_figures) := ⟨rfl, rfl, rfl, by decide +kernel, rfl, by decide +kernel, by decide +kernel⟩
abbrev s_below : Stmt := topS 23
theorem sc_below : FnScope ["one", "other"] ["one", "other"] (defScope s_below) := ⟨rfl, rfl, rfl, by decide +kernel, rfl, by decide +kernel, by decide +kernel⟩
abbrev s_difference : Stmt := topS 24
theorem sc_difference : FnScope ["one", "other"] ["one", "other"] (defScope s_difference) := ⟨rfl, rfl, rfl, by decide +kernel, rfl, by decide +kernel, by decide +kernel⟩
abbrev s_floor_of : Stmt := topS 25
theorem sc_floor_of : FnScope ["fraction"] ["fraction"] (defScope s_floor_of) := ⟨rfl, rfl, rfl, by decide +kernel, rfl, by decide +kernel, by decide +kernel⟩
abbrev s_ceil_of : Stmt := topS 26
theorem sc_ceil_of : FnScope ["fraction"] ["fraction"] (defScope s_ceil_of) := ⟨rfl, rfl, rfl, by decide +kernel, rfl, by decide +kernel, by decide +kernel⟩
abbrev s_parallel : Stmt := topS 36
theorem sc_parallel : FnScope ["one", "other"] ["one", "other"] (defScope s_parallel) := ⟨rfl, rfl, rfl, by decide +kernel, rfl, by decide +kernel, by decide +kernel⟩
abbrev s_crossing : Stmt := topS 37
theorem sc_crossing : FnScope ["one", "other"] ["one", "other"] (defScope s_crossing) := ⟨rfl, rfl, rfl, by decide +kernel, rfl, by decide +kernel, by decide +kernel⟩
abbrev s_comes_first : Stmt := topS 38
theorem sc_comes_first : FnScope ["one", "other", "ahead"] ["one", "other"] (defScope s_comes_first) := ⟨rfl, rfl, rfl, by decide +kernel, rfl, by decide +kernel, by decide +kernel⟩
abbrev s_by_slope : Stmt := topS 39
theorem sc_by_slope : FnScope ["lines", "middle", "left", "right", "merged", "at", "line"] ["lines"] (defScope s_by_slope) := ⟨rfl, rfl, rfl, by decide +kernel, rfl, by decide +kernel, by decide +kernel⟩
abbrev s_tightest : Stmt := topS 40
theorem sc_tightest : FnScope ["lines", "chain", "line", "start"] ["lines"] (defScope s_tightest) := ⟨rfl, rfl, rfl, by decide +kernel, rfl, by decide +kernel, by decide +kernel⟩
abbrev s_tight_pairs : Stmt := topS 41
theorem sc_tight_pairs : FnScope ["uppers", "lowers", "i", "j", "found", "more"] ["uppers", "lowers"] (defScope s_tight_pairs) := ⟨rfl, rfl, rfl, by decide +kernel, rfl, by decide +kernel, by decide +kernel⟩
abbrev s_weights_of : Stmt := topS 44
theorem sc_weights_of : FnScope ["many", "parts", "weights", "common", "at", "weight"] ["many", "parts"] (defScope s_weights_of) := ⟨rfl, rfl, rfl, by decide +kernel, rfl, by decide +kernel, by decide +kernel⟩
abbrev s_empty_three : Stmt := topS 45
theorem sc_empty_three : FnScope ["rows", "numbers", "left_out", "i", "j", "k", "a", "b", "c", "p", "q", "r", "s", "t", "w", "parts", "least", "most", "at", "_", "weight"] ["rows", "numbers"] (defScope s_empty_three) := ⟨rfl, rfl, rfl, by decide +kernel, rfl, by decide +kernel, by decide +kernel⟩
abbrev s_Outline___init__ : Stmt := inClass (topS 43) 0
theorem sc_Outline___init__ : FnScope ["self", "rows", "at", "row", "upper", "lower", "a", "c"] ["self", "rows"] (defScope s_Outline___init__) := ⟨rfl, rfl, rfl, by decide +kernel, rfl, by decide +kernel, by decide +kernel⟩
abbrev s_Outline__bound : Stmt := inClass (topS 43) 1
theorem sc_Outline__bound : FnScope ["self", "rows", "a", "c", "parts"] ["self", "rows", "a", "c", "parts"] (defScope s_Outline__bound) := ⟨rfl, rfl, rfl, by decide +kernel, rfl, by decide +kernel, by decide +kernel⟩
abbrev s_Outline__clash : Stmt := inClass (topS 43) 2
theorem sc_Outline__clash : FnScope ["self", "rows", "parts", "used", "at", "weight"] ["self", "rows"] (defScope s_Outline__clash) := ⟨rfl, rfl, rfl, by decide +kernel, rfl, by decide +kernel, by decide +kernel⟩
abbrev s_Outline_is_bounded : Stmt := inClass (topS 43) 3
theorem sc_Outline_is_bounded : FnScope ["self"] ["self"] (defScope s_Outline_is_bounded) := ⟨rfl, rfl, rfl, by decide +kernel, rfl, by decide +kernel, by decide +kernel⟩
abbrev s_Outline_whole_ends : Stmt := inClass (topS 43) 4
theorem sc_Outline_whole_ends : FnScope ["self"] ["self"] (defScope s_Outline_whole_ends) := ⟨rfl, rfl, rfl, by decide +kernel, rfl, by decide +kernel, by decide +kernel⟩
abbrev s_chain_total : Stmt := topS 68
theorem sc_chain_total : FnScope ["chain", "first", "last", "found", "at", "line", "start", "a", "b", "c", "_", "low", "high"] ["chain", "first", "last"] (defScope s_chain_total) := ⟨rfl, rfl, rfl, by decide +kernel, rfl, by decide +kernel, by decide +kernel⟩
abbrev s_total : Stmt := topS 65
theorem sc_total : FnScope ["a", "b", "m", "many", "found", "end"] ["a", "b", "m", "many"] (defScope s_total) := ⟨rfl, rfl, rfl, by decide +kernel, rfl, by decide +kernel, by decide +kernel⟩
abbrev s_count_of : Stmt := topS 67
theorem sc_count_of : FnScope ["rows", "outline", "first", "last", "over", "under"] ["rows"] (defScope s_count_of) := ⟨rfl, rfl, rfl, by decide +kernel, rfl, by decide +kernel, by decide +kernel⟩
abbrev s_count : Stmt := topS 66
theorem sc_count : FnScope ["region"] ["region"] (defScope s_count) := ⟨rfl, rfl, rfl, by decide +kernel, rfl, by decide +kernel, by decide +kernel⟩
abbrev s_decide : Stmt := topS 56
theorem sc_decide : FnScope ["rows", "outline"] ["rows"] (defScope s_decide) := ⟨rfl, rfl, rfl, by decide +kernel, rfl, by decide +kernel, by decide +kernel⟩
/-- the built-in names that are still built-in -/
structure Nm (mg : Str → Option Value) : Prop where
  len : mg "len" = none
  range : mg "range" = none
  int : mg "int" = none
  bool : mg "bool" = none
  isinstance : mg "isinstance" = none
  tuple : mg "tuple" = none
  list : mg "list" = none
  enumerate : mg "enumerate" = none
  all : mg "all" = none
  abs : mg "abs" = none
  min : mg "min" = none
  max : mg "max" = none
  sum : mg "sum" = none
  zip : mg "zip" = none
  gcd : mg "gcd" = some (.builtin "math.gcd")
  valueError : mg "ValueError" = none
  MOST_ROWS : ∃ t, mg "MOST_ROWS" = some (.int 40 t)
  MOST_FIGURES : ∃ t, mg "MOST_FIGURES" = some (.int 40 t)
end K29
namespace K29
open PySem PySem.Spec PyProof.Rows L2 My
local macro_rules | `(tactic| walk_at "side") => `(tactic| (first
  | assumption
  | (refine OkMod.mk ?_; omega)
  | (refine mulOkL ?_ ?_ <;> omega)
  | (refine mulOkR ?_ ?_ <;> omega)
  | (refine divOk ?_ ?_ <;> omega)))
local macro_rules | `(tactic| walk_at "rd") => `(tactic| (first
  | with_reducible refine ⟨_, rfl, ?_⟩
  | refine ⟨_, rfl, ?_⟩
  | refine ⟨_, _, rfl, rfl, ?_⟩
  | refine And.intro (by walk_at "side") ?_
  | refine ⟨_, _, rfl, asm (by assumption), ?_⟩
  | refine ⟨_, _, rfl, asm ?_⟩))
section
variable {P : Program} {w : World} {K : PySem.W.Frag} {mg : Str → Option Value} {base : Heap}

/-! ### power, figures -/
def Sz (N : Nat) (i : Int) : Prop := i.natAbs < 2 ^ N
theorem Sz.mulOk {i j : Int} {N M : Nat} (h : Sz N i) (g : Sz M j) (hN : 0 < N) (hM : 0 < M) (hs : N + M ≤ 1000000) : OkMul i j := My.mulOk h g hN hM hs
theorem Sz.mul {i j : Int} {N M : Nat} (h : Sz N i) (g : Sz M j) : Sz (N + M) (i * j) := by
  unfold Sz at *
  rw [Int.natAbs_mul, Nat.pow_add]
  exact Nat.mul_lt_mul'' h g
theorem Sz.up {i : Int} {N M : Nat} (h : Sz N i) (g : N ≤ M) : Sz M i := Nat.lt_of_lt_of_le h (Nat.pow_le_pow_right (by decide) g)
theorem Sz.sub {i j : Int} {N : Nat} (h : Sz N i) (g : Sz N j) : Sz (N + 1) (i - j) := by
  unfold Sz at *
  rw [Nat.pow_succ]
  omega
theorem Sz.add {i j : Int} {N : Nat} (h : Sz N i) (g : Sz N j) : Sz (N + 1) (i + j) := by
  unfold Sz at *
  rw [Nat.pow_succ]
  omega
theorem Sz.pow {b : Int} (h0 : 0 ≤ b) (h : b ≤ 128) (n : Nat) : Sz (7 * n + 1) (b ^ n) := by
  obtain ⟨c, rfl⟩ := Int.eq_ofNat_of_zero_le h0
  show ((c : Int) ^ n).natAbs < 2 ^ (7 * n + 1)
  rw [← Int.natCast_pow, Int.natAbs_natCast, Nat.pow_succ, Nat.pow_mul]
  have := Nat.pow_le_pow_left (show c ≤ 2 ^ 7 by omega) n
  have := Nat.pow_pos (a := 2 ^ 7) (n := n) (by decide)
  omega
/-! ### power -/
theorem pow_odd {p b n G : Nat} (h : p * b ^ n = G) (o : n % 2 = 1) : p * b * (b * b) ^ (n / 2) = G := by
  have e : n = 2 * (n / 2) + 1 := by omega
  generalize n / 2 = k at e ⊢
  subst e
  rw [← h, Nat.pow_succ, Nat.pow_mul, Nat.pow_two, Nat.mul_assoc, Nat.mul_comm b]
theorem pow_even {p b n G : Nat} (h : p * b ^ n = G) (o : n % 2 = 0) : p * (b * b) ^ (n / 2) = G := by
  have e : n = 2 * (n / 2) := by omega
  generalize n / 2 = k at e ⊢
  subst e
  rw [← h, Nat.pow_mul, Nat.pow_two]
def spPow : Sp := fun vs H Q _ => ∃ b e : Int, vs = [.int b, .int e] ∧ 1 ≤ b ∧ b ≤ 128 ∧ 0 ≤ e ∧ e ≤ 50000 ∧ Q (.int (b ^ e.toNat)) H
theorem ok_power {f : Addr} {fd : FuncData} (F : Fun K "power" "power" s_power f fd) : FnOk P w K mg base CX0 1 f fd ["base", "exponent"] spPow := by
  refine F.ok sc_power (fun vs H Q E h => ?_) (fun cdv A outer s H vs Q E hr h => ?_)
  · obtain ⟨b, e, rfl, _⟩ := h
    rfl
  · obtain ⟨b, e, rfl, b0, b1, e0, e1, q⟩ := h
    have sE : Sz 350001 (b ^ e.toNat) := (Sz.pow (by omega) b1 e.toNat).up (by omega)
    obtain ⟨b', rfl⟩ := Int.eq_ofNat_of_zero_le (show 0 ≤ b by omega)
    obtain ⟨e', rfl⟩ := Int.eq_ofNat_of_zero_le e0
    rw [Int.toNat_natCast] at q sE
    rw [← Int.natCast_pow] at q sE
    have sE : b' ^ e' < 2 ^ 350001 := by
      unfold Sz at sE
      rw [Int.natAbs_natCast] at sE
      exact sE
    generalize hG : b' ^ e' = G at q sE
    refine ⟨_, (pss_cons (ps_set (i := 2) sc_power.nd rfl (Or.inl rfl) pe_int)
    (pss_cons (ps_while PassesOwn.never (pt_truth (pv 1) (by intro _; rfl))
      (pss_cons (ps_if (pt_truth (pe_op op_and (pv 1) pe_int) (by intro _; rfl))
      (pss_one (ps_set (i := 2) sc_power.nd rfl (Or.inl rfl) (pe_op op_mulA (pv 2) (pv 0))))
      pss_nil)
    (pss_cons (ps_set (i := 0) sc_power.nd rfl (Or.inl rfl) (pe_op op_mulA (pv 0) (pv 0)))
    (pss_one (ps_set (i := 1) sc_power.nd rfl (Or.inl rfl) (pe_op op_shr (pv 1) pe_int))))))
    (pss_one (ps_ret (pv 2))))), ?_⟩
    dsimp only [tSeq, tAsg, tC, gName]
    refine while_by (fun σ H' => H' = H ∧ ∃ n p b : Nat, σ = [some (.int b), some (.int n), some (.int p)] ∧ p * b ^ n = G ∧ 1 ≤ b ∧ 1 ≤ p) (fun σ _ => match σ with | _ :: some (.int i) :: _ => i.toNat | _ => 0) ⟨rfl, e', 1, b', rfl, by rw [Nat.one_mul]; exact hG, by omega, by decide⟩ ?_ ?_
    · clear hG
      rintro σ H' ⟨rfl, n, p, b, rfl, hp, b1, p1⟩
      refine ⟨_, rfl, decide (n ≠ 0), ?_, ?_⟩
      · show decide (n ≠ 0) = ((n : Int) != 0)
        rw [Bool.eq_iff_iff]
        simp
      by_cases hn : n = 0
      · subst hn
        refine iteF ?_
        rw [Nat.pow_zero, Nat.mul_one] at hp
        exact ⟨_, rfl, by rw [hp]; exact q⟩
      · rw [decide_eq_true hn]
        refine iteT ?_
        have h1 : b ≤ G := by
          have z : b ^ 1 ≤ b ^ n := Nat.pow_le_pow_right b1 (by omega)
          have y : b ^ n ≤ p * b ^ n := Nat.le_mul_of_pos_left _ p1
          rw [Nat.pow_one] at z
          omega
        have h2 : p ≤ G := by
          rw [← hp]
          exact Nat.le_mul_of_pos_right _ (Nat.pow_pos b1)
        have mb : OkMul (b : Int) (b : Int) := mulOk (a := 350001) (b := 350001) (by rw [Int.natAbs_natCast]; omega) (by rw [Int.natAbs_natCast]; omega) (by decide) (by decide) (by decide)
        have mp : OkMul (p : Int) (b : Int) := mulOk (a := 350001) (b := 350001) (by rw [Int.natAbs_natCast]; omega) (by rw [Int.natAbs_natCast]; omega) (by decide) (by decide) (by decide)
        refine ⟨_, rfl, _, _, rfl, rfl, decide (n % 2 = 1), ?_, ?_⟩
        · show decide (n % 2 = 1) = (Builtin.bitAnd (n : Int) 1 != 0)
          rw [bitAnd_m1, Bool.eq_iff_iff]
          simp
          omega
        have sh : ((n : Int) / 2 ^ (1 : Int).toNat) = ((n / 2 : Nat) : Int) := by
          show (n : Int) / 2 ^ 1 = _
          omega
        by_cases ho : n % 2 = 1
        · rw [decide_eq_true ho]
          refine iteT ?_
          refine ⟨_, rfl, _, rfl, _, _, rfl, rfl, mp, ?_⟩
          refine ⟨_, rfl, _, rfl, _, _, rfl, rfl, mb, ?_⟩
          refine ⟨_, rfl, _, _, rfl, rfl, by show (0 : Int) ≤ 1; decide, ?_⟩
          refine ⟨⟨rfl, n / 2, p * b, b * b, ?_, pow_odd hp ho, Nat.mul_le_mul b1 b1, Nat.mul_le_mul p1 b1⟩, ?_⟩
          · show [some (V.int ((b : Int) * b)), some (V.int ((n : Int) / 2 ^ (1 : Int).toNat)), some (V.int ((p : Int) * b))] = _
            rw [sh, Int.natCast_mul, Int.natCast_mul]
          · show ((n : Int) / 2 ^ (1 : Int).toNat).toNat < (n : Int).toNat
            rw [sh]
            omega
        · rw [decide_eq_false ho]
          refine iteF ?_
          refine ⟨_, rfl, _, rfl, _, _, rfl, rfl, mb, ?_⟩
          refine ⟨_, rfl, _, _, rfl, rfl, by show (0 : Int) ≤ 1; decide, ?_⟩
          refine ⟨⟨rfl, n / 2, p, b * b, ?_, pow_even hp (by omega), Nat.mul_le_mul b1 b1, p1⟩, ?_⟩
          · show [some (V.int ((b : Int) * b)), some (V.int ((n : Int) / 2 ^ (1 : Int).toNat)), some (V.int (p : Int))] = _
            rw [sh, Int.natCast_mul]
          · show ((n : Int) / 2 ^ (1 : Int).toNat).toNat < (n : Int).toNat
            rw [sh]
            omega
    · rintro σ H' Q1 Q2 h ⟨v, e1, k, t, z⟩
      exact ⟨v, e1, k, t, h _ _ z⟩
/-- how many figures -/
def Figs (n : Int) (d : Nat) : Prop := 1 ≤ d ∧ n.natAbs < 10 ^ d ∧ (d = 1 ∨ 10 ^ (d - 1) ≤ n.natAbs)
theorem Figs.le {n : Int} {d m : Nat} (h : Figs n d) (hm : n.natAbs < 10 ^ m) (h1 : 1 ≤ m) : d ≤ m := by
  obtain ⟨_, _, h⟩ := h
  rcases h with h | h
  · omega
  · have z : d - 1 < m := by
      rcases Nat.lt_or_ge (d - 1) m with q | q
      · exact q
      · have y : (10 : Nat) ^ m ≤ 10 ^ (d - 1) := Nat.pow_le_pow_right (by decide) q
        omega
    omega
theorem log_table : (List.range 4097).all (fun k => decide (10 ^ (k * 301029995 / 1000000000) ≤ 2 ^ k)) = true := by decide +kernel
theorem log_le {k : Nat} (h : k < 4097) : 10 ^ (k * 301029995 / 1000000000) ≤ 2 ^ k := of_decide_eq_true (List.all_eq_true.mp log_table k (List.mem_range.mpr h))
def spFigures : Sp := fun vs H Q _ => ∃ n : Int, vs = [.int n] ∧ n.natAbs < 2 ^ 4096 ∧ ∀ d : Nat, Figs n d → Q (.int d) H
theorem ok_figures {f f1 : Addr} {fd fd1 : FuncData} (T : Nm mg) (C_power : Has P w K mg base "power" 1 ["base", "exponent"] spPow f1 fd1) (F : Fun K "figures" "figures" s_figures f fd) : FnOk P w K mg base CX0 2 f fd ["number"] spFigures := by
  refine F.ok sc_figures (fun vs H Q E h => ?_) (fun cdv A outer s H vs Q E hr h => ?_)
  · obtain ⟨n, rfl, _⟩ := h
    rfl
  · obtain ⟨n, rfl, hn, q⟩ := h
    refine ⟨_, (pss_cons (ps_set (i := 1) sc_figures.nd rfl (Or.inl rfl) (pe_callB call_absN (by rfl) T.abs (by decide +kernel) (pa_cons (pv 0) pa_nil)))
    (pss_cons (ps_if (pt_cmpR op_lt (pv 1) pe_int (nomark _))
      (pss_one (ps_ret pe_int))
      pss_nil)
    (pss_cons (ps_set (i := 2) sc_figures.nd rfl (Or.inl rfl) (pe_op op_fdivA (pe_op op_mulA (pe_op op_sub (pe_bits (pv 1)) pe_int) pe_int) pe_int))
    (pss_cons (ps_set (i := 3) sc_figures.nd rfl (Or.inl rfl) (pe_call C_power.G (hr.mono (by decide)) (by rfl) C_power.g C_power.k C_power.b .nil pass0 (pa_cons pe_int (pa_cons (pv 2) pa_nil))))
    (pss_cons (ps_while PassesOwn.never (pt_cmpR op_le (pv 3) (pv 1) (nomark _))
      (pss_cons (ps_set (i := 3) sc_figures.nd rfl (Or.inl rfl) (pe_op op_mulA (pv 3) pe_int))
    (pss_one (ps_set (i := 2) sc_figures.nd rfl (Or.inl rfl) (pe_op op_add (pv 2) pe_int)))))
    (pss_one (ps_ret (pv 2)))))))), ?_⟩
    refine ⟨_, rfl, n, rfl, _, rfl, _, _, rfl, rfl, _, rfl, ite2 (fun c => ?_) (fun c => ?_)⟩
    · have c' : ((n.natAbs : Nat) : Int) < 10 := of_decide_eq_true c
      exact q 1 ⟨Nat.le_refl 1, by omega, .inl rfl⟩
    have c' : ¬ ((n.natAbs : Nat) : Int) < 10 := fun z => c (decide_eq_true z)
    have n0 : n.natAbs ≠ 0 := by omega
    have bits : Builtin.Int.intBits ((n.natAbs : Nat) : Int) = n.natAbs.log2 + 1 := by
      unfold Builtin.Int.intBits
      rw [Int.natAbs_natCast, if_neg]
      rw [beq_iff_eq]
      omega
    have lg : n.natAbs.log2 < 4096 := (Nat.log2_lt n0).mpr hn
    have lo : 2 ^ n.natAbs.log2 ≤ n.natAbs := Nat.log2_self_le n0
    have tab := log_le (k := n.natAbs.log2) (by omega)
    refine ⟨_, rfl, _, rfl, ?_⟩
    rw [bits]
    generalize n.natAbs.log2 = k at *
    refine ⟨_, _, rfl, rfl, _, _, rfl, rfl, mulOkL (by omega) (by omega), _, _, rfl, rfl, divOk (by decide) (by decide), ?_⟩
    have e1 : (((k + 1 : Nat) : Int) - 1) * 301029995 / 1000000000 = ((k * 301029995 / 1000000000 : Nat) : Int) := by omega
    refine ⟨_, rfl, 10, ((k * 301029995 / 1000000000 : Nat) : Int), ?_, by decide, by decide, by omega, by omega, ?_⟩
    · show [V.int 10, V.int ((((k + 1 : Nat) : Int) - 1) * 301029995 / 1000000000)] = _
      rw [e1]
    generalize k * 301029995 / 1000000000 = m at *
    have e10 : (10 : Int) ^ (((m : Nat) : Int).toNat) = ((10 ^ m : Nat) : Int) := by
      rw [Int.toNat_natCast, Int.natCast_pow]
      rfl
    rw [e10]
    have hR := Nat.le_trans tab lo
    refine while_by (fun σ H' => H' = H ∧ ∃ j : Nat, σ = [some (.int n), some (.int n.natAbs), some (.int j), some (.int (10 ^ j : Nat))] ∧ (10 ^ j ≤ n.natAbs ∨ (1 ≤ j ∧ 10 ^ (j - 1) ≤ n.natAbs)))
      (fun σ _ => match σ with | _ :: _ :: _ :: some (.int b) :: _ => n.natAbs + 1 - b.toNat | _ => 0) ⟨rfl, m, ?_, .inl hR⟩ ?_ ?_
    · show [some (V.int n), some (V.int (n.natAbs : Nat)), some (V.int ((((k + 1 : Nat) : Int) - 1) * 301029995 / 1000000000)), some (V.int (10 ^ m : Nat))] = _
      rw [e1]
    · rintro σ H' ⟨rfl, j, rfl, hj⟩
      refine ⟨_, rfl, _, rfl, _, _, rfl, rfl, _, rfl, ite2 (fun c => ?_) (fun c => ?_)⟩
      · have c1 : 10 ^ j ≤ n.natAbs := by
          have := of_decide_eq_true c
          omega
        refine ⟨_, rfl, _, _, rfl, rfl, mulOkR (by decide) (by decide), ?_⟩
        refine ⟨_, rfl, _, _, rfl, rfl, ⟨rfl, j + 1, ?_, .inr ⟨Nat.succ_le_succ (Nat.zero_le j), c1⟩⟩, ?_⟩
        · show [some (V.int n), some (V.int (n.natAbs : Nat)), some (V.int ((j : Int) + 1)), some (V.int (((10 ^ j : Nat) : Int) * 10))] = _
          rw [Nat.pow_succ, Int.natCast_mul]
          rfl
        · show n.natAbs + 1 - (((10 ^ j : Nat) : Int) * 10).toNat < n.natAbs + 1 - ((10 ^ j : Nat) : Int).toNat
          have p : 0 < 10 ^ j := Nat.pow_pos (by decide)
          omega
      · have c1 : ¬ 10 ^ j ≤ n.natAbs := fun z => c (decide_eq_true (by omega))
        rcases hj with hj | ⟨h1, hj⟩
        · exact absurd hj c1
        · exact ⟨_, rfl, q j ⟨h1, by omega, .inr hj⟩⟩
    · rintro σ H' Q1 Q2 h ⟨v, a1, w1, a2, i, j, a3, a4, k, a5, z⟩
      exact ⟨v, a1, w1, a2, i, j, a3, a4, k, a5, h _ _ z⟩
end
end K29

namespace K29
open PySem PySem.Spec PyProof.Rows L2 My
local macro_rules | `(tactic| walk_at "side") => `(tactic| (first
  | assumption
  | (refine OkMod.mk ?_; omega)
  | (refine mulOkL ?_ ?_ <;> omega)
  | (refine mulOkR ?_ ?_ <;> omega)
  | (refine divOk ?_ ?_ <;> omega)))
local macro_rules | `(tactic| walk_at "rd") => `(tactic| (first
  | with_reducible refine ⟨_, rfl, ?_⟩
  | refine ⟨_, rfl, ?_⟩
  | refine ⟨_, _, rfl, rfl, ?_⟩
  | refine And.intro (by walk_at "side") ?_
  | refine ⟨_, _, rfl, asm (by assumption), ?_⟩
  | refine ⟨_, _, rfl, asm ?_⟩))
section
variable {P : Program} {w : World} {K : PySem.W.Frag} {mg : Str → Option Value} {base : Heap}

/-! ### check_figures, check_size -/
structure HasX (P : Program) (w : World) (K : PySem.W.Frag) (mg : Str → Option Value) (base : Heap) (x : Str) (k : Nat) (ps : List Str) (sp : Sp) (f : Addr) (fd : FuncData) : Prop where
  G : FnOk P w K mg base (L2.CX P w) k f fd ps sp
  g : mg x = some (.ref f)
  k : PySem.W.keepIn K (.ref f) = true
  b : Binds K fd ps []
theorem same_over {Hb H' : Hp} {o : HO} {D : Addr} (e : Same Hb H') (n : Hb D = none) : Same Hb (upd H' D o) := fun b z q => by
  rw [upd_ne (ne_of_none q n)]
  exact e _ _ q
def spCheckFigs (K : PySem.W.Frag) (CT : Addr) : Sp := fun vs H Q E => ∃ (l : Addr) (ns : List Int) (most : Nat), vs = [.ref l, .int most] ∧ SqL K H l (ns.map V.int) ∧ ns.length < 1000 ∧ 1 ≤ most ∧ (∀ n ∈ ns, n.natAbs < 2 ^ 4096) ∧
  ((∀ n ∈ ns, n.natAbs < 10 ^ most) → ∀ H', Same H H' → Q .non H') ∧
  (∀ n ∈ ns, ∀ d : Nat, most < d → Figs n d → (∀ k ∈ ns, k.natAbs ≤ n.natAbs) → ∀ dd H', Same H H' → H' dd = some (.xd [(("number" : Str), .int d)]) → E (.ref CT) (some dd) H')
theorem ok_check_figures {f f1 CT fI cda cc : Addr} {fd fd1 : FuncData} (T : Nm mg) (B : Xc.Own P K mg "TooLarge" "number" CT fI cda cc) (C_figures : Has P w K mg base "figures" 2 ["number"] spFigures f1 fd1) (F : Fun K "check_figures" "check_figures" s_check_figures f fd) : FnOk P w K mg base (L2.CX P w) 3 f fd ["numbers", "most"] (spCheckFigs K CT) := by
  refine F.okX sc_check_figures (fun vs H Q E h => ?_) (fun cdv A outer s H vs Q E hr h => ?_)
  · obtain ⟨l, ns, most, rfl, _⟩ := h
    rfl
  · obtain ⟨l, ns, most, rfl, hl, hlen, hm, hb, q, qe⟩ := h
    refine ⟨_, (pss_cons (ps_set (i := 2) sc_check_figures.nd rfl (Or.inl rfl) (pe_call C_figures.G (hr.mono (by decide)) (by rfl) C_figures.g C_figures.k C_figures.b .nil pass0 (pa_cons (pe_callBK (call_maxD rfl hr.units) (by rfl) T.max (by decide +kernel) (pa_cons (pe_lc (own := [("number", 3)]) (g := gName 3) (by rfl) sc_check_figures.nd (pi_list (pv 0)) (by exact blkOk_by (N := ["numbers", "most", "longest", "number"]) (sc := defScope s_check_figures) (by decide +kernel)) (fun _ _ _ _ _ => by exact (pg_name (i := 3) sc_check_figures.nd rfl (Or.inl rfl))) (fun _ _ _ _ _ => pts_nil) (fun _ _ _ _ _ => (pe_callB call_absN (by rfl) T.abs (by decide +kernel) (pa_cons (pv 3) pa_nil)))) pa_nil) (pk_cons pe_int pk_nil)) pa_nil)))
    (pss_one (ps_if (pt_cmpR op_gt (pv 2) (pv 1) (nomark _))
      (pss_one (ps_raiseX rfl B Xc.fld_number hr (takes_of rfl rfl rfl rfl) (pa_cons (pv 2) pa_nil) (by rfl) (by decide)))
      pss_nil))), ?_⟩
    refine ⟨_, rfl, l, rfl, ⟨_, hl⟩, fun L nL => lc_list (xs := ns.map V.int) (fun i H' => Same H H' ∧ H' L = some (.lst (((ns.take i).map fun n => ((n.natAbs : Nat) : Int)).map V.int))) ⟨same_upd nL, upd_same⟩ (fun i H' _ z => z.1.seq hl) ?_ ?_⟩
    · rintro i v H' hi ⟨S, hL⟩
      obtain ⟨n, hn, rfl⟩ : ∃ n, ns[i]? = some n ∧ v = V.int n := by
        rw [List.getElem?_map] at hi
        cases e : ns[i]? with
        | none =>
          rw [e] at hi
          cases hi
        | some n =>
          rw [e] at hi
          exact ⟨n, rfl, (Option.some.inj hi).symm⟩
      refine ⟨rfl, tYes_in ?_⟩
      refine ⟨_, rfl, n, rfl, _, hL, ?_, same_over S nL, ?_⟩
      · rw [List.length_map, List.length_map, List.length_take]
        exact small1000 (by omega)
      · rw [upd_same, List.take_add_one, hn, List.map_append, List.map_append]
        rfl
    · rintro H' ⟨S, hL⟩
      rw [List.length_map, List.take_length] at hL
      refine ⟨L, _, 0, rfl, rfl, .inl (.inl hL), fun e => ?_, fun m hm' hmax => ?_⟩
      · refine ⟨0, rfl, by decide +kernel, fun d hd => ?_⟩
        have hd1 := hd.le (m := most) (Nat.pow_pos (by decide)) hm
        refine ⟨_, rfl, _, rfl, _, _, rfl, rfl, _, rfl, ite2 (fun c => ?_) (fun _ => ?_)⟩
        · have c' : (most : Int) < (d : Int) := of_decide_eq_true c
          exact absurd c' (by omega)
        · refine q (fun n hn => ?_) H' S
          rw [List.map_eq_nil_iff.mp e] at hn
          cases hn
      · obtain ⟨n, hn, rfl⟩ := List.mem_map.mp hm'
        have hn2 := hb n hn
        refine ⟨_, rfl, by rw [Int.natAbs_natCast]; exact hn2, fun d hd => ?_⟩
        have hd' : Figs n d := by
          obtain ⟨h1, h2, h3⟩ := hd
          rw [Int.natAbs_natCast] at h2 h3
          exact ⟨h1, h2, h3⟩
        have hk : ∀ k ∈ ns, k.natAbs ≤ n.natAbs := fun k hk => by
          have := hmax _ (List.mem_map.mpr ⟨k, hk, rfl⟩)
          omega
        refine ⟨_, rfl, _, rfl, _, _, rfl, rfl, _, rfl, ite2 (fun c => ?_) (fun c => ?_)⟩
        · have c' : (most : Int) < (d : Int) := of_decide_eq_true c
          exact ⟨_, rfl, _, rfl, fun dd nd => qe n hn d (by omega) hd' hk dd _ (S.trans (same_upd nd)) upd_same⟩
        · have c' : ¬ (most : Int) < (d : Int) := fun z => c (decide_eq_true z)
          refine q (fun k hk' => ?_) H' S
          have h1 := hk k hk'
          have h2 : (10 : Nat) ^ d ≤ 10 ^ most := Nat.pow_le_pow_right (by decide) (by omega)
          have h3 := hd'.2.1
          omega
theorem call_lenT {X : Cx} : CallR X (.builtin "len") (fun xs H Q => ∃ p ys, xs = [.ref p] ∧ SqT X.K H p ys ∧ Q (.int ys.length) H) := fun pins s σ H xs us Q I r ⟨p, ys, e, h, q⟩ => call_len_seq pins s σ H xs us Q I r ⟨p, ys, e, .inr h, q⟩
/-- a walk of a comprehension, its body by what it goes on with -/
theorem turns {J : It} {n : Nat} {G : Hp → Prop} {Y : Nat → Hp → V → Hp → Prop} (ww : Walk J n G Y) {B : V → Hp → (Hp → Prop) → Prop} {Z : Hp → Prop} {H0 : Hp} (P : Nat → Hp → Prop) (start : P 0 H0) (stands : ∀ j h, j ≤ n → P j h → G h)
    (turn : ∀ j z h h', j < n → P j h → Y j h z h' → B z h' (P (j + 1))) (done : ∀ h, P n h → Z h) :
    ∃ W : Nat → Nat → Hp → Prop, (∃ m, W 0 m H0) ∧ ∀ i m H, W i m H → (J.stop i H ∧ Z H) ∨ (J.go i H ∧ ∃ Nx : Hp → Prop, (∀ H', Nx H' → ∃ m', m' < m ∧ W (i + 1) m' H') ∧ ∀ x H', J.yld i H x H' → B x H' Nx) := by
  refine ⟨fun j k h => j + k = n ∧ P j h, ⟨n, Nat.zero_add n, start⟩, fun j k h hw => ?_⟩
  have gg := stands j h (by omega) hw.2
  cases k with
  | zero =>
    have ej : j = n := by omega
    rw [ej] at hw ⊢
    exact Or.inl ⟨ww.stops h gg, done h hw.2⟩
  | succ k => exact Or.inr ⟨ww.goes j h (by omega) gg, P (j + 1), fun h' p => ⟨k, Nat.lt_succ_self k, by omega, p⟩, fun z h' y => turn j z h h' (by omega) hw.2 (ww.yields j h z h' (by omega) gg y)⟩
def nums (rs : List LineR) : List Int := rs.flatMap fun r => [r.1, r.2.1, r.2.2]
theorem nums_len (rs : List LineR) : (nums rs).length = 3 * rs.length := by
  induction rs with
  | nil => rfl
  | cons r rs ih =>
    show ([r.1, r.2.1, r.2.2] ++ nums rs).length = 3 * (rs.length + 1)
    rw [List.length_append, ih]
    show 3 + 3 * rs.length = _
    omega
theorem nums_more (rs : List LineR) (r : LineR) : nums (rs ++ [r]) = nums rs ++ [r.1, r.2.1, r.2.2] := by
  unfold nums
  rw [List.flatMap_append]
  rfl
def spCheckSize (K : PySem.W.Frag) (CT : Addr) : Sp := fun vs H Q E => ∃ (t o : Addr) (xs : List V) (rs : List LineR) (os : List Int) (mr mf : Nat), vs = [.ref t, .ref o, .int mr, .int mf] ∧ SqT K H t xs ∧ RowsV K H xs rs ∧ H o = some (.lst (os.map V.int)) ∧
  rs.length < 100 ∧ os.length < 100 ∧ 1 ≤ mf ∧ (∀ n ∈ nums rs ++ os, n.natAbs < 2 ^ 4096) ∧
  (mr < rs.length → ∀ dd H', Same H H' → H' dd = some (.xd [(("number" : Str), .int rs.length)]) → E (.ref CT) (some dd) H') ∧
  (rs.length ≤ mr → (∀ n ∈ nums rs ++ os, n.natAbs < 10 ^ mf) → ∀ H', Same H H' → Q .non H') ∧
  (rs.length ≤ mr → ∀ n ∈ nums rs ++ os, ∀ d : Nat, mf < d → Figs n d → (∀ k ∈ nums rs ++ os, k.natAbs ≤ n.natAbs) → ∀ dd H', Same H H' → H' dd = some (.xd [(("number" : Str), .int d)]) → E (.ref CT) (some dd) H')
theorem ok_check_size {f f1 CT fI cda cc : Addr} {fd fd1 : FuncData} (T : Nm mg) (B : Xc.Own P K mg "TooLarge" "number" CT fI cda cc) (C_check_figures : HasX P w K mg base "check_figures" 3 ["numbers", "most"] (spCheckFigs K CT) f1 fd1) (F : Fun K "check_size" "check_size" s_check_size f fd) : FnOk P w K mg base (L2.CX P w) 4 f fd ["rows", "others", "most_rows", "most_figures"] (spCheckSize K CT) := by
  refine F.okX sc_check_size (fun vs H Q E h => ?_) (fun cdv A outer s H vs Q E hr h => ?_)
  · obtain ⟨t, o, xs, rs, os, mr, mf, rfl, _⟩ := h
    rfl
  · obtain ⟨t, o, xs, rs, os, mr, mf, rfl, ht, hrs, ho, l1, l2, hmf, hb, q1, q2, q3⟩ := h
    refine ⟨_, (pss_cons (ps_if (pt_cmpR op_gt (pe_callB call_lenT (by rfl) T.len (by decide +kernel) (pa_cons (pv 0) pa_nil)) (pv 2) (nomark _))
      (pss_one (ps_raiseX rfl B Xc.fld_number hr (takes_of rfl rfl rfl rfl) (pa_cons (pe_callB call_lenT (by rfl) T.len (by decide +kernel) (pa_cons (pv 0) pa_nil)) pa_nil) (by rfl) (by decide)))
      pss_nil)
    (pss_one (ps_expr (pe_call C_check_figures.G (hr.mono (by decide)) (by rfl) C_check_figures.g C_check_figures.k C_check_figures.b .nil (passO (takes_of rfl rfl rfl rfl)) (pa_cons (pe_op op_cat (pe_lc2 (own := [("row", 4), ("number", 5)]) (g := gName 4) (g1 := gName 5) (vs1 := [5]) (wi1 := iTup K (tVar 4)) (te := tVar 5) (by rfl) sc_check_size.nd (pi_tup (pv 0)) (by exact blkOk_by (N := ["rows", "others", "most_rows", "most_figures", "row", "number"]) (sc := defScope s_check_size) (by decide +kernel)) (by decide) (fun _ _ _ _ _ => by exact (pg_name (i := 4) sc_check_size.nd rfl (Or.inl rfl))) (fun _ _ _ _ _ => pts_nil) (fun _ _ _ _ _ => by exact (pi_tup (pv 4))) (fun _ _ _ _ _ => by exact (pg_name (i := 5) sc_check_size.nd rfl (Or.inl rfl))) (fun _ _ _ _ _ => pts_nil) (fun _ _ _ _ _ => by exact (pv 5))) (pv 1)) (pa_cons (pv 3) pa_nil)))))), ?_⟩
    have hxl := hrs.len
    refine ⟨_, rfl, t, xs, rfl, ht, _, rfl, _, _, rfl, rfl, _, rfl, ite2 (fun c => ?_) (fun c => ?_)⟩
    · have c' : (mr : Int) < (xs.length : Int) := of_decide_eq_true c
      refine ⟨_, rfl, t, xs, rfl, ht, _, rfl, fun dd nd => q1 (by omega) dd _ (same_upd nd) ?_⟩
      rw [upd_same, hxl]
    · have c' : ¬ (mr : Int) < (xs.length : Int) := fun z => c (decide_eq_true z)
      refine ⟨_, rfl, t, rfl, ⟨xs, ht⟩, fun D nD => turns (walk_tup (xs := xs)) (fun i H' => Same H H' ∧ H' D = some (.lst ((nums (rs.take i)).map V.int))) ⟨same_upd nD, upd_same⟩ (fun i h _ z => Same.tup z.1 ht) ?_ ?_⟩
      · rintro i z H1 H2 hi ⟨S, hD⟩ ⟨rfl, hz⟩
        obtain ⟨⟨ra, rb, rc⟩, hri, u, rfl, hu⟩ := hrs.at hz
        dsimp only at hu
        refine ⟨rfl, tYes_in ?_⟩
        refine ⟨_, rfl, u, rfl, ⟨_, Same.tup S hu⟩, turns (walk_tup (xs := [.int ra, .int rb, .int rc])) (fun j H' => Same H H' ∧ H' D = some (.lst ((nums (rs.take i) ++ [ra, rb, rc].take j).map V.int))) ⟨S, by rw [List.take_zero, List.append_nil]; exact hD⟩ (fun j h _ z => Same.tup z.1 hu) ?_ ?_⟩
        · rintro j v H3 H4 hj ⟨S3, hD3⟩ ⟨rfl, hv⟩
          obtain ⟨n, hn, rfl⟩ : ∃ n, [ra, rb, rc][j]? = some n ∧ v = V.int n := by
            have e : [V.int ra, V.int rb, V.int rc] = [ra, rb, rc].map V.int := rfl
            rw [e, List.getElem?_map] at hv
            cases q : [ra, rb, rc][j]? with
            | none =>
              rw [q] at hv
              cases hv
            | some n =>
              rw [q] at hv
              exact ⟨n, rfl, (Option.some.inj hv).symm⟩
          refine ⟨rfl, tYes_in ?_⟩
          refine ⟨_, rfl, _, hD3, ?_, same_over S3 nD, ?_⟩
          · rw [List.length_map, List.length_append, nums_len, List.length_take, List.length_take]
            exact small1000 (by show 3 * min i rs.length + min j 3 ≤ 1000; omega)
          · rw [upd_same, List.take_add_one, hn, ← List.append_assoc, List.map_append (l₂ := Option.toList (some n))]
            rfl
        · rintro H3 ⟨S3, hD3⟩
          refine ⟨S3, ?_⟩
          rw [hD3, List.take_add_one, hri]
          show _ = some (HO.lst ((nums (rs.take i ++ [(ra, rb, rc)])).map V.int))
          rw [nums_more]
          rfl
      · rintro H1 ⟨S, hD⟩
        rw [hxl, List.take_length] at hD
        have S0 := S _ _ ho
        refine ⟨_, rfl, D, o, _, _, rfl, rfl, hD, S0, ?_, fun p np => ?_⟩
        · rw [List.length_map, List.length_map, nums_len]
          exact Nat.le_of_lt (small1000 (by omega))
        · have S2 := S.trans (same_upd (o := .lst ((nums rs).map V.int ++ os.map V.int)) np)
          have hp : SqL K (upd H1 p (.lst ((nums rs).map V.int ++ os.map V.int))) p ((nums rs ++ os).map V.int) := by
            rw [List.map_append]
            exact .inl (.inl upd_same)
          have hlen : (nums rs ++ os).length < 1000 := by
            rw [List.length_append, nums_len]
            omega
          exact ⟨_, rfl, p, nums rs ++ os, mf, rfl, hp, hlen, hmf, hb, fun hq H' S' => q2 (by omega) hq H' (S2.trans S'), fun n hn d hd hf hk dd H' S' hx => q3 (by omega) n hn d hd hf hk dd H' (S2.trans S') hx⟩
end
end K29

namespace K29
open PySem PySem.Spec PyProof.Rows L2 My
local macro_rules | `(tactic| walk_at "side") => `(tactic| (first
  | assumption
  | (refine OkMod.mk ?_; omega)
  | (refine mulOkL ?_ ?_ <;> omega)
  | (refine mulOkR ?_ ?_ <;> omega)
  | (refine divOk ?_ ?_ <;> omega)))
local macro_rules | `(tactic| walk_at "rd") => `(tactic| (first
  | with_reducible refine ⟨_, rfl, ?_⟩
  | refine ⟨_, rfl, ?_⟩
  | refine ⟨_, _, rfl, rfl, ?_⟩
  | refine And.intro (by walk_at "side") ?_
  | refine ⟨_, _, rfl, asm (by assumption), ?_⟩
  | refine ⟨_, _, rfl, asm ?_⟩))
section
variable {P : Program} {w : World} {K : PySem.W.Frag} {mg : Str → Option Value} {base : Heap}

/-! ### values by their meaning, item by item -/
inductive LsV {α : Type} (R : V → α → Prop) : List V → List α → Prop where
  | nil : LsV R [] []
  | cons {v : V} {vs : List V} {x : α} {xs : List α} : R v x → LsV R vs xs → LsV R (v :: vs) (x :: xs)
section
variable {α : Type} {R R' : V → α → Prop}
theorem LsV.map {vs : List V} {xs : List α} (f : ∀ v x, R v x → R' v x) : LsV R vs xs → LsV R' vs xs
  | .nil => .nil
  | .cons h t => .cons (f _ _ h) (LsV.map f t)
theorem LsV.len {vs : List V} {xs : List α} : LsV R vs xs → vs.length = xs.length
  | .nil => rfl
  | .cons _ t => congrArg Nat.succ t.len
theorem LsV.app {vs ws : List V} {xs ys : List α} : LsV R vs xs → LsV R ws ys → LsV R (vs ++ ws) (xs ++ ys)
  | .nil, h => h
  | .cons h t, g => .cons h (t.app g)
theorem LsV.at {vs : List V} {xs : List α} {v : V} : ∀ {i : Nat}, LsV R vs xs → vs[i]? = some v → ∃ x, xs[i]? = some x ∧ R v x
  | 0, .cons h _, e => ⟨_, rfl, by cases e; exact h⟩
  | i + 1, .cons _ t, e => t.at (i := i) e
  | _, .nil, e => by simp at e
theorem LsV.at' {vs : List V} {xs : List α} {x : α} : ∀ {i : Nat}, LsV R vs xs → xs[i]? = some x → ∃ v, vs[i]? = some v ∧ R v x
  | 0, .cons h _, e => ⟨_, rfl, by cases e; exact h⟩
  | i + 1, .cons _ t, e => t.at' (i := i) e
  | _, .nil, e => by simp at e
theorem LsV.take {vs : List V} {xs : List α} : ∀ (n : Nat), LsV R vs xs → LsV R (vs.take n) (xs.take n)
  | 0, _ => .nil
  | _ + 1, .nil => .nil
  | n + 1, .cons h t => .cons h (t.take n)
theorem LsV.drop {vs : List V} {xs : List α} : ∀ (n : Nat), LsV R vs xs → LsV R (vs.drop n) (xs.drop n)
  | 0, h => h
  | _ + 1, .nil => .nil
  | n + 1, .cons _ t => t.drop n
end
/-- a line: a x + b y <= c, and its number -/
structure Ln where
  a : Int
  b : Int
  c : Int
  n : Int
def LnV (K : PySem.W.Frag) (H : Hp) (v : V) (q : Ln) : Prop := ∃ p, v = .ref p ∧ SqT K H p [.int q.a, .int q.b, .int q.c, .int q.n]
theorem LnV.same {H H' : Hp} {v : V} {q : Ln} (e : Same H H') : LnV K H v q → LnV K H' v q := fun ⟨p, h, t⟩ => ⟨p, h, Same.tup e t⟩
/-! ### ratios -/
def PairV (K : PySem.W.Frag) (H : Hp) (v : V) (q : Int × Int) : Prop := ∃ p, v = .ref p ∧ SqT K H p [.int q.1, .int q.2]
def spBelow (K : PySem.W.Frag) : Sp := fun vs H Q _ => ∃ (u v : V) (p q r s : Int) (N : Nat), vs = [u, v] ∧ PairV K H u (p, q) ∧ PairV K H v (r, s) ∧ 0 < N ∧ N ≤ 500000 ∧ Sz N p ∧ Sz N q ∧ Sz N r ∧ Sz N s ∧ Q (.bl (decide (p * s < r * q))) H
theorem ok_below {f : Addr} {fd : FuncData} (F : Fun K "below" "below" s_below f fd) : FnOk P w K mg base CX0 1 f fd ["one", "other"] (spBelow K) := by
  refine F.ok sc_below (fun vs H Q E h => ?_) (fun cdv A outer s H vs Q E hr h => ?_)
  · obtain ⟨u, v, p, q, r, s, N, rfl, _⟩ := h
    rfl
  · obtain ⟨_, _, p, q, r, s, N, rfl, ⟨a, rfl, ha⟩, ⟨b, rfl, hb⟩, h0, hN, sp, sq, sr, ss, qq⟩ := h
    refine ⟨_, (pss_one (ps_ret (pe_cmpR op_lt (pe_op op_mulA (pe_ix ix_tup (pv 0) pe_int (fun _ _ => rfl)) (pe_ix ix_tup (pv 1) pe_int (fun _ _ => rfl))) (pe_op op_mulA (pe_ix ix_tup (pv 1) pe_int (fun _ _ => rfl)) (pe_ix ix_tup (pv 0) pe_int (fun _ _ => rfl))) (nomark _)))), ?_⟩
    refine ⟨_, rfl, a, _, 0, _, rfl, rfl, ha, rfl, _, rfl, b, _, 1, _, rfl, rfl, hb, rfl, _, _, rfl, rfl, sp.mulOk ss h0 h0 (by omega), ?_⟩
    exact ⟨_, rfl, b, _, 0, _, rfl, rfl, hb, rfl, _, rfl, a, _, 1, _, rfl, rfl, ha, rfl, _, _, rfl, rfl, sr.mulOk sq h0 h0 (by omega), _, _, rfl, rfl, qq⟩
def spFloor (K : PySem.W.Frag) (g : Int → Int → Int) : Sp := fun vs H Q _ => ∃ (u : V) (p q : Int), vs = [u] ∧ PairV K H u (p, q) ∧ OkDiv p q ∧ Q (.int (g p q)) H
theorem ok_floor_of {f : Addr} {fd : FuncData} (F : Fun K "floor_of" "floor_of" s_floor_of f fd) : FnOk P w K mg base CX0 1 f fd ["fraction"] (spFloor K fun p q => p / q) := by
  refine F.ok sc_floor_of (fun vs H Q E h => ?_) (fun cdv A outer s H vs Q E hr h => ?_)
  · obtain ⟨u, p, q, rfl, _⟩ := h
    rfl
  · obtain ⟨_, p, q, rfl, ⟨a, rfl, ha⟩, hd, qq⟩ := h
    refine ⟨_, (pss_one (ps_ret (pe_op op_fdivA (pe_ix ix_tup (pv 0) pe_int (fun _ _ => rfl)) (pe_ix ix_tup (pv 0) pe_int (fun _ _ => rfl))))), ?_⟩
    exact ⟨_, rfl, a, _, 0, _, rfl, rfl, ha, rfl, _, rfl, a, _, 1, _, rfl, rfl, ha, rfl, _, _, rfl, rfl, hd, qq⟩
theorem ok_ceil_of {f : Addr} {fd : FuncData} (F : Fun K "ceil_of" "ceil_of" s_ceil_of f fd) : FnOk P w K mg base CX0 1 f fd ["fraction"] (spFloor K fun p q => -(-p / q)) := by
  refine F.ok sc_ceil_of (fun vs H Q E h => ?_) (fun cdv A outer s H vs Q E hr h => ?_)
  · obtain ⟨u, p, q, rfl, _⟩ := h
    rfl
  · obtain ⟨_, p, q, rfl, ⟨a, rfl, ha⟩, hd, qq⟩ := h
    refine ⟨_, (pss_one (ps_ret (pe_un un_neg (pe_op op_fdivA (pe_un un_neg (pe_ix ix_tup (pv 0) pe_int (fun _ _ => rfl))) (pe_ix ix_tup (pv 0) pe_int (fun _ _ => rfl)))))), ?_⟩
    exact ⟨_, rfl, a, _, 0, _, rfl, rfl, ha, rfl, _, rfl, _, rfl, a, _, 1, _, rfl, rfl, ha, rfl, _, _, rfl, rfl, ⟨hd.ok⟩, _, rfl, qq⟩
end
end K29

namespace K29
open PySem PySem.Spec PyProof.Rows L2 My
local macro_rules | `(tactic| walk_at "side") => `(tactic| (first
  | assumption
  | (refine OkMod.mk ?_; omega)
  | (refine mulOkL ?_ ?_ <;> omega)
  | (refine mulOkR ?_ ?_ <;> omega)
  | (refine divOk ?_ ?_ <;> omega)))
local macro_rules | `(tactic| walk_at "rd") => `(tactic| (first
  | with_reducible refine ⟨_, rfl, ?_⟩
  | refine ⟨_, rfl, ?_⟩
  | refine ⟨_, _, rfl, rfl, ?_⟩
  | refine And.intro (by walk_at "side") ?_
  | refine ⟨_, _, rfl, asm (by assumption), ?_⟩
  | refine ⟨_, _, rfl, asm ?_⟩))
section
variable {P : Program} {w : World} {K : PySem.W.Frag} {mg : Str → Option Value} {base : Heap}

/-! ### lines by slope -/
/-- of Z bits -/
structure LnS (N : Nat) (q : Ln) : Prop where
  a : Sz N q.a
  b : Sz N q.b
  c : Sz N q.c
  p : 0 < q.b
/-- q stands ahead of r -/
def firstB (q r : Ln) : Bool := decide ((if q.a * r.b - r.a * q.b = 0 then q.c * r.b - r.c * q.b else q.a * r.b - r.a * q.b) < 0)
def spFirst (K : PySem.W.Frag) : Sp := fun vs H Q _ => ∃ (u v : V) (q r : Ln) (N : Nat), vs = [u, v] ∧ LnV K H u q ∧ LnV K H v r ∧ LnS N q ∧ LnS N r ∧ 0 < N ∧ N ≤ 400000 ∧ Q (.bl (firstB q r)) H
theorem ok_comes_first {f : Addr} {fd : FuncData} (F : Fun K "comes_first" "comes_first" s_comes_first f fd) : FnOk P w K mg base CX0 1 f fd ["one", "other"] (spFirst K) := by
  refine F.ok sc_comes_first (fun vs H Q E h => ?_) (fun cdv A outer s H vs Q E hr h => ?_)
  · obtain ⟨u, v, q, r, N, rfl, _⟩ := h
    rfl
  · obtain ⟨_, _, q, r, N, rfl, ⟨a, rfl, ha⟩, ⟨b, rfl, hb⟩, sq, sr, h0, hN, qq⟩ := h
    refine ⟨_, (pss_cons (ps_set (i := 2) sc_comes_first.nd rfl (Or.inl rfl) (pe_op op_sub (pe_op op_mulA (pe_ix ix_tup (pv 0) pe_int (fun _ _ => rfl)) (pe_ix ix_tup (pv 1) pe_int (fun _ _ => rfl))) (pe_op op_mulA (pe_ix ix_tup (pv 1) pe_int (fun _ _ => rfl)) (pe_ix ix_tup (pv 0) pe_int (fun _ _ => rfl)))))
    (pss_cons (ps_if (pt_cmpR op_eq (pv 2) pe_int (nomark _))
      (pss_one (ps_set (i := 2) sc_comes_first.nd rfl (Or.inl rfl) (pe_op op_sub (pe_op op_mulA (pe_ix ix_tup (pv 0) pe_int (fun _ _ => rfl)) (pe_ix ix_tup (pv 1) pe_int (fun _ _ => rfl))) (pe_op op_mulA (pe_ix ix_tup (pv 1) pe_int (fun _ _ => rfl)) (pe_ix ix_tup (pv 0) pe_int (fun _ _ => rfl))))))
      pss_nil)
    (pss_one (ps_ret (pe_cmpR op_lt (pv 2) pe_int (nomark _)))))), ?_⟩
    refine ⟨_, rfl, a, _, 0, _, rfl, rfl, ha, rfl, _, rfl, b, _, 1, _, rfl, rfl, hb, rfl, _, _, rfl, rfl, sq.a.mulOk sr.b h0 h0 (by omega), ?_⟩
    refine ⟨_, rfl, b, _, 0, _, rfl, rfl, hb, rfl, _, rfl, a, _, 1, _, rfl, rfl, ha, rfl, _, _, rfl, rfl, sr.a.mulOk sq.b h0 h0 (by omega), _, _, rfl, rfl, ?_⟩
    unfold firstB at qq
    refine ⟨_, rfl, rfl, _, rfl, ite2 (fun c => ?_) (fun c => ?_)⟩
    · have c' : q.a * r.b - r.a * q.b = 0 := by
        have z := of_decide_eq_true c
        injection z
      rw [if_pos c'] at qq
      refine ⟨_, rfl, a, _, 2, _, rfl, rfl, ha, rfl, _, rfl, b, _, 1, _, rfl, rfl, hb, rfl, _, _, rfl, rfl, sq.c.mulOk sr.b h0 h0 (by omega), ?_⟩
      refine ⟨_, rfl, b, _, 2, _, rfl, rfl, hb, rfl, _, rfl, a, _, 1, _, rfl, rfl, ha, rfl, _, _, rfl, rfl, sr.c.mulOk sq.b h0 h0 (by omega), _, _, rfl, rfl, ?_⟩
      exact ⟨_, rfl, _, _, rfl, rfl, qq⟩
    · have c' : ¬ (q.a * r.b - r.a * q.b = 0) := fun z => c (decide_eq_true (by show V.int (q.a * r.b - r.a * q.b) = V.int 0; rw [z]))
      rw [if_neg c'] at qq
      exact ⟨_, rfl, _, _, rfl, rfl, qq⟩
/-- not behind -/
def leB (q r : Ln) : Prop := firstB r q = false
theorem first_iff {q r : Ln} : firstB q r = true ↔ (q.a * r.b < r.a * q.b ∨ (q.a * r.b = r.a * q.b ∧ q.c * r.b < r.c * q.b)) := by
  unfold firstB
  rw [decide_eq_true_iff]
  by_cases h : q.a * r.b - r.a * q.b = 0
  · rw [if_pos h]
    omega
  · rw [if_neg h]
    omega
theorem le_iff {q r : Ln} : leB q r ↔ (q.a * r.b < r.a * q.b ∨ (q.a * r.b = r.a * q.b ∧ q.c * r.b ≤ r.c * q.b)) := by
  unfold leB
  rw [Bool.eq_false_iff, ne_eq, first_iff]
  omega
/-- fractions along three -/
theorem frac_le {a b p q x y : Int} (hb : 0 < b) (hq : 0 < q) (hy : 0 < y) (h1 : a * q ≤ p * b) (h2 : p * y ≤ x * q) : a * y ≤ x * b := by
  have e1 : a * q * y ≤ p * b * y := Int.mul_le_mul_of_nonneg_right h1 (Int.le_of_lt hy)
  have e2 : p * y * b ≤ x * q * b := Int.mul_le_mul_of_nonneg_right h2 (Int.le_of_lt hb)
  have e3 : p * b * y = p * y * b := Int.mul_right_comm p b y
  have e4 : a * y * q ≤ x * b * q := by
    rw [Int.mul_right_comm a y q, Int.mul_right_comm x b q]
    omega
  exact Int.le_of_mul_le_mul_right e4 hq
theorem frac_lt {a b p q x y : Int} (hb : 0 < b) (hq : 0 < q) (hy : 0 < y) (h1 : a * q < p * b) (h2 : p * y ≤ x * q) : a * y < x * b := by
  have e1 : a * q * y < p * b * y := Int.mul_lt_mul_of_pos_right h1 hy
  have e2 : p * y * b ≤ x * q * b := Int.mul_le_mul_of_nonneg_right h2 (Int.le_of_lt hb)
  have e3 : p * b * y = p * y * b := Int.mul_right_comm p b y
  have e4 : a * y * q < x * b * q := by
    rw [Int.mul_right_comm a y q, Int.mul_right_comm x b q]
    omega
  exact Int.lt_of_mul_lt_mul_right e4 (Int.le_of_lt hq)
theorem frac_lt' {a b p q x y : Int} (hb : 0 < b) (hq : 0 < q) (hy : 0 < y) (h1 : a * q ≤ p * b) (h2 : p * y < x * q) : a * y < x * b := by
  have e1 : a * q * y ≤ p * b * y := Int.mul_le_mul_of_nonneg_right h1 (Int.le_of_lt hy)
  have e2 : p * y * b < x * q * b := Int.mul_lt_mul_of_pos_right h2 hb
  have e3 : p * b * y = p * y * b := Int.mul_right_comm p b y
  have e4 : a * y * q < x * b * q := by
    rw [Int.mul_right_comm a y q, Int.mul_right_comm x b q]
    omega
  exact Int.lt_of_mul_lt_mul_right e4 (Int.le_of_lt hq)
theorem le_trans {q r s : Ln} (hq : 0 < q.b) (hr : 0 < r.b) (hs : 0 < s.b) (h1 : leB q r) (h2 : leB r s) : leB q s := by
  rw [le_iff] at *
  rcases h1 with h1 | ⟨h1, h1'⟩
  · rcases h2 with h2 | ⟨h2, _⟩
    · exact .inl (frac_lt hq hr hs h1 (Int.le_of_lt h2))
    · exact .inl (frac_lt hq hr hs h1 (Int.le_of_eq h2))
  · rcases h2 with h2 | ⟨h2, h2'⟩
    · exact .inl (frac_lt' hq hr hs (Int.le_of_eq h1) h2)
    · have e := frac_le hq hr hs (Int.le_of_eq h1) (Int.le_of_eq h2)
      have e' := frac_le hs hr hq (Int.le_of_eq h2.symm) (Int.le_of_eq h1.symm)
      exact .inr ⟨Int.le_antisymm e e', frac_le hq hr hs h1' h2'⟩
theorem first_le {q r : Ln} (h : firstB q r = true) : leB q r := by
  rw [le_iff]
  rw [first_iff] at h
  omega
theorem cut_take (xs : List V) {m : Nat} (h : m ≤ xs.length) : cutV xs none (some (m : Int)) = xs.take m := by
  unfold cutV
  rw [HT.sIx_none, HT.sIx_nat, Nat.min_eq_left h, Nat.sub_zero, List.drop_zero]
theorem cut_drop (xs : List V) {m : Nat} (h : m ≤ xs.length) : cutV xs (some (m : Int)) none = xs.drop m := by
  unfold cutV
  rw [HT.sIx_none, HT.sIx_nat, Nat.min_eq_left h]
  exact List.take_of_length_le (by rw [List.length_drop] <;> omega)
/-- what the merge keeps -/
structure Merg (L R : List Ln) (i k : Nat) (M : List Ln) : Prop where
  kk : k ≤ R.length
  pm : M.Perm (L.take i ++ R.take k)
  pw : M.Pairwise leB
  le : ∀ z ∈ M, ∀ y ∈ L.drop i ++ R.drop k, leB z y
theorem Merg.start {L R : List Ln} : Merg L R 0 0 [] := ⟨Nat.zero_le _, List.Perm.refl _, .nil, fun _ h => by cases h⟩
theorem Merg.len {L R M : List Ln} {i k : Nat} (G : Merg L R i k M) : M.length ≤ L.length + R.length := by
  have := G.pm.length_eq
  rw [List.length_append, List.length_take, List.length_take] at this
  omega
theorem pw_more {M : List Ln} {z : Ln} (h : M.Pairwise leB) (g : ∀ m ∈ M, leB m z) : (M ++ [z]).Pairwise leB :=
  List.pairwise_append.mpr ⟨h, List.pairwise_singleton _ _, fun a ha b hb => by rw [List.mem_singleton.mp hb]; exact g a ha⟩
/-- the right one's next goes in -/
theorem Merg.right {L R M : List Ln} {i k : Nat} {z : Ln} (G : Merg L R i k M) (hk : k < R.length) (hz : L[i]? = some z) (pL : L.Pairwise leB) (pR : R.Pairwise leB) (pos : ∀ y ∈ L ++ R, 0 < y.b) (h : leB R[k] z) : Merg L R i (k + 1) (M ++ [R[k]]) := by
  have e : R.drop k = R[k] :: R.drop (k + 1) := List.drop_eq_getElem_cons hk
  have iz : i < L.length := (List.getElem?_eq_some_iff.mp hz).1
  have ez : L.drop i = z :: L.drop (i + 1) := by
    rw [List.drop_eq_getElem_cons iz, (List.getElem?_eq_some_iff.mp hz).2]
  have posR : 0 < R[k].b := pos _ (List.mem_append_right _ (List.getElem_mem hk))
  have posz : 0 < z.b := pos _ (List.mem_append_left _ (List.mem_of_getElem? hz))
  refine ⟨hk, ?_, pw_more G.pw fun m hm => G.le m hm _ (List.mem_append_right _ (by rw [e]; exact List.mem_cons_self)), fun y hy x hx => ?_⟩
  · rw [List.take_add_one, List.getElem?_eq_getElem hk]
    show (M ++ [R[k]]).Perm (L.take i ++ (R.take k ++ [R[k]]))
    rw [← List.append_assoc]
    exact G.pm.append_right _
  · rcases List.mem_append.mp hy with hy | hy
    · refine G.le y hy x ?_
      rcases List.mem_append.mp hx with hx | hx
      · exact List.mem_append_left _ hx
      · exact List.mem_append_right _ (by rw [e]; exact List.mem_cons_of_mem _ hx)
    · rw [List.mem_singleton.mp hy]
      rcases List.mem_append.mp hx with hx | hx
      · rw [ez] at hx
        rcases List.mem_cons.mp hx with rfl | hx
        · exact h
        · have pz : leB z x := by
            have pd := pL.sublist (List.drop_sublist i L)
            rw [ez] at pd
            exact (List.pairwise_cons.mp pd).1 x hx
          exact le_trans posR posz (pos _ (List.mem_append_left _ (List.mem_of_mem_drop hx))) h pz
      · have pd := pR.sublist (List.drop_sublist k R)
        rw [e] at pd
        exact (List.pairwise_cons.mp pd).1 x hx
/-- the left one's next goes in -/
theorem Merg.left {L R M : List Ln} {i k : Nat} {z : Ln} (G : Merg L R i k M) (hz : L[i]? = some z) (pL : L.Pairwise leB) (pR : R.Pairwise leB) (pos : ∀ y ∈ L ++ R, 0 < y.b) (h : ∀ q : k < R.length, leB z R[k]) : Merg L R (i + 1) k (M ++ [z]) := by
  have iz : i < L.length := (List.getElem?_eq_some_iff.mp hz).1
  have ez : L.drop i = z :: L.drop (i + 1) := by
    rw [List.drop_eq_getElem_cons iz, (List.getElem?_eq_some_iff.mp hz).2]
  have posz : 0 < z.b := pos _ (List.mem_append_left _ (List.mem_of_getElem? hz))
  refine ⟨G.kk, ?_, pw_more G.pw fun m hm => G.le m hm _ (List.mem_append_left _ (by rw [ez]; exact List.mem_cons_self)), fun y hy x hx => ?_⟩
  · rw [List.take_add_one, hz]
    show (M ++ [z]).Perm (L.take i ++ [z] ++ R.take k)
    refine (G.pm.append_right _).trans ?_
    rw [List.append_assoc, List.append_assoc]
    exact List.Perm.append_left _ List.perm_append_comm
  · rcases List.mem_append.mp hy with hy | hy
    · refine G.le y hy x ?_
      rcases List.mem_append.mp hx with hx | hx
      · exact List.mem_append_left _ (by rw [ez]; exact List.mem_cons_of_mem _ hx)
      · exact List.mem_append_right _ hx
    · rw [List.mem_singleton.mp hy]
      rcases List.mem_append.mp hx with hx | hx
      · have pd := pL.sublist (List.drop_sublist i L)
        rw [ez] at pd
        exact (List.pairwise_cons.mp pd).1 x hx
      · rcases Nat.lt_or_ge k R.length with hk | hk
        · have e : R.drop k = R[k] :: R.drop (k + 1) := List.drop_eq_getElem_cons hk
          have posR : 0 < R[k].b := pos _ (List.mem_append_right _ (List.getElem_mem hk))
          have pd := pR.sublist (List.drop_sublist k R)
          rw [e] at hx pd
          rcases List.mem_cons.mp hx with rfl | hx
          · exact h hk
          · exact le_trans posz posR (pos _ (List.mem_append_right _ (List.mem_of_mem_drop hx))) (h hk) ((List.pairwise_cons.mp pd).1 x hx)
        · rw [List.drop_eq_nil_of_le hk] at hx
          cases hx
theorem LnV.keep {H H' : Hp} {d : Addr} {zs : List V} {v : V} {q : Ln} (e : Keep d H H') (hd : H d = some (.lst zs)) : LnV K H v q → LnV K H' v q := fun ⟨p, h, t⟩ => ⟨p, h, e.tupD hd t⟩
def spSlope (K : PySem.W.Frag) (n : Nat) : Sp := fun vs H Q _ => ∃ (l : Addr) (xs : List V) (qs : List Ln) (N m : Nat), n = m + 1 ∧ vs = [.ref l] ∧ H l = some (.lst xs) ∧ LsV (LnV K H) xs qs ∧ qs.length ≤ 2 ^ m ∧ qs.length ≤ 100 ∧ (∀ q ∈ qs, LnS N q) ∧ 0 < N ∧ N ≤ 400000 ∧
  ∀ (l' : Addr) ys ps H', Same H H' → H' l' = some (.lst ys) → LsV (LnV K H') ys ps → ps.Perm qs → ps.Pairwise leB → Q (.ref l') H'
theorem none_left {f : Addr} {fd : FuncData} : FnOk P w K mg base CX0 2 f fd ["lines"] (spSlope K 0) :=
  ⟨fun _ _ _ _ ⟨_, _, _, _, _, e, _⟩ => absurd e (by omega), fun _ _ _ _ _ _ _ _ _ _ _ _ _ ⟨_, _, _, _, _, e, _⟩ => absurd e (by omega)⟩
theorem ok_by_slope_step {n : Nat} {f f1 : Addr} {fd fd1 : FuncData} (T : Nm mg) (C_comes_first : Has P w K mg base "comes_first" 1 ["one", "other"] (spFirst K) f1 fd1) (C_by_slope : Has P w K mg base "by_slope" (n + 2) ["lines"] (spSlope K n) f fd) (F : Fun K "by_slope" "by_slope" s_by_slope f fd) : FnOk P w K mg base CX0 (n + 3) f fd ["lines"] (spSlope K (n + 1)) := by
  refine F.ok sc_by_slope (fun vs H Q E h => ?_) (fun cdv A outer s H vs Q E hr h => ?_)
  · obtain ⟨l, xs, qs, N, m, _, rfl, _⟩ := h
    rfl
  · obtain ⟨l, xs, qs, N, m, e, rfl, hl, hx, hm, h100, hS, h0, hN, q⟩ := h
    obtain rfl : n = m := by omega
    refine ⟨_, (pss_cons (ps_if (pt_cmpR op_lt (pe_callB call_lenL (by rfl) T.len (by decide +kernel) (pa_cons (pv 0) pa_nil)) pe_int (nomark _))
      (pss_one (ps_ret (pv 0)))
      pss_nil)
    (pss_cons (ps_set (i := 1) sc_by_slope.nd rfl (Or.inl rfl) (pe_op op_fdivA (pe_callB call_lenL (by rfl) T.len (by decide +kernel) (pa_cons (pv 0) pa_nil)) pe_int))
    (pss_cons (ps_set (i := 2) sc_by_slope.nd rfl (Or.inl rfl) (pe_call C_by_slope.G (hr.mono (by omega)) (by rfl) C_by_slope.g C_by_slope.k C_by_slope.b .nil pass0 (pa_cons (pe_slice sl_list (pv 0) po_none (po_some (pv 1))) pa_nil)))
    (pss_cons (ps_set (i := 3) sc_by_slope.nd rfl (Or.inl rfl) (pe_call C_by_slope.G (hr.mono (by omega)) (by rfl) C_by_slope.g C_by_slope.k C_by_slope.b .nil pass0 (pa_cons (pe_slice sl_list (pv 0) (po_some (pv 1)) po_none) pa_nil)))
    (pss_cons (ps_set (i := 4) sc_by_slope.nd rfl (Or.inl rfl) (pe_lst pa_nil))
    (pss_cons (ps_set (i := 5) sc_by_slope.nd rfl (Or.inl rfl) pe_int)
    (pss_cons (ps_for PassesOwn.never rfl (pi_list (pv 2)) (pg_name (i := 6) sc_by_slope.nd rfl (Or.inl rfl))
      (pss_cons (ps_while PassesOwn.never (PW.pt (pw_and (pt_cmpR op_lt (pv 5) (pe_callB call_lenL (by rfl) T.len (by decide +kernel) (pa_cons (pv 3) pa_nil)) (nomark _)) (pw_and1 (pt_val (pe_call C_comes_first.G (hr.mono (by omega)) (by rfl) C_comes_first.g C_comes_first.k C_comes_first.b .nil pass0 (pa_cons (pe_ix ix_list (pv 3) (pv 5) (fun _ _ => rfl)) (pa_cons (pv 6) pa_nil)))))))
      (pss_cons (ps_expr (pe_bm PySem.F.plainAttrs_list PySem.F.slot_list_append PySem.F.type_list_append mt_append (pv 4) (pa_cons (pe_ix ix_list (pv 3) (pv 5) (fun _ _ => rfl)) pa_nil)))
    (pss_one (ps_set (i := 5) sc_by_slope.nd rfl (Or.inl rfl) (pe_op op_add (pv 5) pe_int)))))
    (pss_one (ps_expr (pe_bm PySem.F.plainAttrs_list PySem.F.slot_list_append PySem.F.type_list_append mt_append (pv 4) (pa_cons (pv 6) pa_nil))))))
    (pss_one (ps_ret (pe_op op_cat (pv 4) (pe_slice sl_list (pv 3) (po_some (pv 5)) po_none))))))))))), ?_⟩
    have hlen := hx.len
    refine ⟨_, rfl, l, xs, rfl, .inl (.inl hl), _, _, rfl, rfl, _, rfl, ite2 (fun c => ?_) (fun c => ?_)⟩
    · have c' : (xs.length : Int) < 2 := of_decide_eq_true c
      refine ⟨_, rfl, q l xs qs H (fun _ _ z => z) hl hx (List.Perm.refl qs) ?_⟩
      match qs, hlen with
      | [], _ => exact .nil
      | [z], _ => exact List.pairwise_singleton _ _
      | _ :: _ :: _, hlen =>
        simp only [List.length_cons] at hlen
        omega
    · have c' : ¬ (xs.length : Int) < 2 := fun z => c (decide_eq_true z)
      cases n with
      | zero =>
        rw [Nat.pow_zero] at hm
        omega
      | succ n =>
        refine ⟨_, rfl, l, xs, rfl, .inl (.inl hl), _, _, rfl, rfl, divOk (by decide) (by decide), ?_⟩
        have em : (xs.length : Int) / 2 = ((xs.length / 2 : Nat) : Int) := by omega
        have hmid : xs.length / 2 ≤ xs.length := Nat.div_le_self _ _
        have ct := cut_take xs hmid
        have cd := cut_drop xs hmid
        rw [← em] at ct cd
        rw [Nat.pow_succ] at hm
        refine ⟨_, rfl, _, rfl, _, rfl, l, xs, rfl, .inl (.inl hl), fun p np => ?_⟩
        rw [ct]
        have S1 : Same H (upd H p (.lst (xs.take (xs.length / 2)))) := same_upd np
        refine ⟨p, _, qs.take (xs.length / 2), N, n, rfl, rfl, upd_same, (hx.map fun _ _ => LnV.same S1).take _, by rw [List.length_take] <;> omega, by rw [List.length_take] <;> omega, fun z hz => hS z (List.mem_of_mem_take hz), h0, hN, fun l1 ys1 ps1 H2 S2 hl1 hy1 pm1 pw1 => ?_⟩
        have S12 := S1.trans S2
        refine ⟨_, rfl, _, rfl, _, rfl, l, xs, rfl, .inl (.inl (S12 _ _ hl)), fun p2 np2 => ?_⟩
        rw [cd]
        have S3 : Same H2 (upd H2 p2 (.lst (xs.drop (xs.length / 2)))) := same_upd np2
        have S13 := S12.trans S3
        refine ⟨p2, _, qs.drop (xs.length / 2), N, n, rfl, rfl, upd_same, (hx.map fun _ _ => LnV.same S13).drop _, by rw [List.length_drop] <;> omega, by rw [List.length_drop] <;> omega, fun z hz => hS z (List.mem_of_mem_drop hz), h0, hN, fun l2 ys2 ps2 H4 S4 hl2 hy2 pm2 pw2 => ?_⟩
        have S34 := S3.trans S4
        have S14 := S12.trans S34
        have hl1' := S34 _ _ hl1
        have hy1' : LsV (LnV K H4) ys1 ps1 := hy1.map fun _ _ => LnV.same S34
        have n1 := hy1.len
        have n2 := hy2.len
        have len1 : ps1.length = (qs.take (xs.length / 2)).length := pm1.length_eq
        have len2 : ps2.length = (qs.drop (xs.length / 2)).length := pm2.length_eq
        rw [List.length_take] at len1
        rw [List.length_drop] at len2
        have s1 : ∀ z ∈ ps1, LnS N z := fun z hz => hS z (List.mem_of_mem_take (pm1.mem_iff.mp hz))
        have s2 : ∀ z ∈ ps2, LnS N z := fun z hz => hS z (List.mem_of_mem_drop (pm2.mem_iff.mp hz))
        have pos : ∀ y ∈ ps1 ++ ps2, 0 < y.b := fun y hy => (List.mem_append.mp hy).elim (fun h => (s1 y h).p) (fun h => (s2 y h).p)
        refine ⟨by show 0 ≤ sizeLine; decide, fun lm nlm => ?_⟩
        have S5 : Same H4 (upd H4 lm (.lst [])) := same_upd nlm
        refine ⟨_, rfl, l1, rfl, ⟨ys1, .inl (.inl (S5 _ _ hl1'))⟩, for_list (xs := ys1) (fun i σ H' => ∃ (k : Nat) (M : List Ln) (ms : List V) (v : Option V), σ = [some (.ref l), some (.int ((xs.length : Int) / 2)), some (.ref l1), some (.ref l2), some (.ref lm), some (.int k), v] ∧ Same H4 H' ∧ H' lm = some (.lst ms) ∧ LsV (LnV K H') ms M ∧ Merg ps1 ps2 i k M)
          ⟨0, [], [], none, rfl, S5, upd_same, .nil, Merg.start⟩ ?_ ?_ ?_⟩
        · rintro i σ H' _ ⟨_, _, _, _, _, S, _⟩
          exact .inl (.inl (S _ _ hl1'))
        · rintro i v σ H5 hi ⟨k, M, ms, v6, rfl, S, hm5, hM, G⟩
          obtain ⟨z, hz, hzv⟩ := hy1'.at hi
          have iz : i < ps1.length := (List.getElem?_eq_some_iff.mp hz).1
          refine ⟨fun w σ H' => ∃ (k : Nat) (M : List Ln) (ms : List V), w = ps2.length - k ∧ σ = [some (.ref l), some (.int ((xs.length : Int) / 2)), some (.ref l1), some (.ref l2), some (.ref lm), some (.int k), some v] ∧ Same H4 H' ∧ H' lm = some (.lst ms) ∧ LsV (LnV K H') ms M ∧ Merg ps1 ps2 i k M, ⟨_, k, M, ms, rfl, rfl, S, hm5, hM, G⟩, ?_⟩
          rintro w σ H6 ⟨k, M, ms, rfl, rfl, S, hm6, hM, G⟩
          have hl2' := S _ _ hl2
          have ln := hM.len
          have lM := G.len
          refine ⟨_, rfl, _, rfl, l2, ys2, rfl, .inl (.inl hl2'), _, _, rfl, rfl, _, rfl, ite2 (fun c => ?_) (fun c => ?_)⟩
          · have c' : (k : Int) < (ys2.length : Int) := of_decide_eq_true c
            have kl : k < ps2.length := by omega
            obtain ⟨vk, hvk, hkv⟩ := hy2.at' (List.getElem?_eq_getElem kl)
            refine ⟨_, rfl, _, rfl, l2, ys2, k, vk, rfl, rfl, .inl (.inl hl2'), atI_nat hvk, ?_⟩
            refine ⟨_, rfl, vk, v, ps2[k], z, N, rfl, LnV.same S hkv, LnV.same S hzv, s2 _ (List.getElem_mem kl), s1 _ (List.mem_of_getElem? hz), h0, hN, ?_⟩
            refine ⟨_, rfl, ite2 (fun c2 => ?_) (fun c2 => ?_)⟩
            · refine ⟨fun σ' H' => ∃ m', m' < _ ∧ _, fun _ _ h => h, ?_⟩
              refine ⟨_, rfl, .inl ⟨rfl, _, .inl (.inl hm6)⟩, _, rfl, _, rfl, l2, ys2, k, vk, rfl, rfl, .inl (.inl hl2'), atI_nat hvk, lm, ms, vk, rfl, rfl, hm6, small1000 (by omega), ?_⟩
              exact ⟨_, rfl, _, _, rfl, rfl, ps2.length - (k + 1), by omega, k + 1, M ++ [ps2[k]], ms ++ [vk], rfl, rfl, same_over S nlm, upd_same, (hM.map fun _ _ => LnV.keep (Keep.upd lm _ _) hm6).app (.cons (LnV.keep (Keep.upd lm _ _) hm6 (LnV.same S hkv)) .nil), G.right kl hz pw1 pw2 pos (first_le c2)⟩
            · refine ⟨_, rfl, .inl ⟨rfl, _, .inl (.inl hm6)⟩, _, rfl, lm, ms, v, rfl, rfl, hm6, small1000 (by omega), ?_⟩
              exact ⟨k, M ++ [z], ms ++ [v], some v, rfl, same_over S nlm, upd_same, (hM.map fun _ _ => LnV.keep (Keep.upd lm _ _) hm6).app (.cons (LnV.keep (Keep.upd lm _ _) hm6 (LnV.same S hzv)) .nil), G.left hz pw1 pw2 pos (fun _ => Bool.eq_false_iff.mpr c2)⟩
          · have c' : ¬ (k : Int) < (ys2.length : Int) := fun z => c (decide_eq_true z)
            refine ⟨_, rfl, .inl ⟨rfl, _, .inl (.inl hm6)⟩, _, rfl, lm, ms, v, rfl, rfl, hm6, small1000 (by omega), ?_⟩
            exact ⟨k, M ++ [z], ms ++ [v], some v, rfl, same_over S nlm, upd_same, (hM.map fun _ _ => LnV.keep (Keep.upd lm _ _) hm6).app (.cons (LnV.keep (Keep.upd lm _ _) hm6 (LnV.same S hzv)) .nil), G.left hz pw1 pw2 pos (fun _ => absurd ‹k < ps2.length› (by omega))⟩
        · rintro σ H5 ⟨k, M, ms, v6, rfl, S, hm5, hM, G⟩
          have hl2' := S _ _ hl2
          have ln := hM.len
          have lM := G.len
          have lk := G.kk
          have cd2 := cut_drop ys2 (m := k) (by omega)
          refine ⟨_, rfl, _, rfl, _, rfl, k, rfl, l2, ys2, rfl, .inl (.inl hl2'), fun p3 np3 => ?_⟩
          rw [cd2]
          have S6 : Same H5 (upd H5 p3 (.lst (ys2.drop k))) := same_upd np3
          refine ⟨lm, p3, ms, _, rfl, rfl, S6 _ _ hm5, upd_same, ?_, fun p4 np4 => ?_⟩
          · rw [List.length_drop]
            exact Nat.le_of_lt (small1000 (by omega))
          · have S7 := S6.trans (same_upd (o := .lst (ms ++ ys2.drop k)) np4)
            have Sall := S14.trans (S.trans S7)
            refine q p4 _ (M ++ ps2.drop k) _ Sall upd_same ((hM.map fun _ _ => LnV.same S7).app ((hy2.map fun _ _ => LnV.same (S.trans S7)).drop k)) ?_ ?_
            · have pm := G.pm
              rw [n1, List.take_length] at pm
              refine (pm.append_right _).trans ?_
              rw [List.append_assoc, List.take_append_drop]
              refine (pm1.append pm2).trans ?_
              rw [List.take_append_drop]
            · refine List.pairwise_append.mpr ⟨G.pw, pw2.sublist (List.drop_sublist k ps2), fun a ha b hb => G.le a ha b (List.mem_append_right _ hb)⟩
theorem ok_by_slope {f f1 : Addr} {fd fd1 : FuncData} (T : Nm mg) (C_comes_first : Has P w K mg base "comes_first" 1 ["one", "other"] (spFirst K) f1 fd1) (F : Fun K "by_slope" "by_slope" s_by_slope f fd) (g : mg "by_slope" = some (.ref f)) (b : Binds K fd ["lines"] []) : ∀ n, FnOk P w K mg base CX0 (n + 2) f fd ["lines"] (spSlope K n)
  | 0 => none_left
  | n + 1 => ok_by_slope_step T C_comes_first ⟨ok_by_slope T C_comes_first F g b n, g, F.kp, b⟩ F
end
end K29

namespace K29
open PySem PySem.Spec PyProof.Rows L2 My
local macro_rules | `(tactic| walk_at "side") => `(tactic| (first
  | assumption
  | (refine OkMod.mk ?_; omega)
  | (refine mulOkL ?_ ?_ <;> omega)
  | (refine mulOkR ?_ ?_ <;> omega)
  | (refine divOk ?_ ?_ <;> omega)))
local macro_rules | `(tactic| walk_at "rd") => `(tactic| (first
  | with_reducible refine ⟨_, rfl, ?_⟩
  | refine ⟨_, rfl, ?_⟩
  | refine ⟨_, _, rfl, rfl, ?_⟩
  | refine And.intro (by walk_at "side") ?_
  | refine ⟨_, _, rfl, asm (by assumption), ?_⟩
  | refine ⟨_, _, rfl, asm ?_⟩))
section
variable {P : Program} {w : World} {K : PySem.W.Frag} {mg : Str → Option Value} {base : Heap}

/-! ### the tight lines, by their meaning. A place is a fraction X / D, D above 0 -/
/-- q is as tight as r at X / D -/
def leAt (X D : Int) (q r : Ln) : Prop := (q.c * D - q.a * X) * r.b ≤ (r.c * D - r.a * X) * q.b
theorem leAt_refl (X D : Int) (q : Ln) : leAt X D q q := Int.le_refl _
theorem leAt_trans {X D : Int} {q r s : Ln} (hq : 0 < q.b) (hr : 0 < r.b) (hs : 0 < s.b) (h1 : leAt X D q r) (h2 : leAt X D r s) : leAt X D q s := frac_le hq hr hs h1 h2
/-- where q and r cross -/
def crossN (q r : Ln) : Int := r.c * q.b - q.c * r.b
def crossD (q r : Ln) : Int := r.a * q.b - q.a * r.b
theorem cross_iff {X D : Int} {q r : Ln} : leAt X D r q ↔ crossN q r * D ≤ X * crossD q r := by
  unfold leAt crossN crossD
  have e1 : (r.c * D - r.a * X) * q.b = r.c * q.b * D - r.a * q.b * X := by
    rw [Int.sub_mul, Int.mul_right_comm, Int.mul_right_comm r.a]
  have e2 : (q.c * D - q.a * X) * r.b = q.c * r.b * D - q.a * r.b * X := by
    rw [Int.sub_mul, Int.mul_right_comm, Int.mul_right_comm q.a]
  have e3 : X * (r.a * q.b - q.a * r.b) = r.a * q.b * X - q.a * r.b * X := by
    rw [Int.mul_comm, Int.sub_mul]
  rw [e1, e2, e3, Int.sub_mul]
  omega
theorem cross_iff' {X D : Int} {q r : Ln} : leAt X D q r ↔ X * crossD q r ≤ crossN q r * D := by
  unfold leAt crossN crossD
  have e1 : (r.c * D - r.a * X) * q.b = r.c * q.b * D - r.a * q.b * X := by
    rw [Int.sub_mul, Int.mul_right_comm, Int.mul_right_comm r.a]
  have e2 : (q.c * D - q.a * X) * r.b = q.c * r.b * D - q.a * r.b * X := by
    rw [Int.sub_mul, Int.mul_right_comm, Int.mul_right_comm q.a]
  have e3 : X * (r.a * q.b - q.a * r.b) = r.a * q.b * X - q.a * r.b * X := by
    rw [Int.mul_comm, Int.sub_mul]
  rw [e1, e2, e3, Int.sub_mul]
  omega
/-- a line of the chain with its start, none of the first one -/
abbrev El := Ln × Option (Int × Int)
/-- the tight line at X / D, found from q on -/
def tightOf (X D : Int) : Ln → List El → Ln
  | q, [] => q
  | q, (r, some (p, d)) :: es => if X * d < p * D then q else tightOf X D r es
  | q, (r, none) :: es => tightOf X D r es
/-- the starts rise along a chain, denominators above 0 -/
inductive Rises : List El → Prop where
  | nil : Rises []
  | one (r : Ln) (p d : Int) : 0 < d → Rises [(r, some (p, d))]
  | cons (r r' : Ln) (p d p' d' : Int) (es : List El) : 0 < d → p * d' < p' * d → Rises ((r', some (p', d')) :: es) → Rises ((r, some (p, d)) :: (r', some (p', d')) :: es)
theorem tight_app {X D p d : Int} (hD : 0 < D) : ∀ (es : List El) (q L : Ln), Rises (es ++ [(L, some (p, d))]) → X * d < p * D → tightOf X D q (es ++ [(L, some (p, d))]) = tightOf X D q es
  | [], q, L, _, h => by
    show (if X * d < p * D then q else L) = q
    rw [if_pos h]
  | (r, none) :: es, q, L, hr, h => by cases es <;> cases hr
  | (r, some (a, b)) :: es, q, L, hr, h => by
    show (if X * b < a * D then q else tightOf X D r (es ++ [(L, some (p, d))])) = (if X * b < a * D then q else tightOf X D r es)
    have hr' : Rises (es ++ [(L, some (p, d))]) := by
      cases es with
      | nil => cases hr; assumption
      | cons e es => cases hr; assumption
    rw [tight_app hD es r L hr' h]
theorem rises_pos : ∀ {es : List El} {L : Ln} {p d : Int}, Rises (es ++ [(L, some (p, d))]) → 0 < d
  | [], _, _, _, h => by cases h; assumption
  | (_, none) :: es, _, _, _, h => by cases es <;> cases h
  | (_, some _) :: [], _, _, _, h => by
    cases h with
    | cons _ _ _ _ _ _ _ _ _ h => exact rises_pos (es := []) h
  | (_, some _) :: e :: es, _, _, _, h => by
    cases h with
    | cons _ _ _ _ _ _ _ _ _ h => exact rises_pos (es := _ :: es) h
theorem rises_init : ∀ {es : List El} {e : El}, Rises (es ++ [e]) → Rises es
  | [], _, _ => .nil
  | [(r, none)], _, h => by cases h
  | [(r, some (a, b))], _, h => by cases h; exact .one _ _ _ (by assumption)
  | (r, none) :: e' :: es, _, h => by cases h
  | (r, some (a, b)) :: (r', none) :: es, _, h => by cases h
  | (r, some (a, b)) :: (r', some (a', b')) :: es, e, h => by
    cases h with
    | cons _ _ _ _ _ _ _ h1 h2 h3 => exact .cons _ _ _ _ _ _ _ h1 h2 (rises_init (es := _ :: es) h3)
/-- behind the last start it is the last line -/
theorem tight_last {X D p d : Int} (hD : 0 < D) : ∀ (es : List El) (q L : Ln), Rises (es ++ [(L, some (p, d))]) → ¬ X * d < p * D → tightOf X D q (es ++ [(L, some (p, d))]) = L
  | [], q, L, _, h => by
    show (if X * d < p * D then q else L) = L
    rw [if_neg h]
  | (r, none) :: es, q, L, hr, h => by cases es <;> cases hr
  | (r, some (a, b)) :: es, q, L, hr, h => by
    have hr' : Rises (es ++ [(L, some (p, d))]) := by
      cases es with
      | nil => cases hr; assumption
      | cons e es => cases hr; assumption
    have hd := rises_pos hr'
    have nb : ¬ X * b < a * D := by
      intro z
      refine h ?_
      have : ∀ (es : List El) (r : Ln) (a b : Int), Rises ((r, some (a, b)) :: (es ++ [(L, some (p, d))])) → X * b < a * D → X * d < p * D := by
        intro es
        induction es with
        | nil =>
          intro r a b hr z
          cases hr with
          | cons _ _ _ _ _ _ _ h1 h2 h3 => exact frac_lt hD h1 hd z (Int.le_of_lt h2)
        | cons e es ih =>
          intro r a b hr z
          cases hr with
          | cons _ _ _ _ p' d' _ h1 h2 h3 =>
            have hd' : 0 < d' := by
              cases es <;> (cases h3; assumption)
            exact ih _ _ _ h3 (frac_lt hD h1 hd' z (Int.le_of_lt h2))
      exact this es r a b hr z
    show (if X * b < a * D then q else tightOf X D r (es ++ [(L, some (p, d))])) = L
    rw [if_neg nb]
    exact tight_last hD es r L hr' h
end
end K29

namespace K29
open PySem PySem.Spec PyProof.Rows L2 My
local macro_rules | `(tactic| walk_at "side") => `(tactic| (first
  | assumption
  | (refine OkMod.mk ?_; omega)
  | (refine mulOkL ?_ ?_ <;> omega)
  | (refine mulOkR ?_ ?_ <;> omega)
  | (refine divOk ?_ ?_ <;> omega)))
local macro_rules | `(tactic| walk_at "rd") => `(tactic| (first
  | with_reducible refine ⟨_, rfl, ?_⟩
  | refine ⟨_, rfl, ?_⟩
  | refine ⟨_, _, rfl, rfl, ?_⟩
  | refine And.intro (by walk_at "side") ?_
  | refine ⟨_, _, rfl, asm (by assumption), ?_⟩
  | refine ⟨_, _, rfl, asm ?_⟩))
section
variable {P : Program} {w : World} {K : PySem.W.Frag} {mg : Str → Option Value} {base : Heap}

/-! ### the chain of tight lines in the making -/
theorem rises_snoc : ∀ {es : List El} {L r : Ln} {p d P E : Int}, Rises (es ++ [(L, some (p, d))]) → p * E < P * d → 0 < E → Rises (es ++ [(L, some (p, d))] ++ [(r, some (P, E))])
  | [], L, r, p, d, P, E, h, h1, h2 => by
    cases h
    exact .cons _ _ _ _ _ _ _ (by assumption) h1 (.one _ _ _ h2)
  | (q, none) :: es, _, _, _, _, _, _, h, _, _ => by cases es <;> cases h
  | [(q, some (a, b))], L, r, p, d, P, E, h, h1, h2 => by
    cases h with
    | cons _ _ _ _ _ _ _ g1 g2 g3 => exact .cons _ _ _ _ _ _ _ g1 g2 (rises_snoc (es := []) g3 h1 h2)
  | (q, some (a, b)) :: (q', none) :: es, _, _, _, _, _, _, h, _, _ => by cases h
  | (q, some (a, b)) :: (q', some (a', b')) :: es, L, r, p, d, P, E, h, h1, h2 => by
    cases h with
    | cons _ _ _ _ _ _ _ g1 g2 g3 => exact .cons _ _ _ _ _ _ _ g1 g2 (rises_snoc (es := _ :: es) g3 h1 h2)
/-- the last line -/
def lastL (L0 : Ln) (es : List El) : Ln := match es.getLast? with
  | some e => e.1
  | none => L0
theorem lastL_nil (L0 : Ln) : lastL L0 [] = L0 := rfl
theorem lastL_snoc (L0 : Ln) (es : List El) (e : El) : lastL L0 (es ++ [e]) = e.1 := by
  unfold lastL
  rw [List.getLast?_concat]
def lns (L0 : Ln) (es : List El) : List Ln := L0 :: es.map Prod.fst
/-- what the chain tells of the lines S, r being on its way in (none: none is) -/
structure Half (S : List Ln) (L0 : Ln) (es : List El) (W : Ln → Int → Int → Prop) : Prop where
  up : Rises es
  pos : ∀ q ∈ S, 0 < q.b
  mem : ∀ q ∈ lns L0 es, q ∈ S
  all : ∀ e ∈ es, ∃ p d, e.2 = some (p, d)
  j : ∀ A L p d B, es = A ++ (L, some (p, d)) :: B → ∀ X D, 0 < D → X * d < p * D → leAt X D (tightOf X D L0 A) L
  mn : ∀ q ∈ S, ∀ X D, 0 < D → leAt X D (tightOf X D L0 es) q ∨ W q X D
  sl : (lns L0 es).Pairwise fun q r => 0 < crossD q r
abbrev Tight (S : List Ln) (L0 : Ln) (es : List El) : Prop := Half S L0 es fun _ _ _ => False
theorem tight_mem {X D : Int} : ∀ (es : List El) (q : Ln), tightOf X D q es = q ∨ tightOf X D q es ∈ es.map Prod.fst
  | [], q => .inl rfl
  | (r, none) :: es, q => by
    show tightOf X D r es = q ∨ tightOf X D r es ∈ r :: es.map Prod.fst
    rcases tight_mem es r with h | h
    · rw [h]
      exact .inr List.mem_cons_self
    · exact .inr (List.mem_cons_of_mem _ h)
  | (r, some (p, d)) :: es, q => by
    show (if X * d < p * D then q else tightOf X D r es) = q ∨ (if X * d < p * D then q else tightOf X D r es) ∈ r :: es.map Prod.fst
    by_cases c : X * d < p * D
    · rw [if_pos c]
      exact .inl rfl
    · rw [if_neg c]
      rcases tight_mem es r with h | h
      · rw [h]
        exact .inr List.mem_cons_self
      · exact .inr (List.mem_cons_of_mem _ h)
theorem Half.tightPos {S : List Ln} {L0 : Ln} {es : List El} {W : Ln → Int → Int → Prop} (h : Half S L0 es W) (X D : Int) (A B : List El) (e : es = A ++ B) : 0 < (tightOf X D L0 A).b := by
  refine h.pos _ (h.mem _ ?_)
  rcases tight_mem (X := X) (D := D) A L0 with q | q
  · rw [q]
    exact List.mem_cons_self
  · refine List.mem_cons_of_mem _ ?_
    rw [e, List.map_append]
    exact List.mem_append_left _ q
/-- the tight line is as tight as the last one, everywhere -/
theorem Half.le_last {S : List Ln} {L0 : Ln} {es : List El} {W : Ln → Int → Int → Prop} (h : Half S L0 es W) (X D : Int) (hD : 0 < D) : leAt X D (tightOf X D L0 es) (lastL L0 es) := by
  rcases List.eq_nil_or_concat es with rfl | ⟨A, ⟨L, s⟩, rfl⟩
  · exact leAt_refl _ _ _
  · rw [List.concat_eq_append] at *
    obtain ⟨p, d, rfl⟩ : ∃ p d, s = some (p, d) := h.all (L, s) (List.mem_append_right _ List.mem_cons_self)
    rw [lastL_snoc]
    by_cases c : X * d < p * D
    · rw [tight_app hD A L0 L h.up c]
      exact h.j A L p d [] rfl X D hD c
    · rw [tight_last hD A L0 L h.up c]
      exact leAt_refl _ _ _
/-- a line that is nowhere tighter than the last one stays out -/
theorem Half.skip {S : List Ln} {L0 : Ln} {es : List El} {r : Ln} (h : Tight S L0 es) (hr : 0 < r.b) (hl : ∀ X D, 0 < D → leAt X D (lastL L0 es) r) : Tight (S ++ [r]) L0 es := by
  have lp : 0 < (lastL L0 es).b := by
    refine h.pos _ (h.mem _ ?_)
    rcases List.eq_nil_or_concat es with rfl | ⟨A, e, rfl⟩
    · exact List.mem_cons_self
    · rw [List.concat_eq_append, lastL_snoc]
      refine List.mem_cons_of_mem _ ?_
      rw [List.map_append]
      exact List.mem_append_right _ List.mem_cons_self
  refine ⟨h.up, fun q hq => ?_, fun q hq => List.mem_append_left _ (h.mem q hq), h.all, h.j, fun q hq X D hD => ?_, h.sl⟩
  · rcases List.mem_append.mp hq with z | z
    · exact h.pos q z
    · rw [List.mem_singleton.mp z]
      exact hr
  · rcases List.mem_append.mp hq with z | z
    · exact h.mn q z X D hD
    · rw [List.mem_singleton.mp z]
      exact .inl (leAt_trans (h.tightPos X D es [] (List.append_nil _).symm) lp hr (h.le_last X D hD) (hl X D hD))
/-- r is on its way in -/
theorem Half.start {S : List Ln} {L0 : Ln} {es : List El} (r : Ln) (h : Tight S L0 es) : Half S L0 es fun q X D => leAt X D r q :=
  ⟨h.up, h.pos, h.mem, h.all, h.j, fun q hq X D hD => (h.mn q hq X D hD).imp id False.elim, h.sl⟩
/-- the last one is nowhere tighter than those ahead of it and r -/
theorem Half.pop {S : List Ln} {L0 : Ln} {A : List El} {L r : Ln} {p d : Int} (h : Half S L0 (A ++ [(L, some (p, d))]) fun q X D => leAt X D r q) (hr : 0 < r.b) (hE : 0 < crossD L r) (c : crossN L r * d ≤ p * crossD L r) : Half S L0 A fun q X D => leAt X D r q := by
  have hd := rises_pos h.up
  have lp : 0 < L.b := h.pos _ (h.mem _ (List.mem_cons_of_mem _ (by rw [List.map_append]; exact List.mem_append_right _ List.mem_cons_self)))
  have mm : ∀ q ∈ lns L0 A, q ∈ lns L0 (A ++ [(L, some (p, d))]) := fun q hq => by
    unfold lns at *
    rw [List.map_append]
    rcases List.mem_cons.mp hq with z | z
    · rw [z]
      exact List.mem_cons_self
    · exact List.mem_cons_of_mem _ (List.mem_append_left _ z)
  refine ⟨rises_init h.up, h.pos, fun q hq => h.mem q (mm q hq), fun e he => h.all e (List.mem_append_left _ he), fun A' L' p' d' B e => ?_, fun q hq X D hD => ?_, ?_⟩
  · exact h.j A' L' p' d' (B ++ [(L, some (p, d))]) (by rw [e, List.append_assoc]; rfl)
  · by_cases z : X * d < p * D
    · have m := h.mn q hq X D hD
      rw [tight_app hD A L0 L h.up z] at m
      exact m
    · have m := h.mn q hq X D hD
      rw [tight_last hD A L0 L h.up z] at m
      refine .inr ?_
      have rl : leAt X D r L := cross_iff.mpr (frac_le hE hd hD c (Int.not_lt.mp z))
      rcases m with m | m
      · exact leAt_trans hr lp (h.pos q hq) rl m
      · exact m
  · refine h.sl.sublist ?_
    unfold lns
    rw [List.map_append]
    exact (List.sublist_append_left _ _).cons₂ _
/-- r goes in -/
theorem Half.push {S : List Ln} {L0 : Ln} {es : List El} {r : Ln} (h : Half S L0 es fun q X D => leAt X D r q) (hr : 0 < r.b) (hE : ∀ q ∈ lns L0 es, 0 < crossD q r)
    (c : ∀ A L p d, es = A ++ [(L, some (p, d))] → p * crossD L r < crossN L r * d) : Tight (S ++ [r]) L0 (es ++ [(r, some (crossN (lastL L0 es) r, crossD (lastL L0 es) r))]) := by
  have lm : lastL L0 es ∈ lns L0 es := by
    rcases List.eq_nil_or_concat es with rfl | ⟨A, e, rfl⟩
    · exact List.mem_cons_self
    · rw [List.concat_eq_append, lastL_snoc]
      refine List.mem_cons_of_mem _ ?_
      rw [List.map_append]
      exact List.mem_append_right _ List.mem_cons_self
  have lp : 0 < (lastL L0 es).b := h.pos _ (h.mem _ lm)
  have lE := hE _ lm
  have up : Rises (es ++ [(r, some (crossN (lastL L0 es) r, crossD (lastL L0 es) r))]) := by
    rcases List.eq_nil_or_concat es with rfl | ⟨A, ⟨L, s⟩, rfl⟩
    · exact .one _ _ _ lE
    · rw [List.concat_eq_append] at *
      obtain ⟨p, d, rfl⟩ : ∃ p d, s = some (p, d) := h.all (L, s) (List.mem_append_right _ List.mem_cons_self)
      rw [lastL_snoc] at lE ⊢
      exact rises_snoc h.up (c A L p d rfl) lE
  have before : ∀ X D, 0 < D → X * crossD (lastL L0 es) r < crossN (lastL L0 es) r * D → leAt X D (tightOf X D L0 es) r := fun X D hD z =>
    leAt_trans (h.tightPos X D es [] (List.append_nil _).symm) lp hr (h.le_last X D hD) (cross_iff'.mpr (Int.le_of_lt z))
  have behind : ∀ X D, 0 < D → ¬ X * crossD (lastL L0 es) r < crossN (lastL L0 es) r * D → leAt X D r (tightOf X D L0 es) := fun X D hD z => by
    have rl : leAt X D r (lastL L0 es) := cross_iff.mpr (Int.not_lt.mp z)
    rcases List.eq_nil_or_concat es with rfl | ⟨A, ⟨L, s⟩, rfl⟩
    · exact rl
    · rw [List.concat_eq_append] at *
      obtain ⟨p, d, rfl⟩ : ∃ p d, s = some (p, d) := h.all (L, s) (List.mem_append_right _ List.mem_cons_self)
      rw [lastL_snoc] at rl z lE
      have nz : ¬ X * d < p * D := by
        have hd := rises_pos h.up
        have z1 := frac_le hd lE hD (Int.le_of_lt (c A L p d rfl)) (Int.not_lt.mp z)
        omega
      rw [tight_last hD A L0 L h.up nz]
      exact rl
  refine ⟨up, fun q hq => ?_, fun q hq => ?_, fun e he => ?_, fun A L p d B e => ?_, fun q hq X D hD => ?_, ?_⟩
  · rcases List.mem_append.mp hq with z | z
    · exact h.pos q z
    · rw [List.mem_singleton.mp z]
      exact hr
  · unfold lns at hq
    rw [List.map_append] at hq
    rcases List.mem_cons.mp hq with z | z
    · exact List.mem_append_left _ (h.mem _ (by rw [z]; exact List.mem_cons_self))
    · rcases List.mem_append.mp z with z | z
      · exact List.mem_append_left _ (h.mem _ (List.mem_cons_of_mem _ z))
      · rw [List.mem_singleton.mp z]
        exact List.mem_append_right _ List.mem_cons_self
  · rcases List.mem_append.mp he with z | z
    · exact h.all e z
    · rw [List.mem_singleton.mp z]
      exact ⟨_, _, rfl⟩
  · intro X D hD z
    rcases List.eq_nil_or_concat B with rfl | ⟨B', e', rfl⟩
    · have e2 := List.append_inj' e rfl
      have e3 := List.cons.inj e2.2
      cases e3.1
      rw [← e2.1]
      exact before X D hD z
    · rw [List.concat_eq_append] at e
      have e1 : es ++ [(r, some (crossN (lastL L0 es) r, crossD (lastL L0 es) r))] = (A ++ (L, some (p, d)) :: B') ++ [e'] := by
        rw [e, List.append_assoc]
        rfl
      have e2 := List.append_inj' e1 rfl
      exact h.j A L p d B' e2.1 X D hD z
  · by_cases z : X * crossD (lastL L0 es) r < crossN (lastL L0 es) r * D
    · rw [tight_app hD es L0 r up z]
      rcases List.mem_append.mp hq with y | y
      · rcases h.mn q y X D hD with m | m
        · exact .inl m
        · exact .inl (leAt_trans (h.tightPos X D es [] (List.append_nil _).symm) hr (h.pos q y) (before X D hD z) m)
      · rw [List.mem_singleton.mp y]
        exact .inl (before X D hD z)
    · rw [tight_last hD es L0 r up z]
      rcases List.mem_append.mp hq with y | y
      · rcases h.mn q y X D hD with m | m
        · exact .inl (leAt_trans hr (h.tightPos X D es [] (List.append_nil _).symm) (h.pos q y) (behind X D hD z) m)
        · exact .inl m
      · rw [List.mem_singleton.mp y]
        exact .inl (leAt_refl _ _ _)
  · unfold lns at *
    rw [List.map_append, ← List.cons_append]
    exact List.pairwise_append.mpr ⟨h.sl, List.pairwise_singleton _ _, fun a ha b hb => by rw [List.mem_singleton.mp hb]; exact hE a ha⟩
end
end K29

namespace K29
open PySem PySem.Spec PyProof.Rows L2 My
local macro_rules | `(tactic| walk_at "side") => `(tactic| (first
  | assumption
  | (refine OkMod.mk ?_; omega)
  | (refine mulOkL ?_ ?_ <;> omega)
  | (refine mulOkR ?_ ?_ <;> omega)
  | (refine divOk ?_ ?_ <;> omega)))
local macro_rules | `(tactic| walk_at "rd") => `(tactic| (first
  | with_reducible refine ⟨_, rfl, ?_⟩
  | refine ⟨_, rfl, ?_⟩
  | refine ⟨_, _, rfl, rfl, ?_⟩
  | refine And.intro (by walk_at "side") ?_
  | refine ⟨_, _, rfl, asm (by assumption), ?_⟩
  | refine ⟨_, _, rfl, asm ?_⟩))
section
variable {P : Program} {w : World} {K : PySem.W.Frag} {mg : Str → Option Value} {base : Heap}

/-! ### parallel, crossing -/
def spPar (K : PySem.W.Frag) : Sp := fun vs H Q _ => ∃ (u v : V) (q r : Ln) (N : Nat), vs = [u, v] ∧ LnV K H u q ∧ LnV K H v r ∧ LnS N q ∧ LnS N r ∧ 0 < N ∧ N ≤ 400000 ∧ Q (.bl (decide (q.a * r.b = r.a * q.b))) H
theorem ok_parallel {f : Addr} {fd : FuncData} (F : Fun K "parallel" "parallel" s_parallel f fd) : FnOk P w K mg base CX0 1 f fd ["one", "other"] (spPar K) := by
  refine F.ok sc_parallel (fun vs H Q E h => ?_) (fun cdv A outer s H vs Q E hr h => ?_)
  · obtain ⟨u, v, q, r, N, rfl, _⟩ := h
    rfl
  · obtain ⟨_, _, q, r, N, rfl, ⟨a, rfl, ha⟩, ⟨b, rfl, hb⟩, sq, sr, h0, hN, qq⟩ := h
    refine ⟨_, (pss_one (ps_ret (pe_cmpR op_eq (pe_op op_mulA (pe_ix ix_tup (pv 0) pe_int (fun _ _ => rfl)) (pe_ix ix_tup (pv 1) pe_int (fun _ _ => rfl))) (pe_op op_mulA (pe_ix ix_tup (pv 1) pe_int (fun _ _ => rfl)) (pe_ix ix_tup (pv 0) pe_int (fun _ _ => rfl))) (nomark _)))), ?_⟩
    refine ⟨_, rfl, a, _, 0, _, rfl, rfl, ha, rfl, _, rfl, b, _, 1, _, rfl, rfl, hb, rfl, _, _, rfl, rfl, sq.a.mulOk sr.b h0 h0 (by omega), ?_⟩
    refine ⟨_, rfl, b, _, 0, _, rfl, rfl, hb, rfl, _, rfl, a, _, 1, _, rfl, rfl, ha, rfl, _, _, rfl, rfl, sr.a.mulOk sq.b h0 h0 (by omega), rfl, ?_⟩
    have e : decide (V.int (q.a * r.b) = V.int (r.a * q.b)) = decide (q.a * r.b = r.a * q.b) := by
      rw [dec_int, Bool.eq_iff_iff]
      simp
    show Q (.bl (decide (V.int (q.a * r.b) = V.int (r.a * q.b)))) H
    rw [e]
    exact qq
def spCross (K : PySem.W.Frag) : Sp := fun vs H Q _ => ∃ (u v : V) (q r : Ln) (N : Nat), vs = [u, v] ∧ LnV K H u q ∧ LnV K H v r ∧ LnS N q ∧ LnS N r ∧ 0 < N ∧ N ≤ 400000 ∧ ∀ p, H p = none → Q (.ref p) (upd H p (.tup [.int (crossN q r), .int (crossD q r)]))
theorem ok_crossing {f : Addr} {fd : FuncData} (F : Fun K "crossing" "crossing" s_crossing f fd) : FnOk P w K mg base CX0 1 f fd ["one", "other"] (spCross K) := by
  refine F.ok sc_crossing (fun vs H Q E h => ?_) (fun cdv A outer s H vs Q E hr h => ?_)
  · obtain ⟨u, v, q, r, N, rfl, _⟩ := h
    rfl
  · obtain ⟨_, _, q, r, N, rfl, ⟨a, rfl, ha⟩, ⟨b, rfl, hb⟩, sq, sr, h0, hN, qq⟩ := h
    refine ⟨_, (pss_one (ps_ret (pe_tup (pa_cons (pe_op op_sub (pe_op op_mulA (pe_ix ix_tup (pv 1) pe_int (fun _ _ => rfl)) (pe_ix ix_tup (pv 0) pe_int (fun _ _ => rfl))) (pe_op op_mulA (pe_ix ix_tup (pv 0) pe_int (fun _ _ => rfl)) (pe_ix ix_tup (pv 1) pe_int (fun _ _ => rfl)))) (pa_cons (pe_op op_sub (pe_op op_mulA (pe_ix ix_tup (pv 1) pe_int (fun _ _ => rfl)) (pe_ix ix_tup (pv 0) pe_int (fun _ _ => rfl))) (pe_op op_mulA (pe_ix ix_tup (pv 0) pe_int (fun _ _ => rfl)) (pe_ix ix_tup (pv 1) pe_int (fun _ _ => rfl)))) pa_nil))))), ?_⟩
    refine ⟨_, rfl, b, _, 2, _, rfl, rfl, hb, rfl, _, rfl, a, _, 1, _, rfl, rfl, ha, rfl, _, _, rfl, rfl, sr.c.mulOk sq.b h0 h0 (by omega), ?_⟩
    refine ⟨_, rfl, a, _, 2, _, rfl, rfl, ha, rfl, _, rfl, b, _, 1, _, rfl, rfl, hb, rfl, _, _, rfl, rfl, sq.c.mulOk sr.b h0 h0 (by omega), _, _, rfl, rfl, ?_⟩
    refine ⟨_, rfl, b, _, 0, _, rfl, rfl, hb, rfl, _, rfl, a, _, 1, _, rfl, rfl, ha, rfl, _, _, rfl, rfl, sr.a.mulOk sq.b h0 h0 (by omega), ?_⟩
    refine ⟨_, rfl, a, _, 0, _, rfl, rfl, ha, rfl, _, rfl, b, _, 1, _, rfl, rfl, hb, rfl, _, _, rfl, rfl, sq.a.mulOk sr.b h0 h0 (by omega), _, _, rfl, rfl, ?_⟩
    exact ⟨by show 2 ≤ sizeLine; decide, fun p np => qq p np⟩
/-! ### tightest -/
def ElV (K : PySem.W.Frag) (H : Hp) (v : V) (e : El) : Prop := ∃ p u s, v = .ref p ∧ SqT K H p [u, s] ∧ LnV K H u e.1 ∧ match e.2 with
  | none => s = .non
  | some q => PairV K H s q
theorem PairV.same {H H' : Hp} {v : V} {q : Int × Int} (e : Same H H') : PairV K H v q → PairV K H' v q := fun ⟨p, h, t⟩ => ⟨p, h, Same.tup e t⟩
theorem PairV.keep {H H' : Hp} {d : Addr} {zs : List V} {v : V} {q : Int × Int} (e : Keep d H H') (hd : H d = some (.lst zs)) : PairV K H v q → PairV K H' v q := fun ⟨p, h, t⟩ => ⟨p, h, e.tupD hd t⟩
theorem ElV.same {H H' : Hp} {v : V} {e : El} (S : Same H H') : ElV K H v e → ElV K H' v e := fun ⟨p, u, s, h, t, l, m⟩ => ⟨p, u, s, h, Same.tup S t, LnV.same S l, by
  cases h2 : e.2 with
  | none => rw [h2] at m; exact m
  | some q => rw [h2] at m; exact PairV.same S m⟩
theorem ElV.keep {H H' : Hp} {d : Addr} {zs : List V} {v : V} {e : El} (S : Keep d H H') (hd : H d = some (.lst zs)) : ElV K H v e → ElV K H' v e := fun ⟨p, u, s, h, t, l, m⟩ => ⟨p, u, s, h, S.tupD hd t, LnV.keep S hd l, by
  cases h2 : e.2 with
  | none => rw [h2] at m; exact m
  | some q => rw [h2] at m; exact PairV.keep S hd m⟩
theorem LsV.split {α : Type} {R : V → α → Prop} {x : α} : ∀ {xs : List α} {vs : List V}, LsV R vs (xs ++ [x]) → ∃ ws v, vs = ws ++ [v] ∧ LsV R ws xs ∧ R v x
  | [], _, .cons h .nil => ⟨[], _, rfl, .nil, h⟩
  | y :: ys, _, .cons h t => by
    obtain ⟨ws, v, rfl, h1, h2⟩ := LsV.split (xs := ys) t
    exact ⟨_ :: ws, v, rfl, .cons h h1, h2⟩
theorem par_le {q r : Ln} (h : leB q r) (e : q.a * r.b = r.a * q.b) (X D : Int) (hD : 0 < D) : leAt X D q r := by
  rw [le_iff] at h
  have hc : q.c * r.b ≤ r.c * q.b := by omega
  unfold leAt
  have e1 : (q.c * D - q.a * X) * r.b = q.c * r.b * D - q.a * r.b * X := by
    rw [Int.sub_mul, Int.mul_right_comm, Int.mul_right_comm q.a]
  have e2 : (r.c * D - r.a * X) * q.b = r.c * q.b * D - r.a * q.b * X := by
    rw [Int.sub_mul, Int.mul_right_comm, Int.mul_right_comm r.a]
  have e3 := Int.mul_le_mul_of_nonneg_right hc (Int.le_of_lt hD)
  rw [e1, e2, e]
  omega
theorem Tight.one {r : Ln} (h : 0 < r.b) : Tight [r] r [] where
  up := .nil
  pos := fun q hq => by
    rw [List.mem_singleton.mp hq]
    exact h
  mem := fun q hq => hq
  all := fun e h => by cases h
  j := fun A L p d B e => by cases A <;> cases e
  mn := fun q hq X D _ => by
    rw [List.mem_singleton.mp hq]
    exact .inl (leAt_refl _ _ _)
  sl := List.pairwise_singleton _ _
theorem cross_pos {q r : Ln} : 0 < crossD q r ↔ q.a * r.b < r.a * q.b := by
  unfold crossD
  omega
end
end K29

namespace K29
open PySem PySem.Spec PyProof.Rows L2 My
local macro_rules | `(tactic| walk_at "side") => `(tactic| (first
  | assumption
  | (refine OkMod.mk ?_; omega)
  | (refine mulOkL ?_ ?_ <;> omega)
  | (refine mulOkR ?_ ?_ <;> omega)
  | (refine divOk ?_ ?_ <;> omega)))
local macro_rules | `(tactic| walk_at "rd") => `(tactic| (first
  | with_reducible refine ⟨_, rfl, ?_⟩
  | refine ⟨_, rfl, ?_⟩
  | refine ⟨_, _, rfl, rfl, ?_⟩
  | refine And.intro (by walk_at "side") ?_
  | refine ⟨_, _, rfl, asm (by assumption), ?_⟩
  | refine ⟨_, _, rfl, asm ?_⟩))
section
variable {P : Program} {w : World} {K : PySem.W.Frag} {mg : Str → Option Value} {base : Heap}

/-- the starts' sizes -/
def ElS (M : Nat) (e : El) : Prop := ∀ p d, e.2 = some (p, d) → Sz M p ∧ Sz M d
/-- the list holds the chain of the lines S -/
def ChainAt (K : PySem.W.Frag) (H : Hp) (M : Nat) (S : List Ln) (W : Ln → Int → Int → Prop) (L0 : Ln) (es : List El) (cs : List V) : Prop := LsV (ElV K H) cs ((L0, none) :: es) ∧ Half S L0 es W ∧ ∀ e ∈ es, ElS M e
theorem chain_last {H : Hp} {L0 : Ln} {es : List El} {cs : List V} (h : LsV (ElV K H) cs ((L0, none) :: es)) : ∃ (ws : List V) (v : V) (o : Option (Int × Int)), cs = ws ++ [v] ∧ ElV K H v (lastL L0 es, o) ∧ (es = [] ∨ ∃ A, es = A ++ [(lastL L0 es, o)] ∧ LsV (ElV K H) ws ((L0, none) :: A)) := by
  rcases List.eq_nil_or_concat es with rfl | ⟨A, e, rfl⟩
  · cases h with
    | cons h t =>
      cases t
      exact ⟨[], _, none, rfl, h, .inl rfl⟩
  · rw [List.concat_eq_append] at *
    obtain ⟨ws, v, e1, h1, h2⟩ := LsV.split (xs := (L0, none) :: A) h
    rw [lastL_snoc]
    exact ⟨ws, v, e.2, e1, h2, .inr ⟨A, rfl, h1⟩⟩
theorem pw_at {ps : List Ln} {i : Nat} {q r : Ln} (pw : ps.Pairwise leB) (hq : q ∈ ps.take i) (hr : ps[i]? = some r) : leB q r := by
  have il : i < ps.length := (List.getElem?_eq_some_iff.mp hr).1
  have e : ps.drop i = r :: ps.drop (i + 1) := by
    rw [List.drop_eq_getElem_cons il, (List.getElem?_eq_some_iff.mp hr).2]
  rw [← List.take_append_drop i ps] at pw
  exact (List.pairwise_append.mp pw).2.2 q hq r (by rw [e]; exact List.mem_cons_self)
theorem lastL_mem (L0 : Ln) (es : List El) : lastL L0 es ∈ lns L0 es := by
  rcases List.eq_nil_or_concat es with rfl | ⟨A, e, rfl⟩
  · exact List.mem_cons_self
  · rw [List.concat_eq_append, lastL_snoc]
    refine List.mem_cons_of_mem _ ?_
    rw [List.map_append]
    exact List.mem_append_right _ List.mem_cons_self
/-- all of the chain rise less than r, if the last one does -/
theorem all_cross {S : List Ln} {L0 : Ln} {es : List El} {W : Ln → Int → Int → Prop} {r : Ln} (h : Half S L0 es W) (hr : 0 < r.b) (hl : 0 < crossD (lastL L0 es) r) : ∀ q ∈ lns L0 es, 0 < crossD q r := by
  have lp := h.pos _ (h.mem _ (lastL_mem L0 es))
  intro q hq
  have qp := h.pos _ (h.mem _ hq)
  have key : q = lastL L0 es ∨ 0 < crossD q (lastL L0 es) := by
    rcases List.eq_nil_or_concat es with rfl | ⟨A, e, rfl⟩
    · exact .inl (List.mem_singleton.mp hq)
    · rw [List.concat_eq_append] at *
      rw [lastL_snoc]
      have sl := h.sl
      unfold lns at sl hq
      rw [List.map_append, ← List.cons_append] at sl hq
      rcases List.mem_append.mp hq with z | z
      · exact .inr ((List.pairwise_append.mp sl).2.2 q z e.1 List.mem_cons_self)
      · exact .inl (List.mem_singleton.mp z)
  rcases key with z | z
  · rw [z]
    exact hl
  · rw [cross_pos] at *
    exact frac_lt qp lp hr z (Int.le_of_lt hl)
def spTight (K : PySem.W.Frag) : Sp := fun vs H Q _ => ∃ (l : Addr) (xs : List V) (qs : List Ln) (N : Nat), vs = [.ref l] ∧ H l = some (.lst xs) ∧ LsV (LnV K H) xs qs ∧ qs.length ≤ 100 ∧ (∀ q ∈ qs, LnS N q) ∧ 0 < N ∧ N ≤ 200000 ∧
  (qs = [] → ∀ (l' : Addr) H', Same H H' → H' l' = some (.lst []) → Q (.ref l') H') ∧
  ∀ (l' : Addr) cs L0 es ps H', Same H H' → H' l' = some (.lst cs) → ps.Perm qs → ChainAt K H' (N + N + 1) ps (fun _ _ _ => False) L0 es cs → Q (.ref l') H'
theorem ok_tightest {f f1 f2 f3 f4 : Addr} {fd fd1 fd2 fd3 fd4 : FuncData} (T : Nm mg) (C_by_slope : Has P w K mg base "by_slope" 10 ["lines"] (spSlope K 8) f1 fd1) (C_parallel : Has P w K mg base "parallel" 1 ["one", "other"] (spPar K) f2 fd2) (C_crossing : Has P w K mg base "crossing" 1 ["one", "other"] (spCross K) f3 fd3)
    (C_below : Has P w K mg base "below" 1 ["one", "other"] (spBelow K) f4 fd4) (F : Fun K "tightest" "tightest" s_tightest f fd) : FnOk P w K mg base CX0 11 f fd ["lines"] (spTight K) := by
  refine F.ok sc_tightest (fun vs H Q E h => ?_) (fun cdv A outer s H vs Q E hr h => ?_)
  · obtain ⟨l, xs, qs, N, rfl, _⟩ := h
    rfl
  · obtain ⟨l, xs, qs, N, rfl, hl, hx, h100, hS, h0, hN, q0, q⟩ := h
    refine ⟨_, (pss_cons (ps_set (i := 1) sc_tightest.nd rfl (Or.inl rfl) (pe_lst pa_nil))
    (pss_cons (ps_for PassesOwn.never rfl (pi_list (pe_call C_by_slope.G (hr.mono (by omega)) (by rfl) C_by_slope.g C_by_slope.k C_by_slope.b .nil pass0 (pa_cons (pv 0) pa_nil))) (pg_name (i := 2) sc_tightest.nd rfl (Or.inl rfl))
      (pss_cons (ps_if (PW.pt (pw_and (pt_truth (pv 1) (by intro _; rfl)) (pw_and1 (pt_val (pe_call C_parallel.G (hr.mono (by omega)) (by rfl) C_parallel.g C_parallel.k C_parallel.b .nil pass0 (pa_cons (pe_ix ix_tup (pe_ix ix_list (pv 1) (pe_un un_neg pe_int) (fun _ _ => rfl)) pe_int (fun _ _ => rfl)) (pa_cons (pv 2) pa_nil)))))))
      (pss_one ps_continue)
      pss_nil)
    (pss_cons (ps_set (i := 3) sc_tightest.nd rfl (Or.inl rfl) (pe_ifExp (pt_truth (pv 1) (by intro _; rfl)) (pe_call C_crossing.G (hr.mono (by omega)) (by rfl) C_crossing.g C_crossing.k C_crossing.b .nil pass0 (pa_cons (pe_ix ix_tup (pe_ix ix_list (pv 1) (pe_un un_neg pe_int) (fun _ _ => rfl)) pe_int (fun _ _ => rfl)) (pa_cons (pv 2) pa_nil))) pe_non))
    (pss_cons (ps_while PassesOwn.never (PW.pt (pw_and (pt_cmpR op_gt (pe_callB call_lenL (by rfl) T.len (by decide +kernel) (pa_cons (pv 1) pa_nil)) pe_int (nomark _)) (pw_and1 (pt_not (pt_val (pe_call C_below.G (hr.mono (by omega)) (by rfl) C_below.g C_below.k C_below.b .nil pass0 (pa_cons (pe_ix ix_tup (pe_ix ix_list (pv 1) (pe_un un_neg pe_int) (fun _ _ => rfl)) pe_int (fun _ _ => rfl)) (pa_cons (pv 3) pa_nil))))))))
      (pss_cons (ps_expr (pe_bm0 PySem.F.plainAttrs_list PySem.F.slot_list_pop PySem.F.type_list_pop mt_pop (pv 1)))
    (pss_one (ps_set (i := 3) sc_tightest.nd rfl (Or.inl rfl) (pe_call C_crossing.G (hr.mono (by omega)) (by rfl) C_crossing.g C_crossing.k C_crossing.b .nil pass0 (pa_cons (pe_ix ix_tup (pe_ix ix_list (pv 1) (pe_un un_neg pe_int) (fun _ _ => rfl)) pe_int (fun _ _ => rfl)) (pa_cons (pv 2) pa_nil)))))))
    (pss_one (ps_expr (pe_bm PySem.F.plainAttrs_list PySem.F.slot_list_append PySem.F.type_list_append mt_append (pv 1) (pa_cons (pe_tup (pa_cons (pv 2) (pa_cons (pv 3) pa_nil))) pa_nil))))))))
    (pss_one (ps_ret (pv 1))))), ?_⟩
    refine ⟨by show 0 ≤ sizeLine; decide, fun lc nlc => ?_⟩
    have S1 : Same H (upd H lc (.lst [])) := same_upd nlc
    refine ⟨_, rfl, l, xs, qs, N, 7, rfl, rfl, S1 _ _ hl, hx.map (fun _ _ => LnV.same S1), by omega, h100, hS, h0, by omega, fun lp ys ps H2 S2 hlp hy pm pw => ?_⟩
    have S12 := S1.trans S2
    have sp : ∀ z ∈ ps, LnS N z := fun z hz => hS z (pm.mem_iff.mp hz)
    have npl : ps.length ≤ 100 := by
      rw [pm.length_eq]
      exact h100
    have ny := hy.len
    have hlc2 : H2 lc = some (.lst []) := S2 _ _ upd_same
    refine ⟨lp, rfl, ⟨ys, .inl (.inl hlp)⟩, for_list (xs := ys) (fun i σ H' => ∃ (cs : List V) (v2 v3 : Option V), σ = [some (.ref l), some (.ref lc), v2, v3] ∧ Same H H' ∧ H' lp = some (.lst ys) ∧ LsV (LnV K H') ys ps ∧ H' lc = some (.lst cs) ∧ cs.length ≤ i ∧
      ((i = 0 ∧ cs = []) ∨ ∃ L0 es, ChainAt K H' (N + N + 1) (ps.take i) (fun _ _ _ => False) L0 es cs)) ⟨[], none, none, rfl, S12, hlp, hy, hlc2, Nat.le_refl 0, .inl ⟨rfl, rfl⟩⟩ ?_ ?_ ?_⟩
    · rintro i σ H' _ ⟨_, _, _, _, _, h, _⟩
      exact .inl (.inl h)
    · rintro i v σ H3 hi ⟨cs, v2, v3, rfl, S3, hp3, hy3, hc3, ncs, hch⟩
      obtain ⟨r, hr', hrv⟩ := hy3.at hi
      have rS := sp r (List.mem_of_getElem? hr')
      have tk : ps.take (i + 1) = ps.take i ++ [r] := by
        rw [List.take_add_one, hr']
        rfl
      have ipl : i < ps.length := (List.getElem?_eq_some_iff.mp hr').1
      have nlp : lp ≠ lc := fun z => by
        rw [z, hlc2] at hlp
        cases hlp
        cases hi
      have S3' : Same H H3 := S3
      rcases hch with ⟨rfl, rfl⟩ | ⟨L0, es, hch⟩
      · refine ⟨_, rfl, false, ?_, iteF ?_⟩
        · exact .inl ⟨[], .inl (.inl hc3), rfl⟩
        refine iteF ?_
        refine ⟨_, rfl, false, .inl ⟨[], .inl (.inl hc3), rfl⟩, iteF ?_⟩
        refine ⟨fun w σ H' => w = 0 ∧ σ = [some (.ref l), some (.ref lc), some v, some .non] ∧ H' = H3, ⟨0, rfl, rfl, rfl⟩, ?_⟩
        rintro w σ H' ⟨rfl, rfl, rfl⟩
        refine ⟨_, rfl, lc, [], rfl, .inl (.inl hc3), _, _, rfl, rfl, _, rfl, iteF (iteF ?_)⟩
        refine ⟨_, rfl, .inl ⟨rfl, _, .inl (.inl hc3)⟩, _, rfl, _, rfl, by show 2 ≤ sizeLine; decide, fun pn nn => ?_⟩
        have Sn := same_upd (o := .tup [v, .non]) nn
        have hcn := Sn _ _ hc3
        have Kn := Keep.upd lc (upd H' pn (.tup [v, .non])) (.lst ([] ++ [.ref pn]))
        refine ⟨lc, [], .ref pn, rfl, rfl, hcn, by show 0 < sizeLine; decide, ?_⟩
        refine ⟨[.ref pn], some v, some .non, rfl, same_over (S3.trans Sn) nlc, Kn _ _ nlp (Sn _ _ hp3), hy3.map (fun _ _ y => LnV.keep Kn hcn (LnV.same Sn y)), upd_same, by show 1 ≤ 0 + 1; decide, .inr ⟨r, [], ?_, ?_, fun e he => by cases he⟩⟩
        · refine .cons ⟨pn, v, .non, rfl, Kn.tupD hcn (.inl (.inl upd_same)), LnV.keep Kn hcn (LnV.same Sn hrv), rfl⟩ .nil
        · rw [tk]
          exact Tight.one rS.p
      · obtain ⟨hcl, hh, hsz⟩ := hch
        obtain ⟨ws, vl, o, rfl, ⟨pe, ue, se, rfl, hpe, hue, hse⟩, hes⟩ := chain_last hcl
        have lmem := hh.mem _ (lastL_mem L0 es)
        have lS := sp _ (List.mem_of_mem_take lmem)
        have lle := pw_at pw lmem hr'
        have tru : TruV K (V.ref lc) H3 true := .inl ⟨_, .inl (.inl hc3), by cases ws <;> rfl⟩
        refine ⟨_, rfl, true, tru, iteT ?_⟩
        refine ⟨_, rfl, 1, rfl, lc, _, -1, _, rfl, rfl, .inl (.inl hc3), atI_last ws _, pe, _, 0, ue, rfl, rfl, hpe, rfl, _, rfl, ue, v, lastL L0 es, r, N, rfl, hue, hrv, lS, rS, h0, by omega, ?_⟩
        refine ⟨_, rfl, ite2 (fun c => ?_) (fun c => ?_)⟩
        · have c' : (lastL L0 es).a * r.b = r.a * (lastL L0 es).b := of_decide_eq_true c
          refine ⟨_, some v, v3, rfl, S3, hp3, hy3, hc3, Nat.le_succ_of_le ncs, .inr ⟨L0, es, hcl, ?_, hsz⟩⟩
          rw [tk]
          exact hh.skip rS.p fun X D hD => par_le lle c' X D hD
        · have c' : ¬ (lastL L0 es).a * r.b = r.a * (lastL L0 es).b := fun z => c (decide_eq_true z)
          have hE : 0 < crossD (lastL L0 es) r := by
            rw [cross_pos]
            rw [le_iff] at lle
            omega
          refine ⟨_, rfl, true, tru, iteT ?_⟩
          refine ⟨_, rfl, 1, rfl, lc, _, -1, _, rfl, rfl, .inl (.inl hc3), atI_last ws _, pe, _, 0, ue, rfl, rfl, hpe, rfl, _, rfl, ue, v, lastL L0 es, r, N, rfl, hue, hrv, lS, rS, h0, by omega, fun p0 np0 => ?_⟩
          have S0 := same_upd (o := .tup [.int (crossN (lastL L0 es) r), .int (crossD (lastL L0 es) r)]) np0
          refine ⟨fun w σ H' => ∃ (es' : List El) (cs' : List V) (p' : Addr), w = es'.length ∧ σ = [some (.ref l), some (.ref lc), some v, some (.ref p')] ∧ Same H H' ∧ H' lp = some (.lst ys) ∧ LsV (LnV K H') ys ps ∧ H' lc = some (.lst cs') ∧ cs'.length ≤ i ∧
              ChainAt K H' (N + N + 1) (ps.take i) (fun q X D => leAt X D r q) L0 es' cs' ∧ (∀ q ∈ lns L0 es', 0 < crossD q r) ∧ PairV K H' (.ref p') (crossN (lastL L0 es') r, crossD (lastL L0 es') r) ∧ LnV K H' v r,
            ⟨_, es, _, p0, rfl, rfl, S3.trans S0, S0 _ _ hp3, hy3.map (fun _ _ => LnV.same S0), S0 _ _ hc3, ncs, ⟨hcl.map (fun _ _ => ElV.same S0), hh.start r, hsz⟩, all_cross hh rS.p hE, ⟨p0, rfl, .inl (.inl upd_same)⟩, LnV.same S0 hrv⟩, ?_⟩
          rintro w σ H4 ⟨es', cs', p', rfl, rfl, S4, hp4, hy4, hc4, ncs4, ⟨hcl4, hh4, hsz4⟩, hx4, hP, hv4⟩
          have lm4 := hh4.mem _ (lastL_mem L0 es')
          have lS4 := sp _ (List.mem_of_mem_take lm4)
          have szP : Sz (N + N + 1) (crossN (lastL L0 es') r) := (rS.c.mul lS4.b).sub (lS4.c.mul rS.b)
          have szE : Sz (N + N + 1) (crossD (lastL L0 es') r) := (rS.a.mul lS4.b).sub (lS4.a.mul rS.b)
          have lE := hx4 _ (lastL_mem L0 es')
          refine ⟨_, rfl, lc, cs', rfl, .inl (.inl hc4), _, _, rfl, rfl, _, rfl, ite2 (fun c2 => ?_) (fun c2 => ?_)⟩
          · have c2' : (1 : Int) < (cs'.length : Int) := of_decide_eq_true c2
            obtain ⟨ws', vl', o', ecs', ⟨pe', ue', se', rfl, hpe', hue', hse'⟩, hes'⟩ := chain_last hcl4
            have hlen4 := hcl4.len
            rcases hes' with z | ⟨A, ees, hA⟩
            · rw [z] at hlen4
              simp only [List.length_cons, List.length_nil] at hlen4
              omega
            have hin : (lastL L0 es', o') ∈ A ++ [(lastL L0 es', o')] := List.mem_append_right _ List.mem_cons_self
            rw [← ees] at hin
            obtain ⟨p, d, rfl⟩ : ∃ p d, o' = some (p, d) := hh4.all _ hin
            have szpd := hsz4 _ hin p d rfl
            refine ⟨_, rfl, 1, rfl, lc, _, -1, _, rfl, rfl, .inl (.inl hc4), (by rw [ecs']; exact atI_last ws' _), pe', _, 1, se', rfl, rfl, hpe', rfl, _, rfl, ?_⟩
            refine ⟨se', .ref p', p, d, crossN (lastL L0 es') r, crossD (lastL L0 es') r, N + N + 1, rfl, hse', hP, by omega, by omega, szpd.1, szpd.2, szP, szE, ?_⟩
            refine ⟨_, rfl, ite2 (fun c3 => ?_) (fun c3 => ?_)⟩
            · have c3' : ¬ p * crossD (lastL L0 es') r < crossN (lastL L0 es') r * d := by simpa using c3
              refine ⟨fun σ' H' => ∃ m', m' < _ ∧ _, fun _ _ h => h, ?_⟩
              have hh5 := hh4
              rw [ees] at hh5
              have hpop := hh5.pop rS.p lE (Int.not_lt.mp c3')
              have el : es'.length = A.length + 1 := by
                have := congrArg List.length ees
                rw [List.length_append] at this
                exact this
              have mA : ∀ q ∈ lns L0 A, q ∈ lns L0 es' := fun q hq => by
                have z : q ∈ lns L0 (A ++ [(lastL L0 es', some (p, d))]) := by
                  unfold lns at *
                  rw [List.map_append]
                  rcases List.mem_cons.mp hq with y | y
                  · rw [y]
                    exact List.mem_cons_self
                  · exact List.mem_cons_of_mem _ (List.mem_append_left _ y)
                rw [← ees] at z
                exact z
              have szA : ∀ e ∈ A, ElS (N + N + 1) e := fun e he => by
                have z : e ∈ A ++ [(lastL L0 es', some (p, d))] := List.mem_append_left _ he
                rw [← ees] at z
                exact hsz4 e z
              subst ecs'
              refine ⟨_, rfl, .inl ⟨rfl, _, .inl (.inl hc4)⟩, lc, ws' ++ [.ref pe'], .ref pe', rfl, rfl, hc4, by simp, ?_⟩
              rw [List.dropLast_concat]
              have Kp := Keep.upd lc H4 (.lst ws')
              have hA5 := hA.map fun _ _ y => ElV.keep Kp hc4 y
              obtain ⟨ws2, v2', o2, ew2, ⟨pe2, ue2, se2, rfl, hpe2, hue2, hse2⟩, _⟩ := chain_last hA5
              have lm5 := hpop.mem _ (lastL_mem L0 A)
              have lS5 := sp _ (List.mem_of_mem_take lm5)
              have hv5 := LnV.keep Kp hc4 hv4
              refine ⟨_, rfl, 1, rfl, lc, ws', -1, _, rfl, rfl, .inl (.inl upd_same), (by rw [ew2]; exact atI_last ws2 _), pe2, _, 0, ue2, rfl, rfl, hpe2, rfl, _, rfl, ue2, v, lastL L0 A, r, N, rfl, hue2, hv5, lS5, rS, h0, by omega, fun p2 np2 => ?_⟩
              have S5 := same_upd (o := .tup [.int (crossN (lastL L0 A) r), .int (crossD (lastL L0 A) r)]) np2
              rw [List.length_append] at ncs4
              refine ⟨A.length, by omega, A, ws', p2, rfl, rfl, (same_over S4 nlc).trans S5, S5 _ _ (Kp _ _ nlp hp4), hy4.map (fun _ _ y => LnV.same S5 (LnV.keep Kp hc4 y)), S5 _ _ upd_same, by omega, ⟨hA5.map (fun _ _ y => ElV.same S5 y), hpop, szA⟩, fun q hq => hx4 q (mA q hq), ⟨p2, rfl, .inl (.inl upd_same)⟩, LnV.same S5 hv5⟩
            · have c3' : p * crossD (lastL L0 es') r < crossN (lastL L0 es') r * d := by simpa using c3
              refine ⟨_, rfl, .inl ⟨rfl, _, .inl (.inl hc4)⟩, _, rfl, _, rfl, by show 2 ≤ sizeLine; decide, fun pn nn => ?_⟩
              have Sn := same_upd (o := .tup [v, .ref p']) nn
              have hcn := Sn _ _ hc4
              have Kn := Keep.upd lc (upd H4 pn (.tup [v, .ref p'])) (.lst (cs' ++ [.ref pn]))
              refine ⟨lc, cs', .ref pn, rfl, rfl, hcn, small1000 (by omega), ?_⟩
              refine ⟨cs' ++ [.ref pn], some v, some (.ref p'), rfl, same_over (S4.trans Sn) nlc, Kn _ _ nlp (Sn _ _ hp4), hy4.map (fun _ _ y => LnV.keep Kn hcn (LnV.same Sn y)), upd_same, ?_, .inr ⟨L0, es' ++ [(r, some (crossN (lastL L0 es') r, crossD (lastL L0 es') r))], ?_, ?_, ?_⟩⟩
              · rw [List.length_append]
                exact Nat.succ_le_succ ncs4
              · have z := (hcl4.map fun _ _ y => ElV.keep Kn hcn (ElV.same Sn y)).app (.cons (x := (r, some (crossN (lastL L0 es') r, crossD (lastL L0 es') r))) ⟨pn, v, .ref p', rfl, Kn.tupD hcn (.inl (.inl upd_same)), LnV.keep Kn hcn (LnV.same Sn hv4), PairV.keep Kn hcn (PairV.same Sn hP)⟩ .nil)
                exact z
              · rw [tk]
                exact hh4.push rS.p hx4 (fun A2 L2 p2 d2 e2 => by
                  have e3 := List.append_inj' (ees.symm.trans e2) rfl
                  have e4 := (List.cons.inj e3.2).1
                  cases e4
                  exact c3')
              · intro e he
                rcases List.mem_append.mp he with z | z
                · exact hsz4 e z
                · rw [List.mem_singleton.mp z]
                  intro p d e2
                  cases e2
                  exact ⟨szP, szE⟩
          · have c2' : ¬ (1 : Int) < (cs'.length : Int) := fun z => c2 (decide_eq_true z)
            have hlen4 := hcl4.len
            have en : es' = [] := by
              rw [List.length_cons] at hlen4
              exact List.eq_nil_of_length_eq_zero (by omega)
            refine ⟨_, rfl, .inl ⟨rfl, _, .inl (.inl hc4)⟩, _, rfl, _, rfl, by show 2 ≤ sizeLine; decide, fun pn nn => ?_⟩
            have Sn := same_upd (o := .tup [v, .ref p']) nn
            have hcn := Sn _ _ hc4
            have Kn := Keep.upd lc (upd H4 pn (.tup [v, .ref p'])) (.lst (cs' ++ [.ref pn]))
            refine ⟨lc, cs', .ref pn, rfl, rfl, hcn, small1000 (by omega), ?_⟩
            refine ⟨cs' ++ [.ref pn], some v, some (.ref p'), rfl, same_over (S4.trans Sn) nlc, Kn _ _ nlp (Sn _ _ hp4), hy4.map (fun _ _ y => LnV.keep Kn hcn (LnV.same Sn y)), upd_same, ?_, .inr ⟨L0, es' ++ [(r, some (crossN (lastL L0 es') r, crossD (lastL L0 es') r))], ?_, ?_, ?_⟩⟩
            · rw [List.length_append]
              exact Nat.succ_le_succ ncs4
            · have z := (hcl4.map fun _ _ y => ElV.keep Kn hcn (ElV.same Sn y)).app (.cons (x := (r, some (crossN (lastL L0 es') r, crossD (lastL L0 es') r))) ⟨pn, v, .ref p', rfl, Kn.tupD hcn (.inl (.inl upd_same)), LnV.keep Kn hcn (LnV.same Sn hv4), PairV.keep Kn hcn (PairV.same Sn hP)⟩ .nil)
              exact z
            · rw [tk]
              exact hh4.push rS.p hx4 (fun A2 L2 p2 d2 e2 => by
                rw [en] at e2
                cases A2 <;> cases e2)
            · intro e he
              rcases List.mem_append.mp he with z | z
              · exact hsz4 e z
              · rw [List.mem_singleton.mp z]
                intro p d e2
                cases e2
                exact ⟨szP, szE⟩
    · rintro σ H3 ⟨cs, v2, v3, rfl, S3, hp3, hy3, hc3, ncs, hch⟩
      rcases hch with ⟨e0, rfl⟩ | ⟨L0, es, hch⟩
      · refine ⟨_, rfl, q0 ?_ lc H3 S3 hc3⟩
        have e1 : ps = [] := List.eq_nil_of_length_eq_zero (by omega)
        rw [e1] at pm
        exact pm.symm.eq_nil
      · refine ⟨_, rfl, q lc cs L0 es ps H3 S3 hc3 pm ?_⟩
        rw [ny, List.take_length] at hch
        exact hch
end
end K29

namespace K29
open PySem PySem.Spec PyProof.Rows L2 My
local macro_rules | `(tactic| walk_at "side") => `(tactic| (first
  | assumption
  | (refine OkMod.mk ?_; omega)
  | (refine mulOkL ?_ ?_ <;> omega)
  | (refine mulOkR ?_ ?_ <;> omega)
  | (refine divOk ?_ ?_ <;> omega)))
local macro_rules | `(tactic| walk_at "rd") => `(tactic| (first
  | with_reducible refine ⟨_, rfl, ?_⟩
  | refine ⟨_, rfl, ?_⟩
  | refine ⟨_, _, rfl, rfl, ?_⟩
  | refine And.intro (by walk_at "side") ?_
  | refine ⟨_, _, rfl, asm (by assumption), ?_⟩
  | refine ⟨_, _, rfl, asm ?_⟩))
section
variable {P : Program} {w : World} {K : PySem.W.Frag} {mg : Str → Option Value} {base : Heap}

/-! ### weights_of -/
def addAt (ws : List Int) (p : Int × Int) : List Int := ws.set p.1.toNat ((ws[p.1.toNat]?).getD 0 + p.2)
def wsum (many : Nat) (parts : List (Int × Int)) : List Int := parts.foldl addAt (List.replicate many 0)
def gcdAll (ws : List Int) : Nat := ws.foldl (fun g w => Nat.gcd g w.natAbs) 0
theorem addAt_len (ws : List Int) (p : Int × Int) : (addAt ws p).length = ws.length := List.length_set ..
theorem wsum_len (many : Nat) (parts : List (Int × Int)) : (wsum many parts).length = many := by
  have : ∀ (ps : List (Int × Int)) (ws : List Int), (ps.foldl addAt ws).length = ws.length := fun ps => by
    induction ps with
    | nil => exact fun _ => rfl
    | cons p ps ih => exact fun ws => (ih _).trans (addAt_len ws p)
  exact (this parts _).trans List.length_replicate
theorem zeros (n : Nat) : (List.replicate ((n : Nat) : Int).toNat [V.int 0]).flatten = (List.replicate n (0 : Int)).map V.int := by
  rw [Int.toNat_natCast]
  induction n with
  | zero => rfl
  | succ n ih =>
    rw [List.replicate_succ, List.flatten_cons, ih, List.replicate_succ]
    rfl
theorem fold_more {α β : Type} (f : β → α → β) (b : β) {xs : List α} {i : Nat} {x : α} (h : xs[i]? = some x) : (xs.take (i + 1)).foldl f b = f ((xs.take i).foldl f b) x := by
  rw [List.take_add_one, h, List.foldl_append]
  rfl
theorem fold_len (ps : List (Int × Int)) (ws : List Int) : (ps.foldl addAt ws).length = ws.length := by
  induction ps generalizing ws with
  | nil => rfl
  | cons p ps ih => exact (ih _).trans (addAt_len ws p)
theorem getI {ns : List Int} {i : Nat} {v : V} (h : (ns.map V.int)[i]? = some v) : ∃ n, ns[i]? = some n ∧ v = V.int n := by
  rw [List.getElem?_map] at h
  cases e : ns[i]? with
  | none =>
    rw [e] at h
    cases h
  | some n =>
    rw [e] at h
    exact ⟨n, rfl, (Option.some.inj h).symm⟩
theorem divBig {i : Int} {g : Nat} (h : 0 < g) (hb : g < 2 ^ 8000) : OkDiv i (g : Int) := ⟨wide_div (b := 8000) (by omega) (by rw [Int.natAbs_natCast]; exact hb) (by decide) (by decide)⟩
def spWeights (K : PySem.W.Frag) : Sp := fun vs H Q _ => ∃ (l : Addr) (xs : List V) (many : Nat) (parts : List (Int × Int)), vs = [.int many, .ref l] ∧ SqL K H l xs ∧ LsV (PairV K H) xs parts ∧ many ≤ 100 ∧ (∀ p ∈ parts, 0 ≤ p.1 ∧ p.1 < many) ∧
  0 < gcdAll (wsum many parts) ∧ gcdAll (wsum many parts) < 2 ^ 8000 ∧
  ∀ (l' : Addr) H', Same H H' → H l' = none → H' l' = some (.lst (((wsum many parts).map fun z => z / (gcdAll (wsum many parts) : Int)).map V.int)) → Q (.ref l') H'
theorem ok_weights_of {f : Addr} {fd : FuncData} (T : Nm mg) (F : Fun K "weights_of" "weights_of" s_weights_of f fd) : FnOk P w K mg base CX0 1 f fd ["many", "parts"] (spWeights K) := by
  refine F.ok sc_weights_of (fun vs H Q E h => ?_) (fun cdv A outer s H vs Q E hr h => ?_)
  · obtain ⟨l, xs, many, parts, rfl, _⟩ := h
    rfl
  · obtain ⟨l, xs, many, parts, rfl, hl, hx, hm, hat, g0, g1, q⟩ := h
    refine ⟨_, (pss_cons (ps_set (i := 2) sc_weights_of.nd rfl (Or.inl rfl) (pe_op op_rep (pe_lst (pa_cons pe_int pa_nil)) (pv 0)))
    (pss_cons (ps_set (i := 3) sc_weights_of.nd rfl (Or.inr rfl) pe_int)
    (pss_cons (ps_for PassesOwn.never rfl (pi_list (pv 1)) (pg_tup rfl (pgs_cons (pg_name (i := 4) sc_weights_of.nd rfl (Or.inl rfl)) (pgs_cons (pg_name (i := 5) sc_weights_of.nd rfl (Or.inl rfl)) pgs_nil)))
      (pss_one (ps_asg (pe_op op_add (pe_ix ix_list (pv 2) (pv 4) (fun _ _ => rfl)) (pv 5)) (pg_sub (pv 2) (pv 4) set_list))))
    (pss_cons (ps_for PassesOwn.never rfl (pi_list (pv 2)) (pg_name (i := 5) sc_weights_of.nd rfl (Or.inl rfl))
      (pss_one (ps_set (i := 3) sc_weights_of.nd rfl (Or.inr rfl) (pe_callBfun cr_gcd (by rfl) T.gcd (pa_cons (pv 3) (pa_cons (pv 5) pa_nil))))))
    (pss_one (ps_ret (pe_lc (own := [("weight", 5)]) (g := gName 5) (by rfl) sc_weights_of.nd (pi_list (pv 2)) (by exact blkOk_by (N := ["many", "parts", "weights", "common", "at", "weight"]) (sc := defScope s_weights_of) (by decide +kernel)) (fun _ _ _ _ _ => by exact (pg_name (i := 5) sc_weights_of.nd rfl (Or.inl rfl))) (fun _ _ _ _ _ => pts_nil) (fun _ _ _ _ _ => (pe_op op_fdivA (pv 5) (pv 3)))))))))), ?_⟩
    refine ⟨by show 1 ≤ sizeLine; decide, fun p0 np0 => ?_⟩
    have S0 := same_upd (o := .lst [.int 0]) np0
    refine ⟨_, rfl, p0, many, _, rfl, rfl, upd_same, by omega, by omega, ?_, fun lw nlw => ?_⟩
    · show 1 * ((many : Nat) : Int).toNat ≤ sizeLine
      rw [Int.toNat_natCast]
      exact Nat.le_of_lt (small1000 (by omega))
    have S1 := S0.trans (same_upd (o := .lst (List.replicate ((many : Nat) : Int).toNat [V.int 0]).flatten) nlw)
    have nlw0 : H lw = none := by
      cases e : H lw with
      | none => rfl
      | some o =>
        rw [S0 _ _ e] at nlw
        cases nlw
    refine ⟨_, rfl, l, rfl, ⟨xs, S1.seq hl⟩, for_list (xs := xs) (fun i σ H' => ∃ v4 v5, σ = [some (.int many), some (.ref l), some (.ref lw), some (.int 0), v4, v5] ∧ Same H H' ∧ H' lw = some (.lst (((parts.take i).foldl addAt (List.replicate many 0)).map V.int))) ⟨none, none, rfl, S1, by rw [upd_same, zeros]; rfl⟩ (fun i σ H' _ ⟨_, _, _, S, _⟩ => S.seq hl) ?_ ?_⟩
    · rintro i v σ H' hi ⟨v4, v5, rfl, S, hw⟩
      obtain ⟨⟨at', wt⟩, hp, u, rfl, hu⟩ := hx.at hi
      obtain ⟨a0, a1⟩ := hat _ (List.mem_of_getElem? hp)
      dsimp only at a0 a1 hu
      obtain ⟨k, rfl⟩ := Int.eq_ofNat_of_zero_le a0
      have fl := fold_len (parts.take i) (List.replicate many 0)
      rw [List.length_replicate] at fl
      have e1 := fold_more addAt (List.replicate many 0) hp
      generalize (parts.take i).foldl addAt (List.replicate many 0) = ws at *
      have kw : k < ws.length := by omega
      have hk : (ws.map V.int)[k]? = some (V.int ws[k]) := by
        rw [List.getElem?_map, List.getElem?_eq_getElem kw]
        rfl
      refine ⟨u, _, rfl, Same.tup S hu, rfl, _, _, rfl, _, _, rfl, rfl, ?_⟩
      refine ⟨_, rfl, _, rfl, lw, _, k, _, rfl, rfl, .inl (.inl hw), atI_nat hk, _, rfl, _, _, rfl, rfl, ?_⟩
      refine ⟨_, rfl, _, rfl, lw, _, k, k, rfl, rfl, hw, ?_, _, _, rfl, same_over S nlw0, ?_⟩
      · rw [List.length_map]
        unfold ixN
        rw [if_pos (Int.natCast_nonneg k), Int.toNat_natCast, if_pos (by omega)]
      · rw [upd_same, e1]
        unfold addAt
        show some (HO.lst ((ws.map V.int).set k (V.int (ws[k] + wt)))) = some (HO.lst ((ws.set k ((ws[k]?).getD 0 + wt)).map V.int))
        rw [List.getElem?_eq_getElem kw, List.map_set]
        rfl
    · rintro σ H1 ⟨v4, v5, rfl, S, hw⟩
      rw [hx.len, List.take_length] at hw
      have hW : H1 lw = some (.lst ((wsum many parts).map V.int)) := hw
      have lW := wsum_len many parts
      clear hw
      generalize wsum many parts = W at *
      refine ⟨_, rfl, lw, rfl, ⟨_, .inl (.inl hW)⟩, for_list (xs := W.map V.int) (fun i σ H' => ∃ v4 v5, σ = [some (.int many), some (.ref l), some (.ref lw), some (.int (gcdAll (W.take i) : Nat)), v4, v5] ∧ H' = H1) ⟨v4, v5, rfl, rfl⟩ (fun i σ H' _ ⟨_, _, _, e⟩ => by rw [e]; exact .inl (.inl hW)) ?_ ?_⟩
      · rintro i v σ H' hi ⟨v4, v5, rfl, rfl⟩
        obtain ⟨n, hn, rfl⟩ := getI hi
        refine ⟨_, rfl, _, rfl, _, _, rfl, v4, some (.int n), ?_, rfl⟩
        have e := fold_more (fun g (w : Int) => Nat.gcd g w.natAbs) 0 hn
        unfold gcdAll
        rw [e]
        rfl
      · rintro σ H' ⟨v4, v5, rfl, rfl⟩
        rw [List.length_map, List.take_length]
        refine ⟨_, rfl, lw, rfl, ⟨_, .inl (.inl hW)⟩, fun L nL => lc_list (xs := W.map V.int) (fun i H2 => Same H' H2 ∧ H2 L = some (.lst (((W.take i).map fun z => z / (gcdAll W : Int)).map V.int))) ⟨same_upd nL, upd_same⟩ (fun i H2 _ z => .inl (.inl (z.1 _ _ hW))) ?_ ?_⟩
        · rintro i v H2 hi ⟨S2, hL⟩
          obtain ⟨n, hn, rfl⟩ := getI hi
          refine ⟨rfl, tYes_in ?_⟩
          refine ⟨_, rfl, _, rfl, _, _, rfl, rfl, divBig (by omega) g1, _, hL, ?_, same_over S2 nL, ?_⟩
          · rw [List.length_map, List.length_map, List.length_take]
            exact small1000 (by omega)
          · rw [upd_same, List.take_add_one, hn, List.map_append, List.map_append]
            rfl
        · rintro H2 ⟨S2, hL⟩
          rw [List.length_map, List.take_length] at hL
          refine q L H2 (S.trans S2) ?_ hL
          cases e : H L with
          | none => rfl
          | some o =>
            rw [S _ _ e] at nL
            cases nL
end
end K29

namespace K29
open PySem PySem.Spec PyProof.Rows L2 My
local macro_rules | `(tactic| walk_at "side") => `(tactic| (first
  | assumption
  | (refine OkMod.mk ?_; omega)
  | (refine mulOkL ?_ ?_ <;> omega)
  | (refine mulOkR ?_ ?_ <;> omega)
  | (refine divOk ?_ ?_ <;> omega)))
local macro_rules | `(tactic| walk_at "rd") => `(tactic| (first
  | with_reducible refine ⟨_, rfl, ?_⟩
  | refine ⟨_, rfl, ?_⟩
  | refine ⟨_, _, rfl, rfl, ?_⟩
  | refine And.intro (by walk_at "side") ?_
  | refine ⟨_, _, rfl, asm (by assumption), ?_⟩
  | refine ⟨_, _, rfl, asm ?_⟩))
section
variable {P : Program} {w : World} {K : PySem.W.Frag} {mg : Str → Option Value} {base : Heap}

/-! ### two chains side by side: which pairs are tight somewhere -/
/-- the number of the tight line, behind the first one -/
def idx (X D : Int) : List El → Nat
  | [] => 0
  | (_, some (p, d)) :: es => if X * d < p * D then 0 else idx X D es + 1
  | (_, none) :: es => idx X D es + 1
theorem idx_le (X D : Int) : ∀ es : List El, idx X D es ≤ es.length
  | [] => Nat.le_refl 0
  | (_, some (p, d)) :: es => by
    show (if X * d < p * D then 0 else idx X D es + 1) ≤ es.length + 1
    by_cases c : X * d < p * D
    · rw [if_pos c]
      exact Nat.zero_le _
    · rw [if_neg c]
      exact Nat.succ_le_succ (idx_le X D es)
  | (_, none) :: es => Nat.succ_le_succ (idx_le X D es)
theorem tight_idx (X D : Int) : ∀ (es : List El) (L0 : Ln), (lns L0 es)[idx X D es]? = some (tightOf X D L0 es)
  | [], _ => rfl
  | (r, some (p, d)) :: es, L0 => by
    show (L0 :: lns r es)[if X * d < p * D then 0 else idx X D es + 1]? = some (if X * d < p * D then L0 else tightOf X D r es)
    by_cases c : X * d < p * D
    · rw [if_pos c, if_pos c]
      rfl
    · rw [if_neg c, if_neg c]
      exact tight_idx X D es r
  | (r, none) :: es, L0 => tight_idx X D es r
/-- ahead of a start: ahead of its number -/
theorem idx_lt {X D : Int} (hD : 0 < D) : ∀ {es : List El} {k : Nat} {r : Ln} {p d : Int}, Rises es → es[k]? = some (r, some (p, d)) → X * d < p * D → idx X D es ≤ k
  | [], k, _, _, _, _, e, _ => by simp at e
  | (q, none) :: es, _, _, _, _, h, _, _ => by cases h
  | (q, some (a, b)) :: es, 0, r, p, d, h, e, c => by
    cases e
    show (if X * b < a * D then 0 else idx X D es + 1) ≤ 0
    rw [if_pos c]
    exact Nat.le_refl 0
  | (q, some (a, b)) :: es, k + 1, r, p, d, h, e, c => by
    have h' : Rises es := by
      cases h with
      | one => exact .nil
      | cons _ _ _ _ _ _ _ _ _ g => exact g
    have z := idx_lt hD h' (k := k) e c
    show (if X * b < a * D then 0 else idx X D es + 1) ≤ k + 1
    by_cases y : X * b < a * D
    · rw [if_pos y]
      exact Nat.zero_le _
    · rw [if_neg y]
      exact Nat.succ_le_succ z
theorem idx_ge {X D : Int} (hD : 0 < D) : ∀ {es : List El} {k : Nat} {r : Ln} {p d : Int}, Rises es → es[k]? = some (r, some (p, d)) → ¬ X * d < p * D → k + 1 ≤ idx X D es
  | [], k, _, _, _, _, e, _ => by simp at e
  | (q, none) :: es, _, _, _, _, h, _, _ => by cases h
  | (q, some (a, b)) :: es, 0, r, p, d, h, e, c => by
    cases e
    show 1 ≤ (if X * b < a * D then 0 else idx X D es + 1)
    rw [if_neg c]
    exact Nat.succ_le_succ (Nat.zero_le _)
  | [(q, some (a, b))], k + 1, r, p, d, h, e, c => by simp at e
  | (q, some (a, b)) :: (q', none) :: es, k + 1, r, p, d, h, e, c => by cases h
  | (q, some (a, b)) :: (q', some (a', b')) :: es, k + 1, r, p, d, h, e, c => by
    cases h with
    | cons _ _ _ _ _ _ _ hb lt g =>
      have z := idx_ge hD g (k := k) e c
      have hb' : 0 < b' := by
        cases g <;> assumption
      have y : ¬ X * b < a * D := fun y => by
        have y' : X * b' < a' * D := frac_lt hD hb hb' y (Int.le_of_lt lt)
        have w0 : idx X D ((q', some (a', b')) :: es) = 0 := by
          show (if X * b' < a' * D then 0 else idx X D es + 1) = 0
          rw [if_pos y']
        omega
      show k + 1 + 1 ≤ (if X * b < a * D then 0 else idx X D ((q', some (a', b')) :: es) + 1)
      rw [if_neg y]
      exact Nat.succ_le_succ z
/-- while going through both: what is tight is found, or is yet ahead -/
def Seen (us ls : List El) (i j : Nat) (found : List (Nat × Nat)) : Prop := i ≤ us.length ∧ j ≤ ls.length ∧ (i, j) ∈ found ∧ ∀ X D, 0 < D → (idx X D us, idx X D ls) ∈ found ∨ (i ≤ idx X D us ∧ j ≤ idx X D ls)
theorem Seen.start {us ls : List El} : Seen us ls 0 0 [(0, 0)] := ⟨Nat.zero_le _, Nat.zero_le _, List.mem_cons_self, fun _ _ _ => .inr ⟨Nat.zero_le _, Nat.zero_le _⟩⟩
theorem Seen.upper {us ls : List El} {i j : Nat} {f : List (Nat × Nat)} {r : Ln} {p d : Int} (h : Seen us ls i j f) (hu : Rises us) (hl : Rises ls) (e : us[i]? = some (r, some (p, d)))
    (c : j = ls.length ∨ ∃ r' p' d', ls[j]? = some (r', some (p', d')) ∧ 0 < d ∧ 0 < d' ∧ p * d' ≤ p' * d) : Seen us ls (i + 1) j (f ++ [(i + 1, j)]) := by
  obtain ⟨h1, h2, h3, h4⟩ := h
  have il : i < us.length := (List.getElem?_eq_some_iff.mp e).1
  refine ⟨il, h2, List.mem_append_right _ List.mem_cons_self, fun X D hD => ?_⟩
  rcases h4 X D hD with z | ⟨z1, z2⟩
  · exact .inl (List.mem_append_left _ z)
  · by_cases y : X * d < p * D
    · have u := idx_lt hD hu e y
      have v : idx X D ls ≤ j := by
        rcases c with c | ⟨r', p', d', e', hd, hd', lt⟩
        · rw [c]
          exact idx_le X D ls
        · exact idx_lt hD hl e' (frac_lt hD hd hd' y lt)
      have e1 : (idx X D us, idx X D ls) = (i, j) := by
        rw [Nat.le_antisymm u z1, Nat.le_antisymm v z2]
      rw [e1]
      exact .inl (List.mem_append_left _ h3)
    · exact .inr ⟨idx_ge hD hu e y, z2⟩
theorem Seen.lower {us ls : List El} {i j : Nat} {f : List (Nat × Nat)} {r : Ln} {p d : Int} (h : Seen us ls i j f) (hu : Rises us) (hl : Rises ls) (e : ls[j]? = some (r, some (p, d)))
    (c : i = us.length ∨ ∃ r' p' d', us[i]? = some (r', some (p', d')) ∧ 0 < d ∧ 0 < d' ∧ p * d' ≤ p' * d) : Seen us ls i (j + 1) (f ++ [(i, j + 1)]) := by
  obtain ⟨h1, h2, h3, h4⟩ := h
  have jl : j < ls.length := (List.getElem?_eq_some_iff.mp e).1
  refine ⟨h1, jl, List.mem_append_right _ List.mem_cons_self, fun X D hD => ?_⟩
  rcases h4 X D hD with z | ⟨z1, z2⟩
  · exact .inl (List.mem_append_left _ z)
  · by_cases y : X * d < p * D
    · have u := idx_lt hD hl e y
      have v : idx X D us ≤ i := by
        rcases c with c | ⟨r', p', d', e', hd, hd', lt⟩
        · rw [c]
          exact idx_le X D us
        · exact idx_lt hD hu e' (frac_lt hD hd hd' y lt)
      have e1 : (idx X D us, idx X D ls) = (i, j) := by
        rw [Nat.le_antisymm v z1, Nat.le_antisymm u z2]
      rw [e1]
      exact .inl (List.mem_append_left _ h3)
    · exact .inr ⟨z1, idx_ge hD hl e y⟩
theorem Seen.done {us ls : List El} {f : List (Nat × Nat)} (h : Seen us ls us.length ls.length f) (X D : Int) (hD : 0 < D) : (idx X D us, idx X D ls) ∈ f := by
  obtain ⟨_, _, h3, h4⟩ := h
  rcases h4 X D hD with z | ⟨z1, z2⟩
  · exact z
  · rw [Nat.le_antisymm (idx_le X D us) z1, Nat.le_antisymm (idx_le X D ls) z2]
    exact h3
end
end K29

namespace K29
open PySem PySem.Spec PyProof.Rows L2 My
local macro_rules | `(tactic| walk_at "side") => `(tactic| (first
  | assumption
  | (refine OkMod.mk ?_; omega)
  | (refine mulOkL ?_ ?_ <;> omega)
  | (refine mulOkR ?_ ?_ <;> omega)
  | (refine divOk ?_ ?_ <;> omega)))
local macro_rules | `(tactic| walk_at "rd") => `(tactic| (first
  | with_reducible refine ⟨_, rfl, ?_⟩
  | refine ⟨_, rfl, ?_⟩
  | refine ⟨_, _, rfl, rfl, ?_⟩
  | refine And.intro (by walk_at "side") ?_
  | refine ⟨_, _, rfl, asm (by assumption), ?_⟩
  | refine ⟨_, _, rfl, asm ?_⟩))
section
variable {P : Program} {w : World} {K : PySem.W.Frag} {mg : Str → Option Value} {base : Heap}

def PrV (K : PySem.W.Frag) (us ls : List Ln) (H : Hp) (v : V) (f : Nat × Nat) : Prop := ∃ p u l q r, v = .ref p ∧ SqT K H p [u, l] ∧ us[f.1]? = some q ∧ ls[f.2]? = some r ∧ LnV K H u q ∧ LnV K H l r
theorem PrV.same {us ls : List Ln} {H H' : Hp} {v : V} {f : Nat × Nat} (S : Same H H') : PrV K us ls H v f → PrV K us ls H' v f := fun ⟨p, u, l, q, r, e, t, h1, h2, a, b⟩ => ⟨p, u, l, q, r, e, Same.tup S t, h1, h2, LnV.same S a, LnV.same S b⟩
theorem PrV.keep {us ls : List Ln} {H H' : Hp} {d : Addr} {zs : List V} {v : V} {f : Nat × Nat} (S : Keep d H H') (hd : H d = some (.lst zs)) : PrV K us ls H v f → PrV K us ls H' v f := fun ⟨p, u, l, q, r, e, t, h1, h2, a, b⟩ => ⟨p, u, l, q, r, e, S.tupD hd t, h1, h2, LnV.keep S hd a, LnV.keep S hd b⟩
def spPairs (K : PySem.W.Frag) : Sp := fun vs H Q _ => ∃ (lu ll : Addr) (cu cl : List V), vs = [.ref lu, .ref ll] ∧ SqL K H lu cu ∧ SqL K H ll cl ∧
  ((cu = [] ∨ cl = []) ∧ (∀ (l' : Addr) H', Same H H' → H l' = none → H' l' = some (.lst []) → Q (.ref l') H') ∨
  ∃ (U0 L0 : Ln) (us ls : List El) (M : Nat), LsV (ElV K H) cu ((U0, none) :: us) ∧ LsV (ElV K H) cl ((L0, none) :: ls) ∧ Rises us ∧ Rises ls ∧ us.length ≤ 100 ∧ ls.length ≤ 100 ∧ (∀ e ∈ us, ElS M e) ∧ (∀ e ∈ ls, ElS M e) ∧ 0 < M ∧ M ≤ 500000 ∧
    ∀ (l' : Addr) ys f H', Same H H' → H l' = none → H' l' = some (.lst ys) → LsV (PrV K (lns U0 us) (lns L0 ls) H') ys f → f.length ≤ 201 → (∀ X D, 0 < D → (idx X D us, idx X D ls) ∈ f) → Q (.ref l') H')
theorem el_at {H : Hp} {c : List V} {L0 : Ln} {es : List El} (h : LsV (ElV K H) c ((L0, none) :: es)) {i : Nat} (hi : i ≤ es.length) : ∃ p u s q o, c[i]? = some (.ref p) ∧ SqT K H p [u, s] ∧ LnV K H u q ∧ (lns L0 es)[i]? = some q ∧ ((L0, none) :: es)[i]? = some (q, o) ∧ (∀ a, o = some a → PairV K H s a) := by
  have hl : i < ((L0, none) :: es : List El).length := Nat.lt_succ_of_le hi
  obtain ⟨v, hv, p, u, s, rfl, ht, hu, hs⟩ := h.at' (List.getElem?_eq_getElem hl)
  generalize he : ((L0, none) :: es : List El)[i] = e at *
  obtain ⟨q, o⟩ := e
  refine ⟨p, u, s, q, o, hv, ht, hu, ?_, by rw [List.getElem?_eq_getElem hl, he], fun a ea => ?_⟩
  · have : lns L0 es = ((L0, none) :: es : List El).map Prod.fst := rfl
    rw [this, List.getElem?_map, List.getElem?_eq_getElem hl, he]
    rfl
  · dsimp only at hs
    rw [ea] at hs
    exact hs
theorem rises_some : ∀ {es : List El} {k : Nat} {r : Ln} {o : Option (Int × Int)}, Rises es → es[k]? = some (r, o) → ∃ p d, o = some (p, d) ∧ 0 < d
  | [], k, _, _, _, e => by simp at e
  | (q, none) :: es, _, _, _, h, _ => by cases h
  | (q, some (a, b)) :: es, 0, r, o, h, e => by
    cases e
    cases h <;> exact ⟨a, b, rfl, by assumption⟩
  | (q, some (a, b)) :: es, k + 1, r, o, h, e => by
    have h' : Rises es := by
      cases h with
      | one => exact .nil
      | cons _ _ _ _ _ _ _ _ _ g => exact g
    exact rises_some h' (k := k) e
theorem ok_tight_pairs {f f1 : Addr} {fd fd1 : FuncData} (T : Nm mg) (C_below : Has P w K mg base "below" 1 ["one", "other"] (spBelow K) f1 fd1) (F : Fun K "tight_pairs" "tight_pairs" s_tight_pairs f fd) : FnOk P w K mg base CX0 2 f fd ["uppers", "lowers"] (spPairs K) := by
  refine F.ok sc_tight_pairs (fun vs H Q E h => ?_) (fun cdv A outer s H vs Q E hr h => ?_)
  · obtain ⟨lu, ll, cu, cl, rfl, _⟩ := h
    rfl
  · obtain ⟨lu, ll, cu, cl, rfl, hu, hl, h⟩ := h
    refine ⟨_, (pss_cons (ps_if (PW.pt (pw_or (pt_not (pt_truth (pv 0) (by intro _; rfl))) (pw_or1 (pt_not (pt_truth (pv 1) (by intro _; rfl))))))
      (pss_one (ps_ret (pe_lst pa_nil)))
      pss_nil)
    (pss_cons (ps_asg2 pe_int (pg_name (i := 2) sc_tight_pairs.nd rfl (Or.inl rfl)) (pg_name (i := 3) sc_tight_pairs.nd rfl (Or.inl rfl)))
    (pss_cons (ps_set (i := 4) sc_tight_pairs.nd rfl (Or.inl rfl) (pe_lst (pa_cons (pe_tup (pa_cons (pe_ix ix_tup (pe_ix ix_list (pv 0) pe_int (fun _ _ => rfl)) pe_int (fun _ _ => rfl)) (pa_cons (pe_ix ix_tup (pe_ix ix_list (pv 1) pe_int (fun _ _ => rfl)) pe_int (fun _ _ => rfl)) pa_nil))) pa_nil)))
    (pss_cons (ps_while PassesOwn.never (PW.pt (pw_or (pt_cmpR op_lt (pe_op op_add (pv 2) pe_int) (pe_callB call_lenL (by rfl) T.len (by decide +kernel) (pa_cons (pv 0) pa_nil)) (nomark _)) (pw_or1 (pt_cmpR op_lt (pe_op op_add (pv 3) pe_int) (pe_callB call_lenL (by rfl) T.len (by decide +kernel) (pa_cons (pv 1) pa_nil)) (nomark _)))))
      (pss_cons (ps_set (i := 5) sc_tight_pairs.nd rfl (Or.inl rfl) (pe_cmpR op_lt (pe_op op_add (pv 2) pe_int) (pe_callB call_lenL (by rfl) T.len (by decide +kernel) (pa_cons (pv 0) pa_nil)) (nomark _)))
    (pss_cons (ps_if (PW.pt (pw_and (pt_truth (pv 5) (by intro _; rfl)) (pw_and1 (PW.pt (pw_or (pt_cmpR op_eq (pe_op op_add (pv 3) pe_int) (pe_callB call_lenL (by rfl) T.len (by decide +kernel) (pa_cons (pv 1) pa_nil)) (nomark _)) (pw_or1 (pt_val (pe_call C_below.G (hr.mono (by decide)) (by rfl) C_below.g C_below.k C_below.b .nil pass0 (pa_cons (pe_ix ix_tup (pe_ix ix_list (pv 0) (pe_op op_add (pv 2) pe_int) (fun _ _ => rfl)) pe_int (fun _ _ => rfl)) (pa_cons (pe_ix ix_tup (pe_ix ix_list (pv 1) (pe_op op_add (pv 3) pe_int) (fun _ _ => rfl)) pe_int (fun _ _ => rfl)) pa_nil))))))))))
      (pss_one (ps_set (i := 2) sc_tight_pairs.nd rfl (Or.inl rfl) (pe_op op_add (pv 2) pe_int)))
      (pss_one (ps_set (i := 3) sc_tight_pairs.nd rfl (Or.inl rfl) (pe_op op_add (pv 3) pe_int))))
    (pss_one (ps_expr (pe_bm PySem.F.plainAttrs_list PySem.F.slot_list_append PySem.F.type_list_append mt_append (pv 4) (pa_cons (pe_tup (pa_cons (pe_ix ix_tup (pe_ix ix_list (pv 0) (pv 2) (fun _ _ => rfl)) pe_int (fun _ _ => rfl)) (pa_cons (pe_ix ix_tup (pe_ix ix_list (pv 1) (pv 3) (fun _ _ => rfl)) pe_int (fun _ _ => rfl)) pa_nil))) pa_nil)))))))
    (pss_one (ps_ret (pv 4))))))), ?_⟩
    rcases h with ⟨he, q⟩ | ⟨U0, L0, us, ls, M, hcu, hcl, ru, rl, nu, nl, su, sl, h0, hM, q⟩
    · refine ⟨_, rfl, !cu.isEmpty, .inl ⟨cu, hu, rfl⟩, ?_⟩
      have out : ∀ p, H p = none → Q (.ref p) (upd H p (.lst [])) := fun p np => q p _ (same_upd np) np upd_same
      by_cases c1 : cu = []
      · subst c1
        exact iteT (iteT ⟨by show 0 ≤ sizeLine; decide, fun p np => out p np⟩)
      · have c2 : cl = [] := he.resolve_left c1
        subst c2
        cases cu with
        | nil => exact absurd rfl c1
        | cons z zs =>
          refine iteF ⟨_, rfl, false, .inl ⟨[], hl, rfl⟩, iteT ⟨by show 0 ≤ sizeLine; decide, fun p np => out p np⟩⟩
    · have eu := hcu.len
      have el := hcl.len
      rw [List.length_cons] at eu el
      obtain ⟨cu0, cus, rfl⟩ : ∃ x xs, cu = x :: xs := by cases cu with | nil => simp at eu | cons x xs => exact ⟨x, xs, rfl⟩
      obtain ⟨cl0, cls, rfl⟩ : ∃ x xs, cl = x :: xs := by cases cl with | nil => simp at el | cons x xs => exact ⟨x, xs, rfl⟩
      refine ⟨_, rfl, true, .inl ⟨_, hu, rfl⟩, iteF ⟨_, rfl, true, .inl ⟨_, hl, rfl⟩, iteF ?_⟩⟩
      obtain ⟨pu, u, s0, qu, ou, gu, tu, lu0, nu0, _, _⟩ := el_at hcu (Nat.zero_le _)
      obtain ⟨pl, l, s1, ql, ol, gl, tl, ll0, nl0, _, _⟩ := el_at hcl (Nat.zero_le _)
      refine ⟨_, rfl, lu, _, 0, _, rfl, rfl, hu, atI_nat gu, pu, _, 0, u, rfl, rfl, tu, rfl, ?_⟩
      refine ⟨_, rfl, ll, _, 0, _, rfl, rfl, hl, atI_nat gl, pl, _, 0, l, rfl, rfl, tl, rfl, ?_⟩
      refine ⟨by show 2 ≤ sizeLine; decide, fun p np => ?_⟩
      have S1 := same_upd (o := .tup [u, l]) np
      refine ⟨by show 1 ≤ sizeLine; decide, fun lf nlf => ?_⟩
      have nlf0 : H lf = none := by
        cases e : H lf with
        | none => rfl
        | some o =>
          rw [S1 _ _ e] at nlf
          cases nlf
      have S2 := S1.trans (same_upd (o := .lst [.ref p]) nlf)
      refine ⟨fun w σ H' => ∃ (i j : Nat) (f : List (Nat × Nat)) (ys : List V) (v5 : Option V), w = (us.length - i) + (ls.length - j) ∧ σ = [some (.ref lu), some (.ref ll), some (.int i), some (.int j), some (.ref lf), v5] ∧ Same H H' ∧ H' lf = some (.lst ys) ∧ LsV (PrV K (lns U0 us) (lns L0 ls) H') ys f ∧ Seen us ls i j f ∧ f.length ≤ i + j + 1,
        ⟨_, 0, 0, [(0, 0)], _, none, rfl, rfl, S2, upd_same, .cons ⟨p, u, l, qu, ql, rfl, Same.tup (same_upd nlf) (.inl (.inl upd_same)), nu0, nl0, LnV.same S2 lu0, LnV.same S2 ll0⟩ .nil, Seen.start, Nat.le_refl 1⟩, ?_⟩
      rintro w σ H4 ⟨i, j, f, ys, v5, rfl, rfl, S4, hf4, hy4, G, nf⟩
      have ny4 := hy4.len
      have gi := G.1
      have gj := G.2.1
      have cu4 := hcu.map fun _ _ => ElV.same S4
      have cl4 := hcl.map fun _ _ => ElV.same S4
      refine ⟨_, rfl, _, _, rfl, rfl, _, rfl, lu, _, rfl, S4.seq hu, _, _, rfl, rfl, _, rfl, ite2 (fun c => ?_) (fun c => ?_)⟩
      · have c' : (i : Int) + 1 < ((cu0 :: cus).length : Int) := of_decide_eq_true c
        have il : i < us.length := by omega
        refine iteT ⟨fun σ' H' => ∃ m', m' < _ ∧ _, fun _ _ h => h, ?_⟩
        refine ⟨_, rfl, _, _, rfl, rfl, _, rfl, lu, _, rfl, S4.seq hu, _, _, rfl, rfl, ?_⟩
        refine ⟨_, rfl, true, ?_, iteT ?_⟩
        · show true = decide _
          exact c.symm
        obtain ⟨pa, ua, sa, qa, oa, ga, ta, la, na, ea, wa⟩ := el_at cu4 (i := i + 1) il
        have ea' : us[i]? = some (qa, oa) := ea
        obtain ⟨p, d, rfl, d0⟩ := rises_some ru ea'
        have sza := su _ (List.mem_of_getElem? ea') p d rfl
        refine ⟨_, rfl, _, _, rfl, rfl, _, rfl, ll, _, rfl, S4.seq hl, rfl, _, rfl, ite2 (fun c3 => ?_) (fun c3 => ?_)⟩
        · have c3' : (j : Int) + 1 = ((cl0 :: cls).length : Int) := by
            have z := of_decide_eq_true c3
            injection z
          have je : j = ls.length := by omega
          refine iteT ?_
          have G2 := G.upper ru rl ea' (.inl je)
          obtain ⟨pu2, u2, s2, qu2, ou2, gu2, tu2, lu2, nu2, _, _⟩ := el_at (hcu.map fun _ _ => ElV.same S4) G2.1
          obtain ⟨pl2, l2, s3, ql2, ol2, gl2, tl2, ll2, nl2, _, _⟩ := el_at (hcl.map fun _ _ => ElV.same S4) G2.2.1
          refine ⟨_, rfl, _, _, rfl, rfl, ?_⟩
          refine ⟨_, rfl, .inl ⟨rfl, _, .inl (.inl hf4)⟩, ?_⟩
          refine ⟨_, rfl, _, rfl, lu, _, ((i + 1 : Nat) : Int), _, rfl, rfl, S4.seq hu, atI_nat gu2, pu2, _, 0, u2, rfl, rfl, tu2, rfl, ?_⟩
          refine ⟨_, rfl, _, rfl, ll, _, ((j : Nat) : Int), _, rfl, rfl, S4.seq hl, atI_nat gl2, pl2, _, 0, l2, rfl, rfl, tl2, rfl, ?_⟩
          refine ⟨by show 2 ≤ sizeLine; decide, fun pn nn => ?_⟩
          have Sn := same_upd (o := .tup [u2, l2]) nn
          have hfn := Sn _ _ hf4
          have Kn := Keep.upd lf (upd H4 pn (.tup [u2, l2])) (.lst (ys ++ [.ref pn]))
          refine ⟨lf, ys, .ref pn, rfl, rfl, hfn, small1000 (by omega), ?_⟩
          refine ⟨_, ?_, i + 1, j, f ++ [(i + 1, j)], ys ++ [.ref pn], _, rfl, rfl, same_over (S4.trans Sn) nlf0, upd_same, (hy4.map fun _ _ y => PrV.keep Kn hfn (PrV.same Sn y)).app (.cons ⟨pn, u2, l2, qu2, ql2, rfl, Kn.tupD hfn (.inl (.inl upd_same)), nu2, nl2, LnV.keep Kn hfn (LnV.same Sn lu2), LnV.keep Kn hfn (LnV.same Sn ll2)⟩ .nil), G2, ?_⟩
          · omega
          · rw [List.length_append]
            show f.length + 1 ≤ _
            omega
        · have c3' : ¬ (j : Int) + 1 = ((cl0 :: cls).length : Int) := fun z => c3 (decide_eq_true (by show V.int ((j : Int) + 1) = V.int _; rw [z]))
          have jl : j < ls.length := by omega
          obtain ⟨pb, ub, sb, qb, ob, gb, tb, lb, nb, eb, wb⟩ := el_at cl4 (i := j + 1) jl
          have eb' : ls[j]? = some (qb, ob) := eb
          obtain ⟨p', d', rfl, d0'⟩ := rises_some rl eb'
          have szb := sl _ (List.mem_of_getElem? eb') p' d' rfl
          refine ⟨_, rfl, _, rfl, _, _, rfl, rfl, lu, _, ((i + 1 : Nat) : Int), _, rfl, rfl, S4.seq hu, atI_nat ga, pa, _, 1, sa, rfl, rfl, ta, rfl, ?_⟩
          refine ⟨_, rfl, _, rfl, _, _, rfl, rfl, ll, _, ((j + 1 : Nat) : Int), _, rfl, rfl, S4.seq hl, atI_nat gb, pb, _, 1, sb, rfl, rfl, tb, rfl, ?_⟩
          refine ⟨sa, sb, p, d, p', d', M, rfl, wa _ rfl, wb _ rfl, h0, hM, sza.1, sza.2, szb.1, szb.2, ?_⟩
          refine ⟨_, rfl, ite2 (fun c4 => ?_) (fun c4 => ?_)⟩
          · have c4' := of_decide_eq_true c4
            have G2 := G.upper ru rl ea' (.inr ⟨qb, p', d', eb', d0, d0', Int.le_of_lt c4'⟩)
            obtain ⟨pu2, u2, s2, qu2, ou2, gu2, tu2, lu2, nu2, _, _⟩ := el_at (hcu.map fun _ _ => ElV.same S4) G2.1
            obtain ⟨pl2, l2, s3, ql2, ol2, gl2, tl2, ll2, nl2, _, _⟩ := el_at (hcl.map fun _ _ => ElV.same S4) G2.2.1
            refine ⟨_, rfl, _, _, rfl, rfl, ?_⟩
            refine ⟨_, rfl, .inl ⟨rfl, _, .inl (.inl hf4)⟩, ?_⟩
            refine ⟨_, rfl, _, rfl, lu, _, ((i + 1 : Nat) : Int), _, rfl, rfl, S4.seq hu, atI_nat gu2, pu2, _, 0, u2, rfl, rfl, tu2, rfl, ?_⟩
            refine ⟨_, rfl, _, rfl, ll, _, ((j : Nat) : Int), _, rfl, rfl, S4.seq hl, atI_nat gl2, pl2, _, 0, l2, rfl, rfl, tl2, rfl, ?_⟩
            refine ⟨by show 2 ≤ sizeLine; decide, fun pn nn => ?_⟩
            have Sn := same_upd (o := .tup [u2, l2]) nn
            have hfn := Sn _ _ hf4
            have Kn := Keep.upd lf (upd H4 pn (.tup [u2, l2])) (.lst (ys ++ [.ref pn]))
            refine ⟨lf, ys, .ref pn, rfl, rfl, hfn, small1000 (by omega), ?_⟩
            refine ⟨_, ?_, i + 1, j, f ++ [(i + 1, j)], ys ++ [.ref pn], _, rfl, rfl, same_over (S4.trans Sn) nlf0, upd_same, (hy4.map fun _ _ y => PrV.keep Kn hfn (PrV.same Sn y)).app (.cons ⟨pn, u2, l2, qu2, ql2, rfl, Kn.tupD hfn (.inl (.inl upd_same)), nu2, nl2, LnV.keep Kn hfn (LnV.same Sn lu2), LnV.keep Kn hfn (LnV.same Sn ll2)⟩ .nil), G2, ?_⟩
            · omega
            · rw [List.length_append]
              show f.length + 1 ≤ _
              omega
          · have c4' : ¬ p * d' < p' * d := fun z => c4 (decide_eq_true z)
            have G2 := G.lower ru rl eb' (.inr ⟨qa, p, d, ea', d0', d0, Int.not_lt.mp c4'⟩)
            obtain ⟨pu2, u2, s2, qu2, ou2, gu2, tu2, lu2, nu2, _, _⟩ := el_at (hcu.map fun _ _ => ElV.same S4) G2.1
            obtain ⟨pl2, l2, s3, ql2, ol2, gl2, tl2, ll2, nl2, _, _⟩ := el_at (hcl.map fun _ _ => ElV.same S4) G2.2.1
            refine ⟨_, rfl, _, _, rfl, rfl, ?_⟩
            refine ⟨_, rfl, .inl ⟨rfl, _, .inl (.inl hf4)⟩, ?_⟩
            refine ⟨_, rfl, _, rfl, lu, _, ((i : Nat) : Int), _, rfl, rfl, S4.seq hu, atI_nat gu2, pu2, _, 0, u2, rfl, rfl, tu2, rfl, ?_⟩
            refine ⟨_, rfl, _, rfl, ll, _, ((j + 1 : Nat) : Int), _, rfl, rfl, S4.seq hl, atI_nat gl2, pl2, _, 0, l2, rfl, rfl, tl2, rfl, ?_⟩
            refine ⟨by show 2 ≤ sizeLine; decide, fun pn nn => ?_⟩
            have Sn := same_upd (o := .tup [u2, l2]) nn
            have hfn := Sn _ _ hf4
            have Kn := Keep.upd lf (upd H4 pn (.tup [u2, l2])) (.lst (ys ++ [.ref pn]))
            refine ⟨lf, ys, .ref pn, rfl, rfl, hfn, small1000 (by omega), ?_⟩
            refine ⟨_, ?_, i, j + 1, f ++ [(i, j + 1)], ys ++ [.ref pn], _, rfl, rfl, same_over (S4.trans Sn) nlf0, upd_same, (hy4.map fun _ _ y => PrV.keep Kn hfn (PrV.same Sn y)).app (.cons ⟨pn, u2, l2, qu2, ql2, rfl, Kn.tupD hfn (.inl (.inl upd_same)), nu2, nl2, LnV.keep Kn hfn (LnV.same Sn lu2), LnV.keep Kn hfn (LnV.same Sn ll2)⟩ .nil), G2, ?_⟩
            · omega
            · rw [List.length_append]
              show f.length + 1 ≤ _
              omega
      · have c' : ¬ (i : Int) + 1 < ((cu0 :: cus).length : Int) := fun z => c (decide_eq_true z)
        have ie : i = us.length := by omega
        refine ⟨_, rfl, _, _, rfl, rfl, _, rfl, ll, _, rfl, S4.seq hl, _, _, rfl, rfl, _, rfl, ite2 (fun c2 => ?_) (fun c2 => ?_)⟩
        · have c2' : (j : Int) + 1 < ((cl0 :: cls).length : Int) := of_decide_eq_true c2
          have jl : j < ls.length := by omega
          obtain ⟨pb, ub, sb, qb, ob, gb, tb, lb, nb, eb, wb⟩ := el_at cl4 (i := j + 1) jl
          have eb' : ls[j]? = some (qb, ob) := eb
          obtain ⟨p', d', rfl, d0'⟩ := rises_some rl eb'
          refine ⟨fun σ' H' => ∃ m', m' < _ ∧ _, fun _ _ h => h, ?_⟩
          refine ⟨_, rfl, _, _, rfl, rfl, _, rfl, lu, _, rfl, S4.seq hu, _, _, rfl, rfl, ?_⟩
          refine ⟨_, rfl, false, ?_, iteF (iteF ?_)⟩
          · show false = decide _
            exact (decide_eq_false c').symm
          have G2 := G.lower ru rl eb' (.inl ie)
          obtain ⟨pu2, u2, s2, qu2, ou2, gu2, tu2, lu2, nu2, _, _⟩ := el_at (hcu.map fun _ _ => ElV.same S4) G2.1
          obtain ⟨pl2, l2, s3, ql2, ol2, gl2, tl2, ll2, nl2, _, _⟩ := el_at (hcl.map fun _ _ => ElV.same S4) G2.2.1
          refine ⟨_, rfl, _, _, rfl, rfl, ?_⟩
          refine ⟨_, rfl, .inl ⟨rfl, _, .inl (.inl hf4)⟩, ?_⟩
          refine ⟨_, rfl, _, rfl, lu, _, ((i : Nat) : Int), _, rfl, rfl, S4.seq hu, atI_nat gu2, pu2, _, 0, u2, rfl, rfl, tu2, rfl, ?_⟩
          refine ⟨_, rfl, _, rfl, ll, _, ((j + 1 : Nat) : Int), _, rfl, rfl, S4.seq hl, atI_nat gl2, pl2, _, 0, l2, rfl, rfl, tl2, rfl, ?_⟩
          refine ⟨by show 2 ≤ sizeLine; decide, fun pn nn => ?_⟩
          have Sn := same_upd (o := .tup [u2, l2]) nn
          have hfn := Sn _ _ hf4
          have Kn := Keep.upd lf (upd H4 pn (.tup [u2, l2])) (.lst (ys ++ [.ref pn]))
          refine ⟨lf, ys, .ref pn, rfl, rfl, hfn, small1000 (by omega), ?_⟩
          refine ⟨_, ?_, i, j + 1, f ++ [(i, j + 1)], ys ++ [.ref pn], _, rfl, rfl, same_over (S4.trans Sn) nlf0, upd_same, (hy4.map fun _ _ y => PrV.keep Kn hfn (PrV.same Sn y)).app (.cons ⟨pn, u2, l2, qu2, ql2, rfl, Kn.tupD hfn (.inl (.inl upd_same)), nu2, nl2, LnV.keep Kn hfn (LnV.same Sn lu2), LnV.keep Kn hfn (LnV.same Sn ll2)⟩ .nil), G2, ?_⟩
          · omega
          · rw [List.length_append]
            show f.length + 1 ≤ _
            omega
        · have c2' : ¬ (j : Int) + 1 < ((cl0 :: cls).length : Int) := fun z => c2 (decide_eq_true z)
          have je : j = ls.length := by omega
          subst ie
          subst je
          exact ⟨_, rfl, q lf ys f H4 S4 nlf0 hf4 hy4 (by omega) fun X D hD => G.done X D hD⟩
end
end K29

namespace K29
open PySem PySem.Spec PyProof.Rows L2 My
local macro_rules | `(tactic| walk_at "side") => `(tactic| (first
  | assumption
  | (refine OkMod.mk ?_; omega)
  | (refine mulOkL ?_ ?_ <;> omega)
  | (refine mulOkR ?_ ?_ <;> omega)
  | (refine divOk ?_ ?_ <;> omega)))
local macro_rules | `(tactic| walk_at "rd") => `(tactic| (first
  | with_reducible refine ⟨_, rfl, ?_⟩
  | refine ⟨_, rfl, ?_⟩
  | refine ⟨_, _, rfl, rfl, ?_⟩
  | refine And.intro (by walk_at "side") ?_
  | refine ⟨_, _, rfl, asm (by assumption), ?_⟩
  | refine ⟨_, _, rfl, asm ?_⟩))
section
variable {P : Program} {w : World} {K : PySem.W.Frag} {mg : Str → Option Value} {base : Heap}

/-! ### weights of rows: what they add up to -/
def rowAt (rs : List LineR) (n : Int) : LineR := (rs[n.toNat]?).getD (0, 0, 0)
def dotw (f : LineR → Int) : List Int → List LineR → Int
  | w :: ws, r :: rs => w * f r + dotw f ws rs
  | _, _ => 0
def psum (f : LineR → Int) (rs : List LineR) (ps : List (Int × Int)) : Int := (ps.map fun p => p.2 * f (rowAt rs p.1)).sum
theorem psum_cons (f : LineR → Int) (rs : List LineR) (p : Int × Int) (ps : List (Int × Int)) : psum f rs (p :: ps) = p.2 * f (rowAt rs p.1) + psum f rs ps := rfl
theorem psum_nil (f : LineR → Int) (rs : List LineR) : psum f rs [] = 0 := rfl
theorem psum_app (f : LineR → Int) (rs : List LineR) (ps qs : List (Int × Int)) : psum f rs (ps ++ qs) = psum f rs ps + psum f rs qs := by
  unfold psum
  rw [List.map_append, List.sum_append]
theorem psum_times (f : LineR → Int) (rs : List LineR) (k : Int) : ∀ ps : List (Int × Int), psum f rs (ps.map fun p => (p.1, p.2 * k)) = psum f rs ps * k
  | [] => by
    show (0 : Int) = 0 * k
    rw [Int.zero_mul]
  | p :: ps => by
    show p.2 * k * f (rowAt rs p.1) + psum f rs (ps.map fun p => (p.1, p.2 * k)) = _
    rw [psum_times f rs k ps, psum_cons, Int.add_mul, Int.mul_right_comm]
theorem dotw_set (f : LineR → Int) : ∀ (ws : List Int) (rs : List LineR) (i : Nat) (k : Int), i < ws.length → ws.length = rs.length → dotw f (ws.set i ((ws[i]?).getD 0 + k)) rs = dotw f ws rs + k * f ((rs[i]?).getD (0, 0, 0))
  | w :: ws, r :: rs, 0, k, _, _ => by
    show (w + k) * f r + dotw f ws rs = w * f r + dotw f ws rs + k * f r
    rw [Int.add_mul]
    omega
  | w :: ws, r :: rs, i + 1, k, hi, hl => by
    show w * f r + dotw f (ws.set i ((ws[i]?).getD 0 + k)) rs = w * f r + dotw f ws rs + k * f ((rs[i]?).getD (0, 0, 0))
    rw [dotw_set f ws rs i k (Nat.lt_of_succ_lt_succ hi) (Nat.succ.inj hl)]
    omega
  | [], _, i, _, hi, _ => absurd hi (Nat.not_lt_zero i)
  | _ :: _, [], _, _, _, hl => absurd hl (Nat.succ_ne_zero _)
theorem dotw_zero (f : LineR → Int) : ∀ (n : Nat) (rs : List LineR), dotw f (List.replicate n 0) rs = 0
  | 0, _ => rfl
  | n + 1, [] => rfl
  | n + 1, r :: rs => by
    show 0 * f r + dotw f (List.replicate n 0) rs = 0
    rw [dotw_zero f n rs, Int.zero_mul]
    rfl
/-- parts whose numbers are rows -/
def InRows (rs : List LineR) (ps : List (Int × Int)) : Prop := ∀ p ∈ ps, 0 ≤ p.1 ∧ p.1 < rs.length
theorem dotw_fold (f : LineR → Int) (rs : List LineR) : ∀ (ps : List (Int × Int)) (ws : List Int), ws.length = rs.length → InRows rs ps → dotw f (ps.foldl addAt ws) rs = dotw f ws rs + psum f rs ps
  | [], ws, _, _ => (Int.add_zero _).symm
  | p :: ps, ws, hl, hp => by
    have h := hp p List.mem_cons_self
    show dotw f (ps.foldl addAt (addAt ws p)) rs = _
    rw [dotw_fold f rs ps _ ((addAt_len ws p).trans hl) (fun q hq => hp q (List.mem_cons_of_mem _ hq)), psum_cons]
    unfold addAt
    rw [dotw_set f ws rs p.1.toNat p.2 (by omega) hl]
    unfold rowAt
    omega
theorem dotw_wsum (f : LineR → Int) (rs : List LineR) (ps : List (Int × Int)) (h : InRows rs ps) : dotw f (wsum rs.length ps) rs = psum f rs ps := by
  unfold wsum
  rw [dotw_fold f rs ps _ (List.length_replicate ..) h, dotw_zero, Int.zero_add]
theorem dotw_div (f : LineR → Int) {g : Int} : ∀ (ws : List Int) (rs : List LineR), (∀ w ∈ ws, g ∣ w) → dotw f (ws.map fun z => z / g) rs * g = dotw f ws rs
  | [], _, _ => Int.zero_mul g
  | _ :: _, [], _ => Int.zero_mul g
  | w :: ws, r :: rs, h => by
    show (w / g * f r + dotw f (ws.map fun z => z / g) rs) * g = w * f r + dotw f ws rs
    rw [Int.add_mul, dotw_div f ws rs fun v hv => h v (List.mem_cons_of_mem _ hv), Int.mul_right_comm, Int.ediv_mul_cancel (h w List.mem_cons_self)]
theorem gcd_fold_dvd : ∀ (ws : List Int) (g : Nat), ws.foldl (fun g w => Nat.gcd g w.natAbs) g ∣ g ∧ ∀ w ∈ ws, ws.foldl (fun g w => Nat.gcd g w.natAbs) g ∣ w.natAbs
  | [], g => ⟨Nat.dvd_refl g, fun _ h => (List.not_mem_nil h).elim⟩
  | w :: ws, g => by
    obtain ⟨h1, h2⟩ := gcd_fold_dvd ws (Nat.gcd g w.natAbs)
    refine ⟨Nat.dvd_trans h1 (Nat.gcd_dvd_left ..), fun v hv => ?_⟩
    rcases List.mem_cons.mp hv with rfl | hv
    · exact Nat.dvd_trans h1 (Nat.gcd_dvd_right ..)
    · exact h2 v hv
theorem gcdAll_dvd (ws : List Int) : ∀ w ∈ ws, (gcdAll ws : Int) ∣ w := fun w hw => Int.ofNat_dvd_left.mpr ((gcd_fold_dvd ws 0).2 w hw)
theorem gcdAll_pos {ws : List Int} {w : Int} (hw : w ∈ ws) (h : w ≠ 0) : 0 < gcdAll ws := by
  rcases Nat.eq_zero_or_pos (gcdAll ws) with z | z
  · have d := (gcd_fold_dvd ws 0).2 w hw
    have e : ws.foldl (fun g w => Nat.gcd g w.natAbs) 0 = gcdAll ws := rfl
    rw [e, z, Nat.zero_dvd] at d
    omega
  · exact z
theorem gcdAll_le {ws : List Int} {w : Int} (hw : w ∈ ws) (h : w ≠ 0) : gcdAll ws ≤ w.natAbs := Nat.le_of_dvd (by omega) ((gcd_fold_dvd ws 0).2 w hw)
/-- how many are not 0 -/
def nz (ws : List Int) : Nat := (ws.filter fun w => decide (w ≠ 0)).length
theorem nz_cons (w : Int) (ws : List Int) : nz (w :: ws) = (if w ≠ 0 then 1 else 0) + nz ws := by
  unfold nz
  rw [List.filter_cons]
  split
  · rename_i h
    rw [if_pos (of_decide_eq_true h), List.length_cons]
    omega
  · rename_i h
    rw [if_neg (fun z => h (decide_eq_true z))]
    omega
theorem nz_set : ∀ (ws : List Int) (i : Nat) (k : Int), nz (ws.set i k) ≤ nz ws + 1
  | [], _, _ => Nat.zero_le _
  | w :: ws, 0, k => by
    show nz (k :: ws) ≤ _
    rw [nz_cons, nz_cons]
    split <;> split <;> omega
  | w :: ws, i + 1, k => by
    show nz (w :: ws.set i k) ≤ _
    rw [nz_cons, nz_cons]
    have := nz_set ws i k
    omega
theorem nz_fold : ∀ (ps : List (Int × Int)) (ws : List Int), nz (ps.foldl addAt ws) ≤ nz ws + ps.length
  | [], _ => Nat.le_refl _
  | p :: ps, ws => by
    have a := nz_fold ps (addAt ws p)
    have b := nz_set ws p.1.toNat ((ws[p.1.toNat]?).getD 0 + p.2)
    show nz (ps.foldl addAt (addAt ws p)) ≤ _
    rw [List.length_cons]
    unfold addAt at *
    omega
theorem nz_zero (n : Nat) : nz (List.replicate n 0) = 0 := by
  unfold nz
  rw [List.filter_eq_nil_iff.mpr]
  · rfl
  · intro w hw
    rw [(List.mem_replicate.mp hw).2]
    decide
theorem nz_wsum (n : Nat) (ps : List (Int × Int)) : nz (wsum n ps) ≤ ps.length := by
  have := nz_fold ps (List.replicate n 0)
  rw [nz_zero] at this
  unfold wsum
  omega
theorem nz_div {g : Int} : ∀ ws : List Int, nz (ws.map fun z => z / g) ≤ nz ws
  | [] => Nat.le_refl _
  | w :: ws => by
    show nz (w / g :: ws.map fun z => z / g) ≤ _
    rw [nz_cons, nz_cons]
    have := nz_div (g := g) ws
    by_cases h : w = 0
    · subst h
      rw [Int.zero_ediv, if_neg (by simp)]
      omega
    · rw [if_pos h]
      split <;> omega
theorem fold_nonneg : ∀ (ps : List (Int × Int)) (ws : List Int), (∀ w ∈ ws, 0 ≤ w) → (∀ p ∈ ps, 0 ≤ p.2) → ∀ w ∈ ps.foldl addAt ws, 0 ≤ w
  | [], _, h, _ => h
  | p :: ps, ws, h, hp => by
    refine fold_nonneg ps (addAt ws p) (fun w hw => ?_) (fun q hq => hp q (List.mem_cons_of_mem _ hq))
    rcases List.mem_or_eq_of_mem_set hw with z | z
    · exact h w z
    · subst z
      have a := hp p List.mem_cons_self
      cases e : ws[p.1.toNat]? with
      | none =>
        show 0 ≤ 0 + p.2
        omega
      | some v =>
        have b := h v (List.mem_of_getElem? e)
        show 0 ≤ v + p.2
        omega
theorem wsum_nonneg (n : Nat) {ps : List (Int × Int)} (hp : ∀ p ∈ ps, 0 ≤ p.2) : ∀ w ∈ wsum n ps, 0 ≤ w := fold_nonneg ps _ (fun w hw => by rw [(List.mem_replicate.mp hw).2]; exact Int.le_refl 0) hp
/-- weights that show that the rows are empty -/
structure Emp (rs : List LineR) (ws : List Int) : Prop where
  len : ws.length = rs.length
  pos : ∀ w ∈ ws, 0 ≤ w
  a : dotw (fun r => r.1) ws rs = 0
  b : dotw (fun r => r.2.1) ws rs = 0
  c : dotw (fun r => r.2.2) ws rs < 0
/-- the program's weights of parts that add up to nothing but a number below 0 -/
def wOf (n : Nat) (ps : List (Int × Int)) : List Int := (wsum n ps).map fun z => z / (gcdAll (wsum n ps) : Int)
theorem some_nz (f : LineR → Int) : ∀ (ws : List Int) (rs : List LineR), dotw f ws rs ≠ 0 → ∃ w ∈ ws, w ≠ 0
  | [], _, h => absurd rfl h
  | _ :: _, [], h => absurd rfl h
  | w :: ws, r :: rs, h => by
    by_cases z : w = 0
    · subst z
      have e : dotw f (0 :: ws) (r :: rs) = dotw f ws rs := by
        show 0 * f r + dotw f ws rs = _
        rw [Int.zero_mul, Int.zero_add]
      rw [e] at h
      obtain ⟨v, hv, n⟩ := some_nz f ws rs h
      exact ⟨v, List.mem_cons_of_mem _ hv, n⟩
    · exact ⟨w, List.mem_cons_self, z⟩
theorem emp_of {rs : List LineR} {ps : List (Int × Int)} (hp : InRows rs ps) (h0 : ∀ p ∈ ps, 0 ≤ p.2) (ha : psum (fun r => r.1) rs ps = 0) (hb : psum (fun r => r.2.1) rs ps = 0) (hc : psum (fun r => r.2.2) rs ps < 0) :
    0 < gcdAll (wsum rs.length ps) ∧ Emp rs (wOf rs.length ps) ∧ nz (wOf rs.length ps) ≤ ps.length := by
  have dv := gcdAll_dvd (wsum rs.length ps)
  have ec := dotw_wsum (fun r => r.2.2) rs ps hp
  obtain ⟨w, hw, wn⟩ := some_nz (fun r => r.2.2) (wsum rs.length ps) rs (by omega)
  have g0 := gcdAll_pos hw wn
  have key := fun f => dotw_div f (wsum rs.length ps) rs dv
  refine ⟨g0, ⟨?_, ?_, ?_, ?_, ?_⟩, ?_⟩
  · unfold wOf
    rw [List.length_map, wsum_len]
  · intro v hv
    obtain ⟨u, hu, e⟩ := List.mem_map.mp hv
    have := wsum_nonneg rs.length h0 u hu
    rw [← e]
    exact Int.ediv_nonneg this (by omega)
  · have k := key fun r => r.1
    rw [dotw_wsum _ rs ps hp, ha] at k
    rcases Int.mul_eq_zero.mp k with z | z
    · exact z
    · omega
  · have k := key fun r => r.2.1
    rw [dotw_wsum _ rs ps hp, hb] at k
    rcases Int.mul_eq_zero.mp k with z | z
    · exact z
    · omega
  · have k := key fun r => r.2.2
    rw [ec] at k
    apply Int.not_le.mp
    intro z
    have := Int.mul_nonneg z (show 0 ≤ (gcdAll (wsum rs.length ps) : Int) by omega)
    unfold wOf at this
    omega
  · exact Nat.le_trans (nz_div _) (nz_wsum _ _)
end
end K29

namespace K29
open PySem PySem.Spec PyProof.Rows L2 My
local macro_rules | `(tactic| walk_at "side") => `(tactic| (first
  | assumption
  | (refine OkMod.mk ?_; omega)
  | (refine mulOkL ?_ ?_ <;> omega)
  | (refine mulOkR ?_ ?_ <;> omega)
  | (refine divOk ?_ ?_ <;> omega)))
local macro_rules | `(tactic| walk_at "rd") => `(tactic| (first
  | with_reducible refine ⟨_, rfl, ?_⟩
  | refine ⟨_, rfl, ?_⟩
  | refine ⟨_, _, rfl, rfl, ?_⟩
  | refine And.intro (by walk_at "side") ?_
  | refine ⟨_, _, rfl, asm (by assumption), ?_⟩
  | refine ⟨_, _, rfl, asm ?_⟩))
section
variable {P : Program} {w : World} {K : PySem.W.Frag} {mg : Str → Option Value} {base : Heap}

/-! ### an outline's ends -/
/-- a x is at most c, which these parts of the rows add up to -/
abbrev Bdy := Int × Int × List (Int × Int)
structure BdOk (rs : List LineR) (M : Nat) (b : Bdy) : Prop where
  rows : InRows rs b.2.2
  pos : ∀ p ∈ b.2.2, 0 < p.2
  sz : ∀ p ∈ b.2.2, Sz M p.2
  sa : psum (fun r => r.1) rs b.2.2 = b.1
  sb : psum (fun r => r.2.1) rs b.2.2 = 0
  sc : psum (fun r => r.2.2) rs b.2.2 = b.2.1
  len : b.2.2.length ≤ 2
  bn : b.2.2.length = 2 → ∀ p ∈ b.2.2, (rowAt rs p.1).2.1 ≠ 0
  za : Sz M b.1
  zc : Sz M b.2.1
def stepHi (h : Option Bdy) (b : Bdy) : Option Bdy := match h with
  | none => if 0 < b.1 then some b else none
  | some h => if 0 < b.1 ∧ b.2.1 * h.1 < h.2.1 * b.1 then some b else some h
def stepLo (l : Option Bdy) (b : Bdy) : Option Bdy := match l with
  | none => if b.1 < 0 then some b else none
  | some l => if b.1 < 0 ∧ -l.2.1 * -b.1 < -b.2.1 * -l.1 then some b else some l
def stepW (n : Nat) (w : Option (List Int)) (b : Bdy) : Option (List Int) := if b.1 = 0 ∧ b.2.1 < 0 then some (wOf n b.2.2) else w
/-- an end in its attribute, with its parts -/
def EndV (K : PySem.W.Frag) (H : Hp) (v : V) (pl : Addr) (neg : Bool) : Option Bdy → Prop
  | none => v = .non
  | some b => PairV K H v (if neg then (-b.2.1, -b.1) else (b.2.1, b.1)) ∧ ∃ xs, SqL K H pl xs ∧ LsV (PairV K H) xs b.2.2
def WV (H : Hp) (v : V) : Option (List Int) → Prop
  | none => v = .non
  | some ws => ∃ p, v = .ref p ∧ H p = some (.lst (ws.map V.int))
def OutAt (K : PySem.W.Frag) (H : Hp) (C x u l : Addr) (lo hi : Option Bdy) (W : Option (List Int)) : Prop := ∃ dx vlo plo vhi phi vw,
  H x = some (.ins C dx [("uppers", .ref u), ("lowers", .ref l), ("low", vlo), ("low_parts", .ref plo), ("high", vhi), ("high_parts", .ref phi), ("weights", vw)]) ∧ EndV K H vlo plo true lo ∧ EndV K H vhi phi false hi ∧ WV H vw W
structure OutC (K : PySem.W.Frag) (C : Addr) : Prop where
  cl : Cls K C
  nu : NoAttr K C "uppers"
  nl : NoAttr K C "lowers"
  no : NoAttr K C "low"
  nop : NoAttr K C "low_parts"
  nh : NoAttr K C "high"
  nhp : NoAttr K C "high_parts"
  nw : NoAttr K C "weights"
section
variable {H H' : Hp} {x C dx : Addr} {fs : List (Str × V)}
theorem insL {a : Addr} {xs : List V} (e : Keep x H H') (hx : H x = some (.ins C dx fs)) (h : SqL K H a xs) : SqL K H' a xs := by
  have ne : ∀ o, H a = some o → (∀ c d f, o ≠ .ins c d f) → a ≠ x := fun o ho hn z => by
    rw [z, hx] at ho
    exact hn _ _ _ (Option.some.inj ho).symm
  rcases h with (h | ⟨o, h⟩) | h
  · exact .inl (.inl (e _ _ (ne _ h fun _ _ _ z => nomatch z) h))
  · exact .inl (.inr ⟨o, e _ _ (ne _ h fun _ _ _ z => nomatch z) h⟩)
  · exact .inr h
theorem insT {a : Addr} {xs : List V} (e : Keep x H H') (hx : H x = some (.ins C dx fs)) (h : SqT K H a xs) : SqT K H' a xs := by
  have ne : ∀ o, H a = some o → (∀ c d f, o ≠ .ins c d f) → a ≠ x := fun o ho hn z => by
    rw [z, hx] at ho
    exact hn _ _ _ (Option.some.inj ho).symm
  rcases h with (h | ⟨o, h⟩) | h
  · exact .inl (.inl (e _ _ (ne _ h fun _ _ _ z => nomatch z) h))
  · exact .inl (.inr ⟨o, e _ _ (ne _ h fun _ _ _ z => nomatch z) h⟩)
  · exact .inr h
theorem insP {v : V} {q : Int × Int} (e : Keep x H H') (hx : H x = some (.ins C dx fs)) : PairV K H v q → PairV K H' v q := fun ⟨p, h, t⟩ => ⟨p, h, insT e hx t⟩
theorem insLP {vs : List V} {qs : List (Int × Int)} (e : Keep x H H') (hx : H x = some (.ins C dx fs)) (h : LsV (PairV K H) vs qs) : LsV (PairV K H') vs qs := h.map fun _ _ y => insP e hx y
theorem EndV.ins {v : V} {pl : Addr} {neg : Bool} (e : Keep x H H') (hx : H x = some (.ins C dx fs)) : ∀ {b : Option Bdy}, EndV K H v pl neg b → EndV K H' v pl neg b
  | none, h => h
  | some _, ⟨h, xs, hl, hp⟩ => ⟨insP e hx h, xs, insL e hx hl, insLP e hx hp⟩
theorem EndV.same {v : V} {pl : Addr} {neg : Bool} (e : Same H H') : ∀ {b : Option Bdy}, EndV K H v pl neg b → EndV K H' v pl neg b
  | none, h => h
  | some _, ⟨h, xs, hl, hp⟩ => ⟨PairV.same e h, xs, e.seq hl, hp.map fun _ _ y => PairV.same e y⟩
theorem WV.ins {v : V} (e : Keep x H H') (hx : H x = some (.ins C dx fs)) : ∀ {w : Option (List Int)}, WV H v w → WV H' v w
  | none, h => h
  | some _, ⟨p, h, hp⟩ => ⟨p, h, e _ _ (fun z => by rw [z, hx] at hp; cases hp) hp⟩
theorem WV.same {v : V} (e : Same H H') : ∀ {w : Option (List Int)}, WV H v w → WV H' v w
  | none, h => h
  | some _, ⟨p, h, hp⟩ => ⟨p, h, e _ _ hp⟩
theorem OutAt.same {u l : Addr} {lo hi : Option Bdy} {W : Option (List Int)} (e : Same H H') : OutAt K H C x u l lo hi W → OutAt K H' C x u l lo hi W :=
  fun ⟨dx, vlo, plo, vhi, phi, vw, h, a, b, c⟩ => ⟨dx, vlo, plo, vhi, phi, vw, e _ _ h, a.same e, b.same e, c.same e⟩
end
def spBoundO (K : PySem.W.Frag) (C : Addr) : Sp := fun vs H Q _ => ∃ (x r u l : Addr) (xs : List V) (rs : List LineR) (M : Nat) (b : Bdy) (pl : Addr) (ys : List V) (lo hi : Option Bdy) (W : Option (List Int)), vs = [.ref x, .ref r, .int b.1, .int b.2.1, .ref pl] ∧
  SqA K H r xs ∧ xs.length = rs.length ∧ rs.length ≤ 100 ∧ SqL K H pl ys ∧ LsV (PairV K H) ys b.2.2 ∧ BdOk rs M b ∧ (∀ h, lo = some h → BdOk rs M h) ∧ (∀ h, hi = some h → BdOk rs M h) ∧ 0 < M ∧ M ≤ 7000 ∧ OutAt K H C x u l lo hi W ∧
  ∀ H', Keep x H H' → OutAt K H' C x u l (stepLo lo b) (stepHi hi b) (stepW rs.length W b) → Q .non H'
theorem fold_bound {B : Nat} : ∀ (ps : List (Int × Int)) (ws : List Int) (A : Nat), (∀ w ∈ ws, w.natAbs ≤ A) → (∀ p ∈ ps, p.2.natAbs ≤ B) → ∀ w ∈ ps.foldl addAt ws, w.natAbs ≤ A + ps.length * B
  | [], ws, A, h, _ => fun w hw => by
    have := h w hw
    show w.natAbs ≤ A + 0 * B
    omega
  | p :: ps, ws, A, h, hp => fun w hw => by
    have k := fold_bound ps (addAt ws p) (A + B) (fun v hv => ?_) (fun q hq => hp q (List.mem_cons_of_mem _ hq)) w hw
    · have e : (p :: ps).length * B = ps.length * B + B := by rw [List.length_cons, Nat.succ_mul]
      omega
    · rcases List.mem_or_eq_of_mem_set hv with z | z
      · have := h v z
        omega
      · subst z
        have a := hp p List.mem_cons_self
        cases e : ws[p.1.toNat]? with
        | none =>
          show (0 + p.2).natAbs ≤ A + B
          omega
        | some u =>
          have b := h u (List.mem_of_getElem? e)
          show (u + p.2).natAbs ≤ A + B
          omega
theorem wsum_bound {B n : Nat} {ps : List (Int × Int)} (hp : ∀ p ∈ ps, p.2.natAbs ≤ B) : ∀ w ∈ wsum n ps, w.natAbs ≤ ps.length * B := fun w hw => by
  have := fold_bound ps (List.replicate n 0) 0 (fun v hv => by rw [(List.mem_replicate.mp hv).2]; exact Nat.zero_le _) hp w hw
  omega
theorem gcd_small {n M : Nat} {ps : List (Int × Int)} (hp : ∀ p ∈ ps, Sz M p.2) (hl : ps.length ≤ 4) (hM : M ≤ 7900) (g0 : 0 < gcdAll (wsum n ps)) : gcdAll (wsum n ps) < 2 ^ 8000 := by
  have bd := wsum_bound (n := n) (B := 2 ^ M) fun p h => Nat.le_of_lt (hp p h)
  obtain ⟨w, hw, wn⟩ : ∃ w ∈ wsum n ps, w ≠ 0 := by
    apply Classical.byContradiction
    intro no
    have z : ∀ (ws : List Int), (∀ w ∈ ws, w = 0) → ws.foldl (fun g w => Nat.gcd g w.natAbs) 0 = 0 := fun ws => by
      induction ws with
      | nil => exact fun _ => rfl
      | cons a l ih =>
        intro h
        have e := h a List.mem_cons_self
        subst e
        exact ih fun w hw => h w (List.mem_cons_of_mem _ hw)
    have := z (wsum n ps) fun w hw => Classical.byContradiction fun c => no ⟨w, hw, c⟩
    unfold gcdAll at g0
    omega
  have a := gcdAll_le hw wn
  have b := bd w hw
  have c : ps.length * 2 ^ M ≤ 4 * 2 ^ M := Nat.mul_le_mul_right _ hl
  have d : (2 : Nat) ^ M ≤ 2 ^ 7900 := Nat.pow_le_pow_right (by decide) hM
  have e : 4 * 2 ^ 7900 < (2 : Nat) ^ 8000 := by decide +kernel
  omega
theorem BdOk.emp {rs : List LineR} {M : Nat} {b : Bdy} (h : BdOk rs M b) (ha : b.1 = 0) (hc : b.2.1 < 0) : 0 < gcdAll (wsum rs.length b.2.2) ∧ Emp rs (wOf rs.length b.2.2) ∧ nz (wOf rs.length b.2.2) ≤ b.2.2.length :=
  emp_of h.rows (fun p hp => Int.le_of_lt (h.pos p hp)) (h.sa.trans ha) h.sb (by rw [h.sc]; exact hc)
theorem ok_bound {f f1 f2 C : Addr} {fd fd1 fd2 : FuncData} (T : Nm mg) (R : OutC K C) (C_below : Has P w K mg base "below" 1 ["one", "other"] (spBelow K) f1 fd1) (C_weights_of : Has P w K mg base "weights_of" 1 ["many", "parts"] (spWeights K) f2 fd2)
    (F : Fun K "_bound" "Outline._bound" s_Outline__bound f fd) : FnOk P w K mg base CX0 2 f fd ["self", "rows", "a", "c", "parts"] (spBoundO K C) := by
  refine F.ok sc_Outline__bound (fun vs H Q E h => ?_) (fun cdv A outer s H vs Q E hr h => ?_)
  · obtain ⟨x, r, u, l, xs, rs, M, b, pl, ys, lo, hi, W, rfl, _⟩ := h
    rfl
  · obtain ⟨x, r, u, l, xs, rs, M, ⟨a, c, ps⟩, pl, ys, lo, hi, W, rfl, hr', hxl, h100, hpl, hps, bo, blo, bhi, M0, M1, ⟨dx, vlo, plo, vhi, phi, vw, hx, elo, ehi, ew⟩, q⟩ := h
    have za : Sz M a := bo.za
    have zc : Sz M c := bo.zc
    have zn : ∀ {i : Int}, Sz M i → Sz M (-i) := fun h => by
      unfold Sz at *
      rw [Int.natAbs_neg]
      exact h
    dsimp only at *
    refine ⟨_, (pss_cons (ps_if (PW.pt (pw_and (pt_cmpR op_gt (pv 2) pe_int (nomark _)) (pw_and1 (PW.pt (pw_or (pt_cmpR op_isN (pe_fld (pv 0) rfl) pe_non (nomark _)) (pw_or1 (pt_val (pe_call C_below.G (hr.mono (by decide)) (by rfl) C_below.g C_below.k C_below.b .nil pass0 (pa_cons (pe_tup (pa_cons (pv 3) (pa_cons (pv 2) pa_nil))) (pa_cons (pe_fld (pv 0) rfl) pa_nil))))))))))
      (pss_cons (ps_fld (pv 0) (pe_tup (pa_cons (pv 3) (pa_cons (pv 2) pa_nil))) rfl)
    (pss_one (ps_fld (pv 0) (pv 4) rfl)))
      pss_nil)
    (pss_cons (ps_if (PW.pt (pw_and (pt_cmpR op_lt (pv 2) pe_int (nomark _)) (pw_and1 (PW.pt (pw_or (pt_cmpR op_isN (pe_fld (pv 0) rfl) pe_non (nomark _)) (pw_or1 (pt_val (pe_call C_below.G (hr.mono (by decide)) (by rfl) C_below.g C_below.k C_below.b .nil pass0 (pa_cons (pe_fld (pv 0) rfl) (pa_cons (pe_tup (pa_cons (pe_un un_neg (pv 3)) (pa_cons (pe_un un_neg (pv 2)) pa_nil))) pa_nil))))))))))
      (pss_cons (ps_fld (pv 0) (pe_tup (pa_cons (pe_un un_neg (pv 3)) (pa_cons (pe_un un_neg (pv 2)) pa_nil))) rfl)
    (pss_one (ps_fld (pv 0) (pv 4) rfl)))
      pss_nil)
    (pss_one (ps_if (PW.pt (pw_and (pt_cmpR op_eq (pv 2) pe_int (nomark _)) (pw_and1 (pt_cmpR op_lt (pv 3) pe_int (nomark _)))))
      (pss_one (ps_fld (pv 0) (pe_call C_weights_of.G (hr.mono (by decide)) (by rfl) C_weights_of.g C_weights_of.k C_weights_of.b .nil pass0 (pa_cons (pe_callB call_lenA (by rfl) T.len (by decide +kernel) (pa_cons (pv 1) pa_nil)) (pa_cons (pv 4) pa_nil))) rfl))
      pss_nil)))), ?_⟩
    have hxx := hx
    -- high
    refine sJoin (fun σ' H' => σ' = [some (.ref x), some (.ref r), some (.int a), some (.int c), some (.ref pl)] ∧ Keep x H H' ∧ ∃ vhi phi, H' x = some (.ins C dx [("uppers", .ref u), ("lowers", .ref l), ("low", vlo), ("low_parts", .ref plo), ("high", vhi), ("high_parts", .ref phi), ("weights", vw)]) ∧ EndV K H' vhi phi false (stepHi hi (a, c, ps))) (fun N hN => ?_) ?_
    · refine sLast_via (fun t H1 => Same H H1 ∧ (t = true ↔ 0 < a ∧ ∀ h, hi = some h → c * h.1 < h.2.1 * a)) (fun Q' k => ?_) ?_
      · refine ⟨_, rfl, _, _, rfl, rfl, _, rfl, ?_⟩
        by_cases ha : 0 < a
        · rw [decide_eq_true ha]
          refine iteT ?_
          cases hi with
          | none =>
            obtain rfl : vhi = .non := ehi
            exact ⟨_, rfl, x, C, dx, _, _, rfl, hx, R.cl, R.nh, rfl, rfl, true, rfl, iteT (k _ _ ⟨fun _ _ z => z, iff_of_true rfl ⟨ha, fun _ z => nomatch z⟩⟩)⟩
          | some h =>
            obtain ⟨⟨ph, rfl, tph⟩, _⟩ := ehi
            have bh := bhi h rfl
            refine ⟨_, rfl, x, C, dx, _, _, rfl, hx, R.cl, R.nh, rfl, rfl, false, rfl, iteF ?_⟩
            refine ⟨_, rfl, _, rfl, by show 2 ≤ sizeLine; decide, fun p np => ?_⟩
            have s1 := same_upd (o := .tup [.int c, .int a]) np
            refine ⟨_, rfl, x, C, dx, _, _, rfl, s1 _ _ hx, R.cl, R.nh, rfl, _, _, c, a, h.2.1, h.1, M, rfl, ⟨p, rfl, .inl (.inl upd_same)⟩, ⟨ph, rfl, Same.tup s1 tph⟩, M0, by omega, zc, za, bh.zc, bh.za, ?_⟩
            refine ⟨_, rfl, k _ _ ⟨s1, ?_⟩⟩
            rw [decide_eq_true_iff]
            exact ⟨fun z => ⟨ha, fun h' e => by cases e; exact z⟩, fun z => z.2 h rfl⟩
        · rw [decide_eq_false ha]
          exact iteF (k _ _ ⟨fun _ _ z => z, iff_of_false (fun z => nomatch z) fun z => ha z.1⟩)
      rintro t H1 ⟨s1, ht⟩
      have hx1 := s1 _ _ hx
      cases t with
      | true =>
        refine iteT ?_
        have ht := ht.mp rfl
        refine ⟨_, rfl, _, rfl, by show 2 ≤ sizeLine; decide, fun p np => ?_⟩
        have s2 := same_upd (o := .tup [.int c, .int a]) np
        have hp2 : (upd H1 p (.tup [.int c, .int a])) p = _ := upd_same
        generalize upd H1 p (.tup [.int c, .int a]) = H2 at *
        have hx2 := s2 _ _ hx1
        refine ⟨_, rfl, x, C, dx, _, rfl, hx2, R.cl, R.nh, by show 7 < 1000; decide, ?_⟩
        refine ⟨_, rfl, _, rfl, x, C, dx, _, rfl, upd_same, R.cl, R.nhp, by show 7 < 1000; decide, ?_⟩
        have k3 := (Keep.upd x H2 (.ins C dx (putF ("high" : Str) (.ref p) [("uppers", .ref u), ("lowers", .ref l), ("low", vlo), ("low_parts", .ref plo), ("high", vhi), ("high_parts", .ref phi), ("weights", vw)]))).trans (Keep.upd x _ (.ins C dx [("uppers", .ref u), ("lowers", .ref l), ("low", vlo), ("low_parts", .ref plo), ("high", .ref p), ("high_parts", .ref pl), ("weights", vw)]))
        have e : stepHi hi (a, c, ps) = some (a, c, ps) := by
          unfold stepHi
          cases hi with
          | none => exact if_pos ht.1
          | some h => exact if_pos ⟨ht.1, ht.2 h rfl⟩
        refine hN _ _ ⟨rfl, (Keep.of (s1.trans s2)).trans k3, .ref p, pl, upd_same, ?_⟩
        rw [e]
        exact ⟨⟨p, rfl, insT k3 hx2 (.inl (.inl hp2))⟩, ys, insL k3 hx2 ((s1.trans s2).seq hpl), insLP k3 hx2 (hps.map fun _ _ y => PairV.same (s1.trans s2) y)⟩
      | false =>
        refine iteF ?_
        have nt : ¬ (0 < a ∧ ∀ h, hi = some h → c * h.1 < h.2.1 * a) := fun z => nomatch ht.mpr z
        have e : stepHi hi (a, c, ps) = hi := by
          unfold stepHi
          cases hi with
          | none => exact if_neg fun z => nt ⟨z, fun _ z => nomatch z⟩
          | some h => exact if_neg fun z => nt ⟨z.1, fun h' e => by cases e; exact z.2⟩
        refine hN _ _ ⟨rfl, Keep.of s1, vhi, phi, hx1, ?_⟩
        rw [e]
        exact ehi.same s1
    clear hx ehi
    rintro σ H1 ⟨rfl, k1, vhi, phi, hx, ehi⟩
    have hx0 := hx
    obtain ⟨fs0, hx00⟩ : ∃ fs0, H x = some (.ins C dx fs0) := ⟨_, hxx⟩
    have elo := elo.ins k1 hx00
    have ew := ew.ins k1 hx00
    have hpl := insL k1 hx00 hpl
    have hps := insLP k1 hx00 hps
    have hr' := hr'.keep k1 hx00
    clear hx0
    -- low
    refine sJoin (fun σ' H' => σ' = [some (.ref x), some (.ref r), some (.int a), some (.int c), some (.ref pl)] ∧ Keep x H1 H' ∧ ∃ vlo plo, H' x = some (.ins C dx [("uppers", .ref u), ("lowers", .ref l), ("low", vlo), ("low_parts", .ref plo), ("high", vhi), ("high_parts", .ref phi), ("weights", vw)]) ∧ EndV K H' vlo plo true (stepLo lo (a, c, ps))) (fun N hN => ?_) ?_
    · refine sLast_via (fun t H2 => Same H1 H2 ∧ (t = true ↔ a < 0 ∧ ∀ h, lo = some h → -h.2.1 * -a < -c * -h.1)) (fun Q' k => ?_) ?_
      · refine ⟨_, rfl, _, _, rfl, rfl, _, rfl, ?_⟩
        by_cases ha : a < 0
        · rw [decide_eq_true ha]
          refine iteT ?_
          cases lo with
          | none =>
            obtain rfl : vlo = .non := elo
            exact ⟨_, rfl, x, C, dx, _, _, rfl, hx, R.cl, R.no, rfl, rfl, true, rfl, iteT (k _ _ ⟨fun _ _ z => z, iff_of_true rfl ⟨ha, fun _ z => nomatch z⟩⟩)⟩
          | some h =>
            obtain ⟨⟨ph, rfl, tph⟩, _⟩ := elo
            have bh := blo h rfl
            refine ⟨_, rfl, x, C, dx, _, _, rfl, hx, R.cl, R.no, rfl, rfl, false, rfl, iteF ?_⟩
            refine ⟨_, rfl, x, C, dx, _, _, rfl, hx, R.cl, R.no, rfl, _, rfl, _, rfl, _, rfl, _, rfl, by show 2 ≤ sizeLine; decide, fun p np => ?_⟩
            have s1 := same_upd (o := .tup [.int (-c), .int (-a)]) np
            refine ⟨_, _, -h.2.1, -h.1, -c, -a, M, rfl, ⟨ph, rfl, Same.tup s1 tph⟩, ⟨p, rfl, .inl (.inl upd_same)⟩, M0, by omega, zn bh.zc, zn bh.za, zn zc, zn za, ?_⟩
            refine ⟨_, rfl, k _ _ ⟨s1, ?_⟩⟩
            rw [decide_eq_true_iff]
            exact ⟨fun z => ⟨ha, fun h' e => by cases e; exact z⟩, fun z => z.2 h rfl⟩
        · rw [decide_eq_false ha]
          exact iteF (k _ _ ⟨fun _ _ z => z, iff_of_false (fun z => nomatch z) fun z => ha z.1⟩)
      rintro t H2 ⟨s1, ht⟩
      have hx1 := s1 _ _ hx
      cases t with
      | true =>
        refine iteT ?_
        have ht := ht.mp rfl
        refine ⟨_, rfl, _, rfl, _, rfl, _, rfl, by show 2 ≤ sizeLine; decide, fun p np => ?_⟩
        have s2 := same_upd (o := .tup [.int (-c), .int (-a)]) np
        have hp2 : (upd H2 p (.tup [.int (-c), .int (-a)])) p = _ := upd_same
        generalize upd H2 p (.tup [.int (-c), .int (-a)]) = H3 at *
        have hx2 := s2 _ _ hx1
        refine ⟨_, rfl, x, C, dx, _, rfl, hx2, R.cl, R.no, by show 7 < 1000; decide, ?_⟩
        refine ⟨_, rfl, _, rfl, x, C, dx, _, rfl, upd_same, R.cl, R.nop, by show 7 < 1000; decide, ?_⟩
        have k3 := (Keep.upd x H3 (.ins C dx (putF ("low" : Str) (.ref p) [("uppers", .ref u), ("lowers", .ref l), ("low", vlo), ("low_parts", .ref plo), ("high", vhi), ("high_parts", .ref phi), ("weights", vw)]))).trans (Keep.upd x _ (.ins C dx [("uppers", .ref u), ("lowers", .ref l), ("low", .ref p), ("low_parts", .ref pl), ("high", vhi), ("high_parts", .ref phi), ("weights", vw)]))
        have e : stepLo lo (a, c, ps) = some (a, c, ps) := by
          unfold stepLo
          cases lo with
          | none => exact if_pos ht.1
          | some h => exact if_pos ⟨ht.1, ht.2 h rfl⟩
        refine hN _ _ ⟨rfl, (Keep.of (s1.trans s2)).trans k3, .ref p, pl, upd_same, ?_⟩
        rw [e]
        exact ⟨⟨p, rfl, insT k3 hx2 (.inl (.inl hp2))⟩, ys, insL k3 hx2 ((s1.trans s2).seq hpl), insLP k3 hx2 (hps.map fun _ _ y => PairV.same (s1.trans s2) y)⟩
      | false =>
        refine iteF ?_
        have nt : ¬ (a < 0 ∧ ∀ h, lo = some h → -h.2.1 * -a < -c * -h.1) := fun z => nomatch ht.mpr z
        have e : stepLo lo (a, c, ps) = lo := by
          unfold stepLo
          cases lo with
          | none => exact if_neg fun z => nt ⟨z, fun _ z => nomatch z⟩
          | some h => exact if_neg fun z => nt ⟨z.1, fun h' e => by cases e; exact z.2⟩
        refine hN _ _ ⟨rfl, Keep.of s1, vlo, plo, hx1, ?_⟩
        rw [e]
        exact elo.same s1
    rintro σ H2 ⟨rfl, k2, vlo, plo, hx2, elo⟩
    have ehi := ehi.ins k2 hx
    have ew := ew.ins k2 hx
    have hpl := insL k2 hx hpl
    have hps := insLP k2 hx hps
    have hr' := hr'.keep k2 hx
    have k12 := k1.trans k2
    -- weights
    refine sLast_via (fun t H3 => Same H2 H3 ∧ (t = true ↔ a = 0 ∧ c < 0)) (fun Q' k => ?_) ?_
    · refine ⟨_, rfl, rfl, _, rfl, ?_⟩
      by_cases ha : a = 0
      · rw [decide_eq_true (congrArg V.int ha)]
        refine iteT ⟨_, rfl, _, _, rfl, rfl, _, rfl, k _ _ ⟨fun _ _ z => z, ?_⟩⟩
        rw [decide_eq_true_iff]
        exact ⟨fun z => ⟨ha, z⟩, fun z => z.2⟩
      · rw [decide_eq_false (fun z => ha (V.int.inj z))]
        exact iteF (k _ _ ⟨fun _ _ z => z, iff_of_false (fun z => nomatch z) fun z => ha z.1⟩)
    rintro t H3 ⟨s3, ht⟩
    have hx3 := s3 _ _ hx2
    cases t with
    | true =>
      refine iteT ?_
      obtain ⟨a0, c0⟩ := ht.mp rfl
      obtain ⟨g0, em, _⟩ := bo.emp a0 c0
      refine ⟨_, rfl, r, xs, rfl, hr'.same s3, _, rfl, pl, ys, rs.length, ps, (by show [V.int ((xs.length : Nat) : Int), V.ref pl] = _; rw [hxl]), s3.seq hpl, hps.map fun _ _ y => PairV.same s3 y, h100, bo.rows, g0, gcd_small bo.sz (Nat.le_trans bo.len (by decide)) (by omega) g0, fun lw H4 s4 _ hw => ?_⟩
      have hx4 := s4 _ _ hx3
      refine ⟨_, rfl, x, C, dx, _, rfl, hx4, R.cl, R.nw, by show 7 < 1000; decide, ?_⟩
      have k5 := Keep.upd x H4 (.ins C dx [("uppers", .ref u), ("lowers", .ref l), ("low", vlo), ("low_parts", .ref plo), ("high", vhi), ("high_parts", .ref phi), ("weights", .ref lw)])
      have s34 := s3.trans s4
      refine q _ ((k12.trans (Keep.of s34)).trans k5) ⟨dx, vlo, plo, vhi, phi, .ref lw, upd_same, (elo.same s34).ins k5 hx4, (ehi.same s34).ins k5 hx4, ?_⟩
      have e : stepW rs.length W (a, c, ps) = some (wOf rs.length ps) := if_pos ⟨a0, c0⟩
      rw [e]
      exact ⟨lw, rfl, k5 _ _ (fun z => by rw [z, hx4] at hw; cases hw) hw⟩
    | false =>
      refine iteF ?_
      have e : stepW rs.length W (a, c, ps) = W := if_neg fun z => nomatch ht.mpr z
      refine q H3 (k12.trans (Keep.of s3)) ⟨dx, vlo, plo, vhi, phi, vw, hx3, elo.same s3, ehi.same s3, ?_⟩
      rw [e]
      exact ew.same s3
end
end K29
namespace K29
open PySem PySem.Spec PyProof.Rows L2 My
local macro_rules | `(tactic| walk_at "side") => `(tactic| (first
  | assumption
  | (refine OkMod.mk ?_; omega)
  | (refine mulOkL ?_ ?_ <;> omega)
  | (refine mulOkR ?_ ?_ <;> omega)
  | (refine divOk ?_ ?_ <;> omega)))
local macro_rules | `(tactic| walk_at "rd") => `(tactic| (first
  | with_reducible refine ⟨_, rfl, ?_⟩
  | refine ⟨_, rfl, ?_⟩
  | refine ⟨_, _, rfl, rfl, ?_⟩
  | refine And.intro (by walk_at "side") ?_
  | refine ⟨_, _, rfl, asm (by assumption), ?_⟩
  | refine ⟨_, _, rfl, asm ?_⟩))
section
variable {P : Program} {w : World} {K : PySem.W.Frag} {mg : Str → Option Value} {base : Heap}

/-! ### empty_three -/
theorem rows_get {H : Hp} : ∀ {xs : List V} {rs : List LineR} {i : Nat} {r : LineR}, RowsV K H xs rs → rs[i]? = some r → ∃ v, xs[i]? = some v ∧ RowV K H v r
  | _, _, 0, _, .cons h _, e => ⟨_, rfl, by cases e; exact h⟩
  | _, _, i + 1, _, .cons _ t, e => rows_get (i := i) t e
  | _, _, _, _, .nil, e => by cases e
/-- which three are left at each turn -/
def TakesAt (v0 v1 v2 v3 : LineR) : Nat → Prop
  | 0 => MT.Takes v1 v2 v3
  | 1 => MT.Takes v0 v2 v3
  | 2 => MT.Takes v0 v1 v3
  | 3 => MT.Takes v0 v1 v2
  | _ => False
structure RowS (M : Nat) (v : LineR) : Prop where
  a : Sz M v.1
  b : Sz M v.2.1
  c : Sz M v.2.2
def spThree (K : PySem.W.Frag) : Sp := fun vs H Q _ => ∃ (r l : Addr) (xs : List V) (rs : List LineR) (M : Nat) (n0 n1 n2 n3 : Nat) (v0 v1 v2 v3 : LineR), vs = [.ref r, .ref l] ∧ SqA K H r xs ∧ RowsV K H xs rs ∧ rs.length ≤ 100 ∧
  SqL K H l (([n0, n1, n2, n3].map fun n : Nat => (n : Int)).map V.int) ∧ [n0, n1, n2, n3].Nodup ∧ rs[n0]? = some v0 ∧ rs[n1]? = some v1 ∧ rs[n2]? = some v2 ∧ rs[n3]? = some v3 ∧ RowS M v0 ∧ RowS M v1 ∧ RowS M v2 ∧ RowS M v3 ∧ 0 < M ∧ M ≤ 100000 ∧
  (∃ i, TakesAt v0 v1 v2 v3 i) ∧
  ∀ (l' : Addr) ys ps H', Same H H' → H' l' = some (.lst ys) → LsV (PairV K H') ys ps → ps.length = 3 → InRows rs ps → (∀ p ∈ ps, 0 ≤ p.2 ∧ Sz (M + M + 1) p.2) → psum (fun r => r.1) rs ps = 0 → psum (fun r => r.2.1) rs ps = 0 → psum (fun r => r.2.2) rs ps < 0 → Q (.ref l') H'
theorem flt1 {z x : Int} {l m : List Int} (c : z ≠ x) (h : l.filter (fun z => decide (z ≠ x)) = m) : (z :: l).filter (fun z => decide (z ≠ x)) = z :: m := by
  rw [List.filter_cons, if_pos (decide_eq_true c), h]
theorem flt0 {x : Int} {l m : List Int} (h : l.filter (fun z => decide (z ≠ x)) = m) : (x :: l).filter (fun z => decide (z ≠ x)) = m := by
  rw [List.filter_cons, if_neg (by simp), h]
theorem nati {a b : Nat} (h : a ≠ b) : (a : Int) ≠ (b : Int) := fun e => h (Int.ofNat.inj e)
/-- the three that are left at a turn -/
theorem left_three {rs : List LineR} {n0 n1 n2 n3 : Nat} {v0 v1 v2 v3 : LineR} (nd : [n0, n1, n2, n3].Nodup) (e0 : rs[n0]? = some v0) (e1 : rs[n1]? = some v1) (e2 : rs[n2]? = some v2) (e3 : rs[n3]? = some v3) {M : Nat} (s0 : RowS M v0) (s1 : RowS M v1) (s2 : RowS M v2) (s3 : RowS M v3) {i : Nat} {x : Int}
    (h : ([n0, n1, n2, n3].map fun n : Nat => (n : Int))[i]? = some x) : ∃ (a b c : Nat) (va vb vc : LineR), ([n0, n1, n2, n3].map fun n : Nat => (n : Int)).filter (fun z => decide (z ≠ x)) = [(a : Int), (b : Int), (c : Int)] ∧ rs[a]? = some va ∧ rs[b]? = some vb ∧ rs[c]? = some vc ∧ RowS M va ∧ RowS M vb ∧ RowS M vc ∧ (TakesAt v0 v1 v2 v3 i ↔ MT.Takes va vb vc) := by
  have h01 : n0 ≠ n1 := fun z => by subst z; simp at nd
  have h02 : n0 ≠ n2 := fun z => by subst z; simp at nd
  have h03 : n0 ≠ n3 := fun z => by subst z; simp at nd
  have h12 : n1 ≠ n2 := fun z => by subst z; simp at nd
  have h13 : n1 ≠ n3 := fun z => by subst z; simp at nd
  have h23 : n2 ≠ n3 := fun z => by subst z; simp at nd
  have hi : i < 4 := by
    have := (List.getElem?_eq_some_iff.mp h).1
    simpa using this
  rcases (show i = 0 ∨ i = 1 ∨ i = 2 ∨ i = 3 by omega) with rfl | rfl | rfl | rfl
  · cases h
    exact ⟨n1, n2, n3, v1, v2, v3, flt0 (flt1 (nati (Ne.symm h01)) (flt1 (nati (Ne.symm h02)) (flt1 (nati (Ne.symm h03)) rfl))), e1, e2, e3, s1, s2, s3, Iff.rfl⟩
  · cases h
    exact ⟨n0, n2, n3, v0, v2, v3, flt1 (nati h01) (flt0 (flt1 (nati (Ne.symm h12)) (flt1 (nati (Ne.symm h13)) rfl))), e0, e2, e3, s0, s2, s3, Iff.rfl⟩
  · cases h
    exact ⟨n0, n1, n3, v0, v1, v3, flt1 (nati h02) (flt1 (nati h12) (flt0 (flt1 (nati (Ne.symm h23)) rfl))), e0, e1, e3, s0, s1, s3, Iff.rfl⟩
  · cases h
    exact ⟨n0, n1, n2, v0, v1, v2, flt1 (nati h03) (flt1 (nati h13) (flt1 (nati h23) (flt0 rfl))), e0, e1, e2, s0, s1, s2, Iff.rfl⟩
theorem filter_more {α : Type} (p : α → Bool) {xs : List α} {i : Nat} {x : α} (h : xs[i]? = some x) : (xs.take (i + 1)).filter p = (xs.take i).filter p ++ (if p x = true then [x] else []) := by
  rw [List.take_add_one, h, List.filter_append]
  congr 1
  show [x].filter p = _
  rw [List.filter_cons]
  split <;> rfl
theorem three_c (k : Int) (u v z : LineR) : u.2.2 * (k * MT.P0 u v z) + v.2.2 * (k * MT.P1 u v z) + z.2.2 * (k * MT.P2 u v z) = k * MT.C3 u v z := by
  unfold MT.C3
  grind
theorem three_a (k : Int) (u v z : LineR) : k * MT.P0 u v z * u.1 + (k * MT.P1 u v z * v.1 + (k * MT.P2 u v z * z.1 + 0)) = 0 := by
  unfold MT.P0 MT.P1 MT.P2 MT.cr
  grind
theorem three_b (k : Int) (u v z : LineR) : k * MT.P0 u v z * u.2.1 + (k * MT.P1 u v z * v.2.1 + (k * MT.P2 u v z * z.2.1 + 0)) = 0 := by
  unfold MT.P0 MT.P1 MT.P2 MT.cr
  grind
theorem takes_k {i j k : LineR} {s : Int} (hs : s = 1 ∨ s = -1) (h0 : 0 ≤ s * MT.P0 i j k) (h1 : 0 ≤ s * MT.P1 i j k) (h2 : 0 ≤ s * MT.P2 i j k) : MT.Takes i j k ↔ s * MT.C3 i j k < 0 := by
  have z : MT.P0 i j k = 0 → MT.P1 i j k = 0 → MT.P2 i j k = 0 → MT.C3 i j k = 0 := fun a b c => by
    unfold MT.C3
    rw [a, b, c]
    simp
  unfold MT.Takes
  generalize MT.P0 i j k = p at *
  generalize MT.P1 i j k = q at *
  generalize MT.P2 i j k = r at *
  generalize MT.C3 i j k = t at *
  rcases hs with rfl | rfl <;> omega
theorem ok_empty_three {f : Addr} {fd : FuncData} (T : Nm mg) (F : Fun K "empty_three" "empty_three" s_empty_three f fd) : FnOk P w K mg base CX0 1 f fd ["rows", "numbers"] (spThree K) := by
  refine F.ok sc_empty_three (fun vs H Q E h => ?_) (fun cdv A outer s H vs Q E hr h => ?_)
  · obtain ⟨r, l, xs, rs, M, n0, n1, n2, n3, v0, v1, v2, v3, rfl, _⟩ := h
    rfl
  · obtain ⟨r, l, xs, rs, M, n0, n1, n2, n3, v0, v1, v2, v3, rfl, hr', hx, h100, hl, nd, e0, e1, e2, e3, z0, z1, z2, z3, M0, M1, tk, q⟩ := h
    refine ⟨_, (pss_cons (ps_for PassesOwn.never rfl (pi_list (pv 1)) (pg_name (i := 2) sc_empty_three.nd rfl (Or.inr rfl))
      (pss_cons (ps_asg (pe_lc (own := [("at", 18)]) (g := gName 18) (by rfl) sc_empty_three.nd (pi_list (pv 1)) (by exact blkOk_by (N := ["rows", "numbers", "left_out", "i", "j", "k", "a", "b", "c", "p", "q", "r", "s", "t", "w", "parts", "least", "most", "at", "_", "weight"]) (sc := defScope s_empty_three) (by decide +kernel)) (fun _ _ _ _ _ => by exact (pg_name (i := 18) sc_empty_three.nd rfl (Or.inl rfl))) (fun _ _ _ _ _ => (pts_one (pt_cmpR op_ne (pv 18) (pv 2) (nomark _)))) (fun _ _ _ _ _ => (pv 18))) (pg_unl rfl (pgs_cons (pg_name (i := 3) sc_empty_three.nd rfl (Or.inl rfl)) (pgs_cons (pg_name (i := 4) sc_empty_three.nd rfl (Or.inl rfl)) (pgs_cons (pg_name (i := 5) sc_empty_three.nd rfl (Or.inl rfl)) pgs_nil)))))
    (pss_cons (ps_asg (pe_tup (pa_cons (pe_ix My.ix_seq (pv 0) (pv 3) (fun _ _ => rfl)) (pa_cons (pe_ix My.ix_seq (pv 0) (pv 4) (fun _ _ => rfl)) (pa_cons (pe_ix My.ix_seq (pv 0) (pv 5) (fun _ _ => rfl)) pa_nil)))) (pg_tup rfl (pgs_cons (pg_tup rfl (pgs_cons (pg_name (i := 6) sc_empty_three.nd rfl (Or.inl rfl)) (pgs_cons (pg_name (i := 7) sc_empty_three.nd rfl (Or.inl rfl)) (pgs_cons (pg_name (i := 8) sc_empty_three.nd rfl (Or.inl rfl)) pgs_nil)))) (pgs_cons (pg_tup rfl (pgs_cons (pg_name (i := 9) sc_empty_three.nd rfl (Or.inl rfl)) (pgs_cons (pg_name (i := 10) sc_empty_three.nd rfl (Or.inl rfl)) (pgs_cons (pg_name (i := 11) sc_empty_three.nd rfl (Or.inl rfl)) pgs_nil)))) (pgs_cons (pg_tup rfl (pgs_cons (pg_name (i := 12) sc_empty_three.nd rfl (Or.inl rfl)) (pgs_cons (pg_name (i := 13) sc_empty_three.nd rfl (Or.inl rfl)) (pgs_cons (pg_name (i := 14) sc_empty_three.nd rfl (Or.inl rfl)) pgs_nil)))) pgs_nil)))))
    (pss_cons (ps_set (i := 15) sc_empty_three.nd rfl (Or.inl rfl) (pe_lst (pa_cons (pe_tup (pa_cons (pv 3) (pa_cons (pe_op op_sub (pe_op op_mulA (pv 9) (pv 13)) (pe_op op_mulA (pv 10) (pv 12))) pa_nil))) (pa_cons (pe_tup (pa_cons (pv 4) (pa_cons (pe_op op_sub (pe_op op_mulA (pv 12) (pv 7)) (pe_op op_mulA (pv 13) (pv 6))) pa_nil))) (pa_cons (pe_tup (pa_cons (pv 5) (pa_cons (pe_op op_sub (pe_op op_mulA (pv 6) (pv 10)) (pe_op op_mulA (pv 7) (pv 9))) pa_nil))) pa_nil)))))
    (pss_cons (ps_set (i := 16) sc_empty_three.nd rfl (Or.inl rfl) (pe_callB (cr_min rfl) (by rfl) T.min (by decide +kernel) (pa_cons (pe_lc (own := [("_", 19), ("weight", 20)]) (g := gTup K 2 (gCons (gName 19) (gCons (gName 20) (gNil)))) (by rfl) sc_empty_three.nd (pi_list (pv 15)) (by exact blkOk_by (N := ["rows", "numbers", "left_out", "i", "j", "k", "a", "b", "c", "p", "q", "r", "s", "t", "w", "parts", "least", "most", "at", "_", "weight"]) (sc := defScope s_empty_three) (by decide +kernel)) (fun _ _ _ _ _ => by exact (pg_tup rfl (pgs_cons (pg_name (i := 19) sc_empty_three.nd rfl (Or.inl rfl)) (pgs_cons (pg_name (i := 20) sc_empty_three.nd rfl (Or.inl rfl)) pgs_nil)))) (fun _ _ _ _ _ => pts_nil) (fun _ _ _ _ _ => (pv 20))) pa_nil)))
    (pss_cons (ps_set (i := 17) sc_empty_three.nd rfl (Or.inl rfl) (pe_callB (cr_max rfl) (by rfl) T.max (by decide +kernel) (pa_cons (pe_lc (own := [("_", 19), ("weight", 20)]) (g := gTup K 2 (gCons (gName 19) (gCons (gName 20) (gNil)))) (by rfl) sc_empty_three.nd (pi_list (pv 15)) (by exact blkOk_by (N := ["rows", "numbers", "left_out", "i", "j", "k", "a", "b", "c", "p", "q", "r", "s", "t", "w", "parts", "least", "most", "at", "_", "weight"]) (sc := defScope s_empty_three) (by decide +kernel)) (fun _ _ _ _ _ => by exact (pg_tup rfl (pgs_cons (pg_name (i := 19) sc_empty_three.nd rfl (Or.inl rfl)) (pgs_cons (pg_name (i := 20) sc_empty_three.nd rfl (Or.inl rfl)) pgs_nil)))) (fun _ _ _ _ _ => pts_nil) (fun _ _ _ _ _ => (pv 20))) pa_nil)))
    (pss_cons (ps_if (pt_chain op_lt op_lt (pv 16) pe_int (pv 17))
      (pss_one ps_continue)
      pss_nil)
    (pss_cons (ps_if (pt_cmpR op_lt (pv 16) pe_int (nomark _))
      (pss_one (ps_setLc (i := 15) (own := [("at", 18), ("weight", 20)]) (g := gTup K 2 (gCons (gName 18) (gCons (gName 20) (gNil)))) (by rfl) sc_empty_three.nd rfl rfl (sw_true rfl rfl rfl (by decide +kernel)) (pi_list (pv 15)) (by exact blkOk_by (N := ["rows", "numbers", "left_out", "i", "j", "k", "a", "b", "c", "p", "q", "r", "s", "t", "w", "parts", "least", "most", "at", "_", "weight"]) (sc := defScope s_empty_three) (by decide +kernel)) (fun _ _ _ _ _ => by exact (pg_tup rfl (pgs_cons (pg_name (i := 18) sc_empty_three.nd rfl (Or.inl rfl)) (pgs_cons (pg_name (i := 20) sc_empty_three.nd rfl (Or.inl rfl)) pgs_nil)))) (fun _ _ _ _ _ => pts_nil) (fun _ _ _ _ _ => (pe_tup (pa_cons (pv 18) (pa_cons (pe_un un_neg (pv 20)) pa_nil))))))
      pss_nil)
    (pss_one (ps_if (pt_cmpR op_lt (pe_op op_add (pe_op op_add (pe_op op_mulA (pv 8) (pe_ix ix_tup (pe_ix ix_list (pv 15) pe_int (fun _ _ => rfl)) pe_int (fun _ _ => rfl))) (pe_op op_mulA (pv 11) (pe_ix ix_tup (pe_ix ix_list (pv 15) pe_int (fun _ _ => rfl)) pe_int (fun _ _ => rfl)))) (pe_op op_mulA (pv 14) (pe_ix ix_tup (pe_ix ix_list (pv 15) pe_int (fun _ _ => rfl)) pe_int (fun _ _ => rfl)))) pe_int (nomark _))
      (pss_one (ps_ret (pv 15)))
      pss_nil))))))))))
    (pss_one (ps_ret (pe_lst pa_nil)))), ?_⟩
    generalize hns : ([n0, n1, n2, n3].map fun n : Nat => (n : Int)) = ns at *
    have nlen : ns.length = 4 := by rw [← hns]; rfl
    refine ⟨_, rfl, l, rfl, ⟨_, hl⟩, for_list (K := K) (a := l) (xs := ns.map V.int) (fun i σ H' => Same H H' ∧ (∀ m, m < i → ¬ TakesAt v0 v1 v2 v3 m) ∧ ∃ y2 y3 y4 y5 y6 y7 y8 y9 y10 y11 y12 y13 y14 y15 y16 y17 y18 y19 y20, σ = [some (.ref r), some (.ref l), y2, y3, y4, y5, y6, y7, y8, y9, y10, y11, y12, y13, y14, y15, y16, y17, y18, y19, y20])
      ⟨fun _ _ z => z, fun m hm => absurd hm (Nat.not_lt_zero m), _, _, _, _, _, _, _, _, _, _, _, _, _, _, _, _, _, _, _, rfl⟩ (fun i σ H' _ z => z.1.seq hl) ?_ ?_⟩
    · rintro i x σ H1 hi ⟨s1, no, y2, y3, y4, y5, y6, y7, y8, y9, y10, y11, y12, y13, y14, y15, y16, y17, y18, y19, y20, rfl⟩
      obtain ⟨x, hix, rfl⟩ := getI hi
      have hix0 := hix
      rw [← hns] at hix0
      obtain ⟨na, nb, nc, va, vb, vc, fl, ea, eb, ec, sa, sb, sc', iff⟩ := left_three nd e0 e1 e2 e3 z0 z1 z2 z3 hix0
      rw [hns] at fl
      -- i, j, k
      refine ⟨_, rfl, l, rfl, ⟨_, s1.seq hl⟩, fun D nD => lc_list (xs := ns.map V.int) (fun j H' => Same H1 H' ∧ H' D = some (.lst (((ns.take j).filter (fun z => decide (z ≠ x))).map V.int))) ⟨same_upd nD, upd_same⟩ (fun j H' _ z => z.1.seq (s1.seq hl)) ?_ ?_⟩
      · rintro j z H2 hj ⟨s2, hD⟩
        obtain ⟨z, hjz, rfl⟩ := getI hj
        refine ⟨rfl, _, rfl, _, rfl, rfl, _, rfl, ?_⟩
        by_cases c : z = x
        · refine iteFf ?_ ⟨s2, ?_⟩
          · rw [decide_eq_true (congrArg V.int c)]
            rfl
          · rw [hD, filter_more _ hjz, if_neg (by simp [c]), List.append_nil]
        · refine iteTt ?_ ⟨_, rfl, _, hD, ?_, same_keep nD s2 (Keep.upd D _ _), ?_⟩
          · rw [decide_eq_false (fun e => c (V.int.inj e))]
            rfl
          · rw [List.length_map]
            have a := List.length_filter_le (fun z => decide (z ≠ x)) (ns.take j)
            have b := List.length_take_le j ns
            have d : 1000 < sizeLine := by decide
            have e : (ns.take j).length ≤ ns.length := by rw [List.length_take]; omega
            omega
          · rw [upd_same, filter_more _ hjz, if_pos (by simp [c]), List.map_append]
            rfl
      rintro H2 ⟨s2, hD⟩
      rw [List.length_map, List.take_length, fl] at hD
      have hna := (List.getElem?_eq_some_iff.mp ea).1
      have hnb := (List.getElem?_eq_some_iff.mp eb).1
      have hnc := (List.getElem?_eq_some_iff.mp ec).1
      obtain ⟨_, xa, ua, rfl, ra⟩ := rows_get hx ea
      obtain ⟨_, xb, ub, rfl, rb⟩ := rows_get hx eb
      obtain ⟨_, xc, uc, rfl, rc⟩ := rows_get hx ec
      refine ⟨D, _, rfl, .of hD, rfl, ?_⟩
      have s12 := s1.trans s2
      refine ⟨_, _, rfl, _, _, rfl, _, _, rfl, rfl, ?_⟩
      refine ⟨_, rfl, _, rfl, r, _, _, _, rfl, rfl, hr'.same s12, atI_nat xa, ?_⟩
      refine ⟨_, rfl, _, rfl, r, _, _, _, rfl, rfl, hr'.same s12, atI_nat xb, ?_⟩
      refine ⟨_, rfl, _, rfl, r, _, _, _, rfl, rfl, hr'.same s12, atI_nat xc, ?_⟩
      refine ⟨by show 3 ≤ sizeLine; decide, fun T1 nT => ?_⟩
      have s13 := s12.trans (same_upd (o := .tup [.ref ua, .ref ub, .ref uc]) nT)
      refine ⟨T1, _, rfl, .of upd_same, rfl, ?_⟩
      generalize upd H2 T1 (.tup [.ref ua, .ref ub, .ref uc]) = H3 at *
      refine ⟨_, _, rfl, ⟨ua, _, rfl, Same.tup s13 ra, rfl, _, _, rfl, _, _, rfl, _, _, rfl, rfl, ?_⟩⟩
      refine ⟨_, _, rfl, ⟨ub, _, rfl, Same.tup s13 rb, rfl, _, _, rfl, _, _, rfl, _, _, rfl, rfl, ?_⟩⟩
      refine ⟨_, _, rfl, ⟨uc, _, rfl, Same.tup s13 rc, rfl, _, _, rfl, _, _, rfl, _, _, rfl, rfl, rfl, ?_⟩⟩
      simp only [List.set_cons_zero, List.set_cons_succ]
      refine ⟨_, rfl, _, rfl, _, rfl, _, _, rfl, rfl, sb.a.mulOk sc'.b M0 M0 (by omega), ?_⟩
      refine ⟨_, rfl, _, rfl, _, _, rfl, rfl, sb.b.mulOk sc'.a M0 M0 (by omega), _, _, rfl, rfl, ?_⟩
      refine ⟨by show 2 ≤ sizeLine; decide, fun p1 n1' => ?_⟩
      have s14 := s13.trans (same_upd (o := .tup [.int na, .int (vb.1 * vc.2.1 - vb.2.1 * vc.1)]) n1')
      have q1 : PairV K (upd H3 p1 (.tup [.int na, .int (vb.1 * vc.2.1 - vb.2.1 * vc.1)])) (.ref p1) (na, MT.P0 va vb vc) := ⟨p1, rfl, .of upd_same⟩
      generalize upd H3 p1 (.tup [.int na, .int (vb.1 * vc.2.1 - vb.2.1 * vc.1)]) = H4 at *
      refine ⟨_, rfl, _, rfl, _, rfl, _, _, rfl, rfl, sc'.a.mulOk sa.b M0 M0 (by omega), ?_⟩
      refine ⟨_, rfl, _, rfl, _, _, rfl, rfl, sc'.b.mulOk sa.a M0 M0 (by omega), _, _, rfl, rfl, ?_⟩
      refine ⟨by show 2 ≤ sizeLine; decide, fun p2 n2' => ?_⟩
      have s15 := s14.trans (same_upd (o := .tup [.int nb, .int (vc.1 * va.2.1 - vc.2.1 * va.1)]) n2')
      have q2 : PairV K (upd H4 p2 (.tup [.int nb, .int (vc.1 * va.2.1 - vc.2.1 * va.1)])) (.ref p2) (nb, MT.P1 va vb vc) := ⟨p2, rfl, .of upd_same⟩
      replace q1 := PairV.same (same_upd (o := .tup [.int nb, .int (vc.1 * va.2.1 - vc.2.1 * va.1)]) n2') q1
      generalize upd H4 p2 (.tup [.int nb, .int (vc.1 * va.2.1 - vc.2.1 * va.1)]) = H5 at *
      refine ⟨_, rfl, _, rfl, _, rfl, _, _, rfl, rfl, sa.a.mulOk sb.b M0 M0 (by omega), ?_⟩
      refine ⟨_, rfl, _, rfl, _, _, rfl, rfl, sa.b.mulOk sb.a M0 M0 (by omega), _, _, rfl, rfl, ?_⟩
      refine ⟨by show 2 ≤ sizeLine; decide, fun p3 n3' => ?_⟩
      have s16 := s15.trans (same_upd (o := .tup [.int nc, .int (va.1 * vb.2.1 - va.2.1 * vb.1)]) n3')
      have q3 : PairV K (upd H5 p3 (.tup [.int nc, .int (va.1 * vb.2.1 - va.2.1 * vb.1)])) (.ref p3) (nc, MT.P2 va vb vc) := ⟨p3, rfl, .of upd_same⟩
      replace q1 := PairV.same (same_upd (o := .tup [.int nc, .int (va.1 * vb.2.1 - va.2.1 * vb.1)]) n3') q1
      replace q2 := PairV.same (same_upd (o := .tup [.int nc, .int (va.1 * vb.2.1 - va.2.1 * vb.1)]) n3') q2
      generalize upd H5 p3 (.tup [.int nc, .int (va.1 * vb.2.1 - va.2.1 * vb.1)]) = H6 at *
      refine ⟨by show 3 ≤ sizeLine; decide, fun L nL => ?_⟩
      have s17 := s16.trans (same_upd (o := .lst [.ref p1, .ref p2, .ref p3]) nL)
      have hL : upd H6 L (.lst [.ref p1, .ref p2, .ref p3]) L = some (.lst [.ref p1, .ref p2, .ref p3]) := upd_same
      have hP : LsV (PairV K (upd H6 L (.lst [.ref p1, .ref p2, .ref p3]))) [.ref p1, .ref p2, .ref p3] [((na : Int), MT.P0 va vb vc), ((nb : Int), MT.P1 va vb vc), ((nc : Int), MT.P2 va vb vc)] := by
        have S := same_upd (o := .lst [.ref p1, .ref p2, .ref p3]) nL
        exact .cons (PairV.same S q1) (.cons (PairV.same S q2) (.cons (PairV.same S q3) .nil))
      generalize upd H6 L (.lst [.ref p1, .ref p2, .ref p3]) = H7 at *
      clear q1 q2 q3 s12 s13 s14 s15 s16 nL n1' n2' n3' nT ra rb rc fl hD s2
      generalize hps : [((na : Int), MT.P0 va vb vc), ((nb : Int), MT.P1 va vb vc), ((nc : Int), MT.P2 va vb vc)] = ps at *
      generalize hys : [V.ref p1, .ref p2, .ref p3] = ys at *
      have hl3 : ys.length = 3 := by rw [← hys]; rfl
      have hwp : 0 < (ps.map Prod.snd).length := by rw [← hps]; exact Nat.zero_lt_succ _
      refine ⟨_, rfl, L, rfl, ⟨_, .of hL⟩, fun D1 nD1 => lc_list (xs := ys) (fun j H' => Same H7 H' ∧ H' D1 = some (.lst (((ps.map Prod.snd).take j).map V.int))) ⟨same_upd nD1, upd_same⟩ (fun j H' _ z => z.1.seq (.of hL)) ?_ ?_⟩
      · rintro j z H8 hj ⟨s8, hD⟩
        obtain ⟨e, hpj, zp, rfl, hz⟩ := hP.at hj
        have hj3 := (List.getElem?_eq_some_iff.mp hj).1
        refine ⟨zp, _, rfl, Same.tup s8 hz, rfl, _, _, rfl, _, _, rfl, rfl, ?_⟩
        simp only [List.set_cons_zero, List.set_cons_succ, List.map_cons, List.map_nil]
        refine ⟨rfl, ?_⟩
        dsimp only [tYes]
        rw [if_pos rfl]
        refine ⟨_, rfl, _, hD, ?_, same_keep nD1 s8 (Keep.upd D1 _ _), ?_⟩
        · have d : 1000 < sizeLine := by decide
          rw [List.length_map, List.length_take]
          omega
        · rw [upd_same, List.take_add_one, List.getElem?_map, hpj, List.map_append]
          rfl
      rintro H8 ⟨s8, hD1⟩
      rw [show ys.length = (ps.map Prod.snd).length by rw [List.length_map, hP.len], List.take_length] at hD1
      refine ⟨D1, _, rfl, .of hD1, hwp, fun m1 hm1 le1 => ?_⟩
      dsimp only [gName]
      have hL8 : H8 L = some (.lst ys) := s8 _ _ hL
      refine ⟨_, rfl, L, rfl, ⟨_, .of hL8⟩, fun D2 nD2 => lc_list (xs := ys) (fun j H' => Same H8 H' ∧ H' D2 = some (.lst (((ps.map Prod.snd).take j).map V.int))) ⟨same_upd nD2, upd_same⟩ (fun j H' _ z => z.1.seq (.of hL8)) ?_ ?_⟩
      · rintro j z H9 hj ⟨s9, hD⟩
        obtain ⟨e, hpj, zp, rfl, hz⟩ := hP.at hj
        have hj3 := (List.getElem?_eq_some_iff.mp hj).1
        refine ⟨zp, _, rfl, Same.tup s9 (Same.tup s8 hz), rfl, _, _, rfl, _, _, rfl, rfl, ?_⟩
        simp only [List.set_cons_zero, List.set_cons_succ, List.map_cons, List.map_nil]
        refine ⟨rfl, ?_⟩
        dsimp only [tYes]
        rw [if_pos rfl]
        refine ⟨_, rfl, _, hD, ?_, same_keep nD2 s9 (Keep.upd D2 _ _), ?_⟩
        · have d : 1000 < sizeLine := by decide
          rw [List.length_map, List.length_take]
          omega
        · rw [upd_same, List.take_add_one, List.getElem?_map, hpj, List.map_append]
          rfl
      rintro H9 ⟨s9, hD2⟩
      rw [show ys.length = (ps.map Prod.snd).length by rw [List.length_map, hP.len], List.take_length] at hD2
      refine ⟨D2, _, rfl, .of hD2, hwp, fun m2 hm2 le2 => ?_⟩
      dsimp only [gName]
      simp only [List.set_cons_zero, List.set_cons_succ]
      refine sTest_via (fun b H' => b = (decide (m1 < 0) && decide (0 < m2)) ∧ H' = H9) (fun Q' hq => ?_) ?_
      · refine ⟨_, rfl, ?_⟩
        dsimp only [tC]
        refine ⟨_, _, rfl, rfl, _, rfl, ?_⟩
        by_cases c : m1 < 0
        · refine iteTt (decide_eq_true c) ⟨_, rfl, _, _, rfl, rfl, _, rfl, hq _ _ ⟨?_, rfl⟩⟩
          rw [decide_eq_true c]
          rfl
        · refine iteFf (decide_eq_false c) ⟨_, rfl, hq _ _ ⟨?_, rfl⟩⟩
          rw [decide_eq_false c]
          rfl
      rintro b H10 ⟨rfl, rfl⟩
      have s19 := (s17.trans s8).trans s9
      have iff' := iff
      by_cases c : m1 < 0 ∧ 0 < m2
      · refine iteTt (by rw [decide_eq_true c.1, decide_eq_true c.2]; rfl) ?_
        refine ⟨s19, fun m hm t => ?_, _, _, _, _, _, _, _, _, _, _, _, _, _, _, _, _, _, _, _, rfl⟩
        rcases Nat.lt_or_ge m i with hlt | hge
        · exact no m hlt t
        have e : m = i := by omega
        subst e
        have t := iff.mp t
        rw [← hps] at hm1 hm2
        have a1 : m1 = MT.P0 va vb vc ∨ m1 = MT.P1 va vb vc ∨ m1 = MT.P2 va vb vc := by simpa using hm1
        have a2 : m2 = MT.P0 va vb vc ∨ m2 = MT.P1 va vb vc ∨ m2 = MT.P2 va vb vc := by simpa using hm2
        unfold MT.Takes at t
        omega
      refine iteFf (by rw [← Bool.decide_and]; exact decide_eq_false c) ?_
      dsimp only [tNext]
      have b1 : ∀ y, y ∈ [MT.P0 va vb vc, MT.P1 va vb vc, MT.P2 va vb vc] → m1 ≤ y ∧ y ≤ m2 := fun y hy => by
        have : y ∈ ps.map Prod.snd := by rw [← hps]; exact hy
        exact ⟨le1 y this, le2 y this⟩
      have c0 := b1 _ (List.mem_cons_self)
      have c1 := b1 _ (List.mem_cons_of_mem _ List.mem_cons_self)
      have c2 := b1 _ (List.mem_cons_of_mem _ (List.mem_cons_of_mem _ List.mem_cons_self))
      refine sJoin (fun σ' H' => ∃ (L' : Addr) (zs : List V) (k : Int) (y16 y17 y18 y19 y20 : Option V), Same H H' ∧ H' L' = some (.lst zs) ∧ LsV (PairV K H') zs [((na : Int), k * MT.P0 va vb vc), ((nb : Int), k * MT.P1 va vb vc), ((nc : Int), k * MT.P2 va vb vc)] ∧ (k = 1 ∨ k = -1) ∧ 0 ≤ k * MT.P0 va vb vc ∧ 0 ≤ k * MT.P1 va vb vc ∧ 0 ≤ k * MT.P2 va vb vc ∧
        σ' = [some (.ref r), some (.ref l), some (.int x), some (.int na), some (.int nb), some (.int nc), some (.int va.1), some (.int va.2.1), some (.int va.2.2), some (.int vb.1), some (.int vb.2.1), some (.int vb.2.2), some (.int vc.1), some (.int vc.2.1), some (.int vc.2.2), some (.ref L'), y16, y17, y18, y19, y20]) (fun N hN => ?_) ?_
      · refine sLast_via (fun t H' => t = decide (m1 < 0) ∧ H' = H10) (fun Q' k => ?_) ?_
        · refine ⟨_, rfl, _, _, rfl, rfl, _, rfl, ?_⟩
          exact k _ _ ⟨rfl, rfl⟩
        rintro t H11 ⟨rfl, rfl⟩
        have hL9 : H11 L = some (.lst ys) := s9 _ _ hL8
        have hP9 := hP.map (fun v x h => PairV.same (s8.trans s9) h)
        by_cases c3 : m1 < 0
        · refine iteTt (decide_eq_true c3) ?_
          refine ⟨_, rfl, L, rfl, ⟨_, .of hL9⟩, fun D3 nD3 => lc_list (xs := ys) (fun j H' => Same H11 H' ∧ ∃ zs, H' D3 = some (.lst zs) ∧ zs.length ≤ j ∧ LsV (PairV K H') zs ((ps.take j).map fun p => (p.1, -1 * p.2))) ⟨same_upd nD3, [], upd_same, Nat.le_refl 0, by rw [List.take_zero]; exact .nil⟩ (fun j H' _ z => z.1.seq (.of hL9)) ?_ ?_⟩
          · rintro j z H12 hj ⟨s12, zs, hD, hz3, hzs⟩
            obtain ⟨e, hpj, zp, rfl, hz⟩ := hP9.at hj
            have hj3 := (List.getElem?_eq_some_iff.mp hj).1
            refine ⟨zp, _, rfl, Same.tup s12 hz, rfl, _, _, rfl, _, _, rfl, rfl, ?_⟩
            simp only [List.set_cons_zero, List.set_cons_succ, List.map_cons, List.map_nil]
            refine ⟨rfl, ?_⟩
            dsimp only [tYes]
            rw [if_pos rfl]
            refine ⟨_, rfl, _, rfl, _, rfl, ?_⟩
            refine ⟨by show 2 ≤ sizeLine; decide, fun p np => ?_⟩
            have S := same_upd (o := .tup [.int e.1, .int (-e.2)]) np
            have hD' := S _ _ hD
            have hv : PairV K (upd H12 p (.tup [.int e.1, .int (-e.2)])) (.ref p) (e.1, -1 * e.2) := ⟨p, rfl, by rw [Int.neg_one_mul]; exact .of upd_same⟩
            have hzs' := hzs.map (fun v x h => PairV.same S h)
            generalize upd H12 p (.tup [.int e.1, .int (-e.2)]) = H13 at *
            refine ⟨zs, hD', by have d : 1000 < sizeLine := by decide
                                omega, same_keep nD3 (s12.trans S) (Keep.upd D3 _ _), _, upd_same, by rw [List.length_append]; exact Nat.succ_le_succ hz3, ?_⟩
            rw [List.take_add_one, hpj, List.map_append]
            exact (hzs'.map (fun v x h => PairV.keep (Keep.upd D3 _ _) hD' h)).app (.cons (PairV.keep (Keep.upd D3 _ _) hD' hv) .nil)
          rintro H12 ⟨s12, zs, hD, _, hzs⟩
          rw [hP.len, List.take_length, ← hps] at hzs
          refine hN _ _ ⟨D3, zs, -1, _, _, _, _, _, s19.trans s12, hD, hzs, .inr rfl, by omega, by omega, by omega, rfl⟩
        · refine iteFf (decide_eq_false c3) ?_
          dsimp only [tNext]
          refine hN _ _ ⟨L, ys, 1, _, _, _, _, _, s19, hL9, ?_, .inl rfl, by omega, by omega, by omega, rfl⟩
          rw [Int.one_mul, Int.one_mul, Int.one_mul, hps]
          exact hP9
      rintro σ' H' ⟨L', zs, k, z16, z17, z18, z19, z20, s20, hL', hZ, hk, w0, w1, w2, rfl⟩
      obtain ⟨_, g0, u0, rfl, t0⟩ := hZ.at' (i := 0) rfl
      obtain ⟨_, g1, u1, rfl, t1⟩ := hZ.at' (i := 1) rfl
      obtain ⟨_, g2, u2, rfl, t2⟩ := hZ.at' (i := 2) rfl
      have szk : ∀ {z : Int}, Sz (M + M + 1) z → Sz (M + M + 1) (k * z) := fun {z} h => by
        unfold Sz at *
        rw [Int.natAbs_mul, show k.natAbs = 1 by omega, Nat.one_mul]
        exact h
      have x0 : Sz (M + M + 1) (k * MT.P0 va vb vc) := szk ((sb.a.mul sc'.b).sub (sb.b.mul sc'.a))
      have x1 : Sz (M + M + 1) (k * MT.P1 va vb vc) := szk ((sc'.a.mul sa.b).sub (sc'.b.mul sa.a))
      have x2 : Sz (M + M + 1) (k * MT.P2 va vb vc) := szk ((sa.a.mul sb.b).sub (sa.b.mul sb.a))
      have cE : va.2.2 * (k * MT.P0 va vb vc) + vb.2.2 * (k * MT.P1 va vb vc) + vc.2.2 * (k * MT.P2 va vb vc) = k * MT.C3 va vb vc := three_c k va vb vc
      have aE : k * MT.P0 va vb vc * va.1 + (k * MT.P1 va vb vc * vb.1 + (k * MT.P2 va vb vc * vc.1 + 0)) = 0 := three_a k va vb vc
      have bE : k * MT.P0 va vb vc * va.2.1 + (k * MT.P1 va vb vc * vb.2.1 + (k * MT.P2 va vb vc * vc.2.1 + 0)) = 0 := three_b k va vb vc
      have tk' := takes_k hk w0 w1 w2
      have rA : rowAt rs (na : Int) = va := by
        unfold rowAt
        rw [Int.toNat_natCast, ea]
        rfl
      have rB : rowAt rs (nb : Int) = vb := by
        unfold rowAt
        rw [Int.toNat_natCast, eb]
        rfl
      have rC : rowAt rs (nc : Int) = vc := by
        unfold rowAt
        rw [Int.toNat_natCast, ec]
        rfl
      generalize MT.P0 va vb vc = P0 at *
      generalize MT.P1 va vb vc = P1 at *
      generalize MT.P2 va vb vc = P2 at *
      refine sLast_via (fun t H1 => t = decide (k * MT.C3 va vb vc < 0) ∧ H1 = H') (fun Q' kk => ?_) ?_
      · refine ⟨_, rfl, _, rfl, L', _, 0, _, rfl, rfl, .of hL', atI_nat (j := 0) g0, u0, _, 1, _, rfl, rfl, t0, rfl, _, _, rfl, rfl, sa.c.mulOk x0 M0 (by omega) (by omega), ?_⟩
        refine ⟨_, rfl, _, rfl, L', _, 1, _, rfl, rfl, .of hL', atI_nat (j := 1) g1, u1, _, 1, _, rfl, rfl, t1, rfl, _, _, rfl, rfl, sb.c.mulOk x1 M0 (by omega) (by omega), _, _, rfl, rfl, ?_⟩
        refine ⟨_, rfl, _, rfl, L', _, 2, _, rfl, rfl, .of hL', atI_nat (j := 2) g2, u2, _, 1, _, rfl, rfl, t2, rfl, _, _, rfl, rfl, sc'.c.mulOk x2 M0 (by omega) (by omega), _, _, rfl, rfl, ?_⟩
        refine ⟨_, _, rfl, rfl, _, rfl, ?_⟩
        exact kk _ _ ⟨by rw [cE], rfl⟩
      rintro t H11 ⟨rfl, rfl⟩
      by_cases c4 : k * MT.C3 va vb vc < 0
      · refine iteTt (decide_eq_true c4) ⟨_, rfl, ?_⟩
        refine q L' zs _ _ s20 hL' hZ rfl ?_ ?_ ?_ ?_ ?_
        · intro p hp
          have : p = ((na : Int), k * P0) ∨ p = ((nb : Int), k * P1) ∨ p = ((nc : Int), k * P2) := by simpa using hp
          rcases this with rfl | rfl | rfl
          · exact ⟨Int.natCast_nonneg _, Int.ofNat_lt.mpr hna⟩
          · exact ⟨Int.natCast_nonneg _, Int.ofNat_lt.mpr hnb⟩
          · exact ⟨Int.natCast_nonneg _, Int.ofNat_lt.mpr hnc⟩
        · intro p hp
          have : p = ((na : Int), k * P0) ∨ p = ((nb : Int), k * P1) ∨ p = ((nc : Int), k * P2) := by simpa using hp
          rcases this with rfl | rfl | rfl
          · exact ⟨w0, x0⟩
          · exact ⟨w1, x1⟩
          · exact ⟨w2, x2⟩
        · show k * P0 * (rowAt rs na).1 + (k * P1 * (rowAt rs nb).1 + (k * P2 * (rowAt rs nc).1 + 0)) = 0
          rw [rA, rB, rC]
          exact aE
        · show k * P0 * (rowAt rs na).2.1 + (k * P1 * (rowAt rs nb).2.1 + (k * P2 * (rowAt rs nc).2.1 + 0)) = 0
          rw [rA, rB, rC]
          exact bE
        · show k * P0 * (rowAt rs na).2.2 + (k * P1 * (rowAt rs nb).2.2 + (k * P2 * (rowAt rs nc).2.2 + 0)) < 0
          rw [rA, rB, rC, Int.mul_comm _ va.2.2, Int.mul_comm _ vb.2.2, Int.mul_comm _ vc.2.2]
          omega
      · refine iteFf (decide_eq_false c4) ?_
        refine ⟨s20, fun m hm t => ?_, _, _, _, _, _, _, _, _, _, _, _, _, _, _, _, _, _, _, _, rfl⟩
        rcases Nat.lt_or_ge m i with hlt | hge
        · exact no m hlt t
        have e : m = i := by omega
        subst e
        exact c4 (tk'.mp (iff.mp t))
    · rintro σ H1 ⟨s1, no, _⟩
      exfalso
      obtain ⟨m, hm⟩ := tk
      rw [List.length_map, nlen] at no
      rcases Nat.lt_or_ge m 4 with h | h
      · exact no m h hm
      · match m, h, hm with
        | m + 4, _, hm => exact hm
end
end K29

namespace K29
open PySem PySem.Spec PyProof.Rows L2 My
local macro_rules | `(tactic| walk_at "side") => `(tactic| (first
  | assumption
  | (refine OkMod.mk ?_; omega)
  | (refine mulOkL ?_ ?_ <;> omega)
  | (refine mulOkR ?_ ?_ <;> omega)
  | (refine divOk ?_ ?_ <;> omega)))
local macro_rules | `(tactic| walk_at "rd") => `(tactic| (first
  | with_reducible refine ⟨_, rfl, ?_⟩
  | refine ⟨_, rfl, ?_⟩
  | refine ⟨_, _, rfl, rfl, ?_⟩
  | refine And.intro (by walk_at "side") ?_
  | refine ⟨_, _, rfl, asm (by assumption), ?_⟩
  | refine ⟨_, _, rfl, asm ?_⟩))
section
variable {P : Program} {w : World} {K : PySem.W.Frag} {mg : Str → Option Value} {base : Heap}

/-! ### the rows that weights use -/
def usedFrom : Nat → List Int → List Nat
  | _, [] => []
  | k, w :: ws => if w ≠ 0 then k :: usedFrom (k + 1) ws else usedFrom (k + 1) ws
theorem used_len : ∀ (k : Nat) (ws : List Int), (usedFrom k ws).length = nz ws
  | _, [] => rfl
  | k, w :: ws => by
    rw [nz_cons]
    unfold usedFrom
    split
    · rw [List.length_cons, used_len (k + 1) ws]
      omega
    · rw [used_len (k + 1) ws]
      omega
theorem used_mem : ∀ {k : Nat} {ws : List Int} {i : Nat}, i ∈ usedFrom k ws → ∃ j w, i = k + j ∧ ws[j]? = some w ∧ w ≠ 0
  | k, w :: ws, i, h => by
    unfold usedFrom at h
    split at h
    · rename_i hw
      rcases List.mem_cons.mp h with rfl | h
      · exact ⟨0, w, rfl, rfl, hw⟩
      · obtain ⟨j, v, e, g, n⟩ := used_mem h
        exact ⟨j + 1, v, by omega, g, n⟩
    · obtain ⟨j, v, e, g, n⟩ := used_mem h
      exact ⟨j + 1, v, by omega, g, n⟩
theorem used_ge {k : Nat} {ws : List Int} {i : Nat} (h : i ∈ usedFrom k ws) : k ≤ i := by
  obtain ⟨j, _, e, _⟩ := used_mem h
  omega
theorem used_nodup : ∀ (k : Nat) (ws : List Int), (usedFrom k ws).Nodup
  | _, [] => List.Pairwise.nil
  | k, w :: ws => by
    unfold usedFrom
    split
    · refine List.Pairwise.cons (fun i hi e => ?_) (used_nodup (k + 1) ws)
      have := used_ge hi
      omega
    · exact used_nodup (k + 1) ws
/-- only the rows that are used count -/
theorem dotw_used (f : LineR → Int) (ws0 : List Int) (rs0 : List LineR) (he : ws0.length = rs0.length) : ∀ (k : Nat), k ≤ ws0.length → dotw f (ws0.drop k) (rs0.drop k) = ((usedFrom k (ws0.drop k)).map fun i : Nat => (ws0[i]?).getD 0 * f (rowAt rs0 i)).sum := by
  intro k hk
  obtain ⟨d, hd⟩ : ∃ d, d = ws0.length - k := ⟨_, rfl⟩
  induction d generalizing k with
  | zero =>
    rw [List.drop_eq_nil_of_le (by omega), List.drop_eq_nil_of_le (by omega)]
    rfl
  | succ d ih =>
    have h1 : k < ws0.length := by omega
    have h2 : k < rs0.length := by omega
    have := ih (k + 1) (by omega) (by omega)
    rw [List.drop_eq_getElem_cons h1, List.drop_eq_getElem_cons h2]
    unfold usedFrom
    show ws0[k] * f rs0[k] + dotw f (ws0.drop (k + 1)) (rs0.drop (k + 1)) = _
    rw [this]
    have er : rowAt rs0 k = rs0[k] := by
      unfold rowAt
      rw [Int.toNat_natCast, List.getElem?_eq_getElem h2]
      rfl
    split
    · rw [List.map_cons, List.sum_cons, List.getElem?_eq_getElem h1, er]
      rfl
    · rename_i z
      rw [show ws0[k] = 0 by omega, Int.zero_mul, Int.zero_add]
theorem fold_at : ∀ (ps : List (Int × Int)) (ws : List Int) (i : Nat), ((ps.foldl addAt ws)[i]?).getD 0 ≠ 0 → (ws[i]?).getD 0 ≠ 0 ∨ ∃ p ∈ ps, p.1.toNat = i
  | [], _, _, h => .inl h
  | p :: ps, ws, i, h => by
    rcases fold_at ps (addAt ws p) i h with h | ⟨q, hq, e⟩
    · by_cases e : p.1.toNat = i
      · exact .inr ⟨p, List.mem_cons_self, e⟩
      · left
        unfold addAt at h
        rwa [List.getElem?_set_ne e] at h
    · exact .inr ⟨q, List.mem_cons_of_mem _ hq, e⟩
theorem wsum_at {n : Nat} {ps : List (Int × Int)} {i : Nat} {w : Int} (h : (wOf n ps)[i]? = some w) (hw : w ≠ 0) : ∃ p ∈ ps, p.1.toNat = i := by
  unfold wOf at h
  rw [List.getElem?_map] at h
  cases e : (wsum n ps)[i]? with
  | none =>
    rw [e] at h
    cases h
  | some v =>
    rw [e] at h
    cases h
    have v0 : v ≠ 0 := fun z => by
      apply hw
      show v / _ = 0
      rw [z, Int.zero_ediv]
    rcases fold_at ps (List.replicate n 0) i (by
      show ((wsum n ps)[i]?).getD 0 ≠ 0
      rw [e]
      exact v0) with h | h
    · exfalso
      rw [List.getElem?_replicate] at h
      split at h <;> exact h rfl
    · exact h
/-- four of four: they are all used -/
theorem all_four {n0 n1 n2 n3 a b c d : Nat} (h01 : n0 ≠ n1) (h02 : n0 ≠ n2) (h03 : n0 ≠ n3) (h12 : n1 ≠ n2) (h13 : n1 ≠ n3) (h23 : n2 ≠ n3) (g0 : n0 = a ∨ n0 = b ∨ n0 = c ∨ n0 = d) (g1 : n1 = a ∨ n1 = b ∨ n1 = c ∨ n1 = d)
    (g2 : n2 = a ∨ n2 = b ∨ n2 = c ∨ n2 = d) (g3 : n3 = a ∨ n3 = b ∨ n3 = c ∨ n3 = d) : (a = n0 ∨ a = n1 ∨ a = n2 ∨ a = n3) ∧ (b = n0 ∨ b = n1 ∨ b = n2 ∨ b = n3) ∧ (c = n0 ∨ c = n1 ∨ c = n2 ∨ c = n3) ∧ (d = n0 ∨ d = n1 ∨ d = n2 ∨ d = n3) := by
  rcases g0 with rfl | rfl | rfl | rfl <;> rcases g1 with rfl | rfl | rfl | rfl <;> (try exact absurd rfl h01) <;> rcases g2 with rfl | rfl | rfl | rfl <;> (try exact absurd rfl h02) <;> (try exact absurd rfl h12) <;> omega
/-- the program's weights use four rows: then three of these are empty already -/
theorem clash_takes {rs : List LineR} {ps : List (Int × Int)} (E : Emp rs (wOf rs.length ps)) (hb : ∀ p ∈ ps, 0 ≤ p.1 ∧ (rowAt rs p.1).2.1 ≠ 0) (l4 : ps.length ≤ 4) (u4 : 3 < nz (wOf rs.length ps)) {p q : Int × Int} (hp : p ∈ ps) (hq : q ∈ ps) (pq : MT.cr (rowAt rs p.1) (rowAt rs q.1) ≠ 0) :
    ∃ n0 n1 n2 n3 v0 v1 v2 v3, usedFrom 0 (wOf rs.length ps) = [n0, n1, n2, n3] ∧ rs[n0]? = some v0 ∧ rs[n1]? = some v1 ∧ rs[n2]? = some v2 ∧ rs[n3]? = some v3 ∧ ∃ i, TakesAt v0 v1 v2 v3 i := by
  have ul := used_len 0 (wOf rs.length ps)
  have nd := used_nodup 0 (wOf rs.length ps)
  have um := fun i (h : i ∈ usedFrom 0 (wOf rs.length ps)) => used_mem h
  have sum := fun f => dotw_used f (wOf rs.length ps) rs E.len 0 (Nat.zero_le _)
  simp only [List.drop_zero] at sum
  have n4 : nz (wOf rs.length ps) ≤ ps.length := by
    have := nz_wsum rs.length ps
    have k := nz_div (g := (gcdAll (wsum rs.length ps) : Int)) (wsum rs.length ps)
    unfold wOf
    omega
  generalize hW : wOf rs.length ps = W at *
  have fours : ∀ {α : Type} {l : List α}, l.length = 4 → ∃ a b c d, l = [a, b, c, d] := fun {α l} h => by
    match l, h with
    | [a, b, c, d], _ => exact ⟨a, b, c, d, rfl⟩
  obtain ⟨n0, n1, n2, n3, hu⟩ := fours (l := usedFrom 0 W) (by omega)
  obtain ⟨a, b, c, d, hps⟩ := fours (l := ps) (by omega)
  rw [hu] at nd um sum
  have get : ∀ i, i ∈ [n0, n1, n2, n3] → ∃ w v, W[i]? = some w ∧ 0 < w ∧ rs[i]? = some v ∧ rowAt rs i = v ∧ v.2.1 ≠ 0 ∧ (i = a.1.toNat ∨ i = b.1.toNat ∨ i = c.1.toNat ∨ i = d.1.toNat) := fun i hi => by
    obtain ⟨j, w, e, hw, w0⟩ := um i hi
    rw [Nat.zero_add] at e
    subst e
    have wp := E.pos w (List.mem_of_getElem? hw)
    have lt := (List.getElem?_eq_some_iff.mp hw).1
    rw [E.len] at lt
    have hv := List.getElem?_eq_getElem lt
    have hr : rowAt rs i = rs[i] := by
      unfold rowAt
      rw [Int.toNat_natCast, hv]
      rfl
    have hw' := hw
    rw [← hW] at hw'
    obtain ⟨p, hp, e⟩ := wsum_at hw' w0
    refine ⟨w, rs[i], hw, by omega, hv, hr, ?_, ?_⟩
    · rw [← hr, ← e, Int.toNat_of_nonneg (hb p hp).1]
      exact (hb p hp).2
    · rw [hps] at hp
      have : p = a ∨ p = b ∨ p = c ∨ p = d := by simpa using hp
      rcases this with rfl | rfl | rfl | rfl <;> omega
  obtain ⟨w0, v0, hw0, p0, hv0, r0, b0, g0⟩ := get n0 (by simp)
  obtain ⟨w1, v1, hw1, p1, hv1, r1, b1, g1⟩ := get n1 (by simp)
  obtain ⟨w2, v2, hw2, p2, hv2, r2, b2, g2⟩ := get n2 (by simp)
  obtain ⟨w3, v3, hw3, p3, hv3, r3, b3, g3⟩ := get n3 (by simp)
  have h01 : n0 ≠ n1 := fun z => by subst z; simp at nd
  have h02 : n0 ≠ n2 := fun z => by subst z; simp at nd
  have h03 : n0 ≠ n3 := fun z => by subst z; simp at nd
  have h12 : n1 ≠ n2 := fun z => by subst z; simp at nd
  have h13 : n1 ≠ n3 := fun z => by subst z; simp at nd
  have h23 : n2 ≠ n3 := fun z => by subst z; simp at nd
  obtain ⟨ka, kb, kc, kd⟩ := all_four h01 h02 h03 h12 h13 h23 g0 g1 g2 g3
  have sum' : ∀ f : LineR → Int, dotw f W rs = w0 * f v0 + (w1 * f v1 + (w2 * f v2 + (w3 * f v3 + 0))) := fun f => by
    rw [sum f]
    show (W[n0]?).getD 0 * f (rowAt rs n0) + ((W[n1]?).getD 0 * f (rowAt rs n1) + ((W[n2]?).getD 0 * f (rowAt rs n2) + ((W[n3]?).getD 0 * f (rowAt rs n3) + 0))) = _
    rw [hw0, hw1, hw2, hw3, r0, r1, r2, r3]
    rfl
  have F : MT.Four v0 v1 v2 v3 w0 w1 w2 w3 := ⟨by have := E.a; rw [sum'] at this; omega, by have := E.b; rw [sum'] at this; omega⟩
  have C : MT.csum v0 v1 v2 v3 w0 w1 w2 w3 < 0 := by
    have := E.c
    rw [sum'] at this
    unfold MT.csum
    omega
  refine ⟨n0, n1, n2, n3, v0, v1, v2, v3, hu, hv0, hv1, hv2, hv3, ?_⟩
  have ne : ¬ (MT.cr v0 v1 = 0 ∧ MT.cr v0 v2 = 0 ∧ MT.cr v0 v3 = 0 ∧ MT.cr v1 v2 = 0 ∧ MT.cr v1 v3 = 0 ∧ MT.cr v2 v3 = 0) := by
    rintro ⟨z1, z2, z3, z4, z5, z6⟩
    have at1 : ∀ p ∈ ps, rowAt rs p.1 = v0 ∨ rowAt rs p.1 = v1 ∨ rowAt rs p.1 = v2 ∨ rowAt rs p.1 = v3 := fun p hp => by
      have e : p.1 = (p.1.toNat : Int) := (Int.toNat_of_nonneg (hb p hp).1).symm
      have : p.1.toNat = n0 ∨ p.1.toNat = n1 ∨ p.1.toNat = n2 ∨ p.1.toNat = n3 := by
        rw [hps] at hp
        have : p = a ∨ p = b ∨ p = c ∨ p = d := by simpa using hp
        rcases this with rfl | rfl | rfl | rfl
        · exact ka
        · exact kb
        · exact kc
        · exact kd
      rw [e]
      rcases this with z | z | z | z
      · rw [z, r0]
        exact .inl rfl
      · rw [z, r1]
        exact .inr (.inl rfl)
      · rw [z, r2]
        exact .inr (.inr (.inl rfl))
      · rw [z, r3]
        exact .inr (.inr (.inr rfl))
    have cs : ∀ x : LineR, MT.cr x x = 0 := fun x => by
      unfold MT.cr
      grind
    apply pq
    rcases at1 p hp with e | e | e | e <;> rcases at1 q hq with e' | e' | e' | e' <;> rw [e, e'] <;> first | exact cs _ | assumption | exact MT.cr_neg (by assumption)
  rcases MT.four_takes F p0 p1 p2 p3 C b0 b1 b2 b3 ne with t | t | t | t
  · exact ⟨0, t⟩
  · exact ⟨1, t⟩
  · exact ⟨2, t⟩
  · exact ⟨3, t⟩
end
end K29

namespace K29
open PySem PySem.Spec PyProof.Rows L2 My
local macro_rules | `(tactic| walk_at "side") => `(tactic| (first
  | assumption
  | (refine OkMod.mk ?_; omega)
  | (refine mulOkL ?_ ?_ <;> omega)
  | (refine mulOkR ?_ ?_ <;> omega)
  | (refine divOk ?_ ?_ <;> omega)))
local macro_rules | `(tactic| walk_at "rd") => `(tactic| (first
  | with_reducible refine ⟨_, rfl, ?_⟩
  | refine ⟨_, rfl, ?_⟩
  | refine ⟨_, _, rfl, rfl, ?_⟩
  | refine And.intro (by walk_at "side") ?_
  | refine ⟨_, _, rfl, asm (by assumption), ?_⟩
  | refine ⟨_, _, rfl, asm ?_⟩))
section
variable {P : Program} {w : World} {K : PySem.W.Frag} {mg : Str → Option Value} {base : Heap}

/-! ### _clash -/
theorem wOf_len (n : Nat) (ps : List (Int × Int)) : (wOf n ps).length = n := by
  unfold wOf
  rw [List.length_map, wsum_len]
def spClash (K : PySem.W.Frag) (C : Addr) : Sp := fun vs H Q _ => ∃ (x r u l : Addr) (xs : List V) (rs : List LineR) (M : Nat) (lo hi : Bdy) (W : Option (List Int)), vs = [.ref x, .ref r] ∧
  SqA K H r xs ∧ RowsV K H xs rs ∧ rs.length ≤ 100 ∧ (∀ v ∈ rs, RowS M v) ∧ BdOk rs M lo ∧ BdOk rs M hi ∧ lo.1 < 0 ∧ 0 < hi.1 ∧ hi.2.1 * -lo.1 < -lo.2.1 * hi.1 ∧ 0 < M ∧ M ≤ 3900 ∧ OutAt K H C x u l (some lo) (some hi) W ∧
  ∀ H' ws, Keep x H H' → Emp rs ws → nz ws ≤ 3 → OutAt K H' C x u l (some lo) (some hi) (some ws) → Q .non H'
/-- both ends' parts, so many times that a vanishes -/
def clashP (lo hi : Bdy) : List (Int × Int) := (lo.2.2.map fun p => (p.1, p.2 * hi.1)) ++ hi.2.2.map fun p => (p.1, p.2 * -lo.1)
theorem clash_emp {rs : List LineR} {M : Nat} {lo hi : Bdy} (L : BdOk rs M lo) (U : BdOk rs M hi) (l0 : lo.1 < 0) (h0 : 0 < hi.1) (c : hi.2.1 * -lo.1 < -lo.2.1 * hi.1) :
    InRows rs (clashP lo hi) ∧ (∀ p ∈ clashP lo hi, 0 < p.2) ∧ (∀ p ∈ clashP lo hi, Sz (M + M) p.2) ∧ 0 < gcdAll (wsum rs.length (clashP lo hi)) ∧ Emp rs (wOf rs.length (clashP lo hi)) ∧ nz (wOf rs.length (clashP lo hi)) ≤ (clashP lo hi).length := by
  have mem : ∀ p ∈ clashP lo hi, (∃ q ∈ lo.2.2, p = (q.1, q.2 * hi.1)) ∨ ∃ q ∈ hi.2.2, p = (q.1, q.2 * -lo.1) := fun p hp => by
    rcases List.mem_append.mp hp with h | h
    · obtain ⟨q, hq, e⟩ := List.mem_map.mp h
      exact .inl ⟨q, hq, e.symm⟩
    · obtain ⟨q, hq, e⟩ := List.mem_map.mp h
      exact .inr ⟨q, hq, e.symm⟩
  have ir : InRows rs (clashP lo hi) := fun p hp => by
    rcases mem p hp with ⟨q, hq, rfl⟩ | ⟨q, hq, rfl⟩
    · exact L.rows q hq
    · exact U.rows q hq
  have pos : ∀ p ∈ clashP lo hi, 0 < p.2 := fun p hp => by
    rcases mem p hp with ⟨q, hq, rfl⟩ | ⟨q, hq, rfl⟩
    · exact Int.mul_pos (L.pos q hq) h0
    · exact Int.mul_pos (U.pos q hq) (by omega)
  have sz : ∀ p ∈ clashP lo hi, Sz (M + M) p.2 := fun p hp => by
    rcases mem p hp with ⟨q, hq, rfl⟩ | ⟨q, hq, rfl⟩
    · exact (L.sz q hq).mul U.za
    · refine (U.sz q hq).mul ?_
      have := L.za
      unfold Sz at *
      rw [Int.natAbs_neg]
      exact this
  have key : ∀ f : LineR → Int, psum f rs (clashP lo hi) = psum f rs lo.2.2 * hi.1 + psum f rs hi.2.2 * -lo.1 := fun f => by
    unfold clashP
    rw [psum_app, psum_times, psum_times]
  refine ⟨ir, pos, sz, emp_of ir (fun p hp => Int.le_of_lt (pos p hp)) ?_ ?_ ?_⟩
  · rw [key, L.sa, U.sa]
    grind
  · rw [key, L.sb, U.sb]
    simp
  · rw [key, L.sc, U.sc]
    grind
theorem clash_four {rs : List LineR} {M : Nat} {lo hi : Bdy} (L : BdOk rs M lo) (U : BdOk rs M hi) (l0 : lo.1 < 0) (h0 : 0 < hi.1) (c : hi.2.1 * -lo.1 < -lo.2.1 * hi.1) (u4 : 3 < nz (wOf rs.length (clashP lo hi))) :
    ∃ n0 n1 n2 n3 v0 v1 v2 v3, usedFrom 0 (wOf rs.length (clashP lo hi)) = [n0, n1, n2, n3] ∧ rs[n0]? = some v0 ∧ rs[n1]? = some v1 ∧ rs[n2]? = some v2 ∧ rs[n3]? = some v3 ∧ ∃ i, TakesAt v0 v1 v2 v3 i := by
  obtain ⟨ir, _, _, _, E, n4⟩ := clash_emp L U l0 h0 c
  have ln : (clashP lo hi).length = lo.2.2.length + hi.2.2.length := by
    unfold clashP
    rw [List.length_append, List.length_map, List.length_map]
  have a := L.len
  have b := U.len
  have l2 : lo.2.2.length = 2 := by omega
  have u2 : hi.2.2.length = 2 := by omega
  have bl := L.bn l2
  have bu := U.bn u2
  obtain ⟨p, q, e⟩ : ∃ p q, lo.2.2 = [p, q] := by
    match lo.2.2, l2 with
    | [p, q], _ => exact ⟨p, q, rfl⟩
  have sa := L.sa
  have sb := L.sb
  rw [e, psum_cons, psum_cons, psum_nil] at sa sb
  have hp : (p.1, p.2 * hi.1) ∈ clashP lo hi := by
    unfold clashP
    rw [e]
    exact List.mem_append_left _ List.mem_cons_self
  have hq : (q.1, q.2 * hi.1) ∈ clashP lo hi := by
    unfold clashP
    rw [e]
    exact List.mem_append_left _ (List.mem_cons_of_mem _ List.mem_cons_self)
  have bq := bl q (by rw [e]; exact List.mem_cons_of_mem _ List.mem_cons_self)
  refine clash_takes E (fun t ht => ⟨(ir t ht).1, ?_⟩) (by omega) u4 hp hq fun z => ?_
  · rcases List.mem_append.mp ht with h | h
    · obtain ⟨s, hs, rfl⟩ := List.mem_map.mp h
      exact bl s hs
    · obtain ⟨s, hs, rfl⟩ := List.mem_map.mp h
      exact bu s hs
  · have z : (rowAt rs p.1).1 * (rowAt rs q.1).2.1 - (rowAt rs p.1).2.1 * (rowAt rs q.1).1 = 0 := z
    generalize rowAt rs p.1 = P at *
    generalize rowAt rs q.1 = R at *
    have : R.2.1 * lo.1 = 0 := by grind
    rcases Int.mul_eq_zero.mp this with z | z
    · exact bq z
    · omega
theorem nz_le : ∀ ws : List Int, nz ws ≤ ws.length := fun ws => List.length_filter_le _ _
theorem used_more : ∀ (k : Nat) (ws : List Int) (i : Nat) (w : Int), ws[i]? = some w → usedFrom k (ws.take (i + 1)) = usedFrom k (ws.take i) ++ if w ≠ 0 then [k + i] else []
  | _, [], _, _, h => nomatch h
  | k, v :: ws, 0, w, h => by
    cases h
    rw [List.take_succ_cons, List.take_zero, List.take_zero]
    unfold usedFrom
    split <;> rfl
  | k, v :: ws, i + 1, w, h => by
    have := used_more (k + 1) ws i w h
    rw [List.take_succ_cons, List.take_succ_cons]
    unfold usedFrom
    rw [this, show k + 1 + i = k + (i + 1) by omega]
    split <;> rfl
theorem ok_clash {f f1 f2 C : Addr} {fd fd1 fd2 : FuncData} (T : Nm mg) (R : OutC K C) (C_weights_of : Has P w K mg base "weights_of" 1 ["many", "parts"] (spWeights K) f1 fd1) (C_empty_three : Has P w K mg base "empty_three" 1 ["rows", "numbers"] (spThree K) f2 fd2)
    (F : Fun K "_clash" "Outline._clash" s_Outline__clash f fd) : FnOk P w K mg base CX0 2 f fd ["self", "rows"] (spClash K C) := by
  refine F.ok sc_Outline__clash (fun vs H Q E h => ?_) (fun cdv A outer s H vs Q E hr h => ?_)
  · obtain ⟨x, r, u, l, xs, rs, M, lo, hi, W, rfl, _⟩ := h
    rfl
  · obtain ⟨x, r, u, l, xs, rs, M, lo, hi, W, rfl, hr', hrs, h100, zr, L, U, l0, h0, cl, M0, M1, ⟨dx, vlo, plo, vhi, phi, vw, hx, ⟨elo, los, hlo, llo⟩, ⟨ehi, his, hhi, lhi⟩, ew⟩, q⟩ := h
    refine ⟨_, (pss_cons (ps_setLc (i := 2) (te := tTup (tCons (tVar 4) (tCons (tOp (rI OkMul fun i j => V.int (i * j)) (tVar 5) (tOp (rIxT K) (tFld K (tVar 0) "high") (tC (.int 1)))) tNil))) (own := [("at", 4), ("weight", 5)]) (g := gTup K 2 (gCons (gName 4) (gCons (gName 5) (gNil)))) (by rfl) sc_Outline__clash.nd rfl rfl (sw_true rfl rfl rfl (by decide +kernel)) (pi_list (pe_fld (pv 0) rfl)) (by exact blkOk_by (N := ["self", "rows", "parts", "used", "at", "weight"]) (sc := defScope s_Outline__clash) (by decide +kernel)) (fun _ _ _ _ _ => by exact (pg_tup rfl (pgs_cons (pg_name (i := 4) sc_Outline__clash.nd rfl (Or.inl rfl)) (pgs_cons (pg_name (i := 5) sc_Outline__clash.nd rfl (Or.inl rfl)) pgs_nil)))) (fun _ _ _ _ _ => pts_nil) (fun _ _ _ _ _ => by exact (pe_tup (pa_cons (pv 4) (pa_cons (pe_op op_mulA (pv 5) (pe_ix ix_tup (pe_fld (pv 0) rfl) pe_int (fun _ _ => rfl))) pa_nil)))))
    (pss_cons (ps_set (i := 2) sc_Outline__clash.nd rfl (Or.inl rfl) (pe_op op_cat (pv 2) (pe_lc (te := tTup (tCons (tVar 4) (tCons (tOp (rI OkMul fun i j => V.int (i * j)) (tVar 5) (tOp (rIxT K) (tFld K (tVar 0) "low") (tC (.int 1)))) tNil))) (own := [("at", 4), ("weight", 5)]) (g := gTup K 2 (gCons (gName 4) (gCons (gName 5) (gNil)))) (by rfl) sc_Outline__clash.nd (pi_list (pe_fld (pv 0) rfl)) (by exact blkOk_by (N := ["self", "rows", "parts", "used", "at", "weight"]) (sc := defScope s_Outline__clash) (by decide +kernel)) (fun _ _ _ _ _ => by exact (pg_tup rfl (pgs_cons (pg_name (i := 4) sc_Outline__clash.nd rfl (Or.inl rfl)) (pgs_cons (pg_name (i := 5) sc_Outline__clash.nd rfl (Or.inl rfl)) pgs_nil)))) (fun _ _ _ _ _ => pts_nil) (fun _ _ _ _ _ => by exact (pe_tup (pa_cons (pv 4) (pa_cons (pe_op op_mulA (pv 5) (pe_ix ix_tup (pe_fld (pv 0) rfl) pe_int (fun _ _ => rfl))) pa_nil)))))))
    (pss_cons (ps_fld (pv 0) (pe_call C_weights_of.G (hr.mono (by decide)) (by rfl) C_weights_of.g C_weights_of.k C_weights_of.b .nil pass0 (pa_cons (pe_callB call_lenA (by rfl) T.len (by decide +kernel) (pa_cons (pv 1) pa_nil)) (pa_cons (pv 2) pa_nil))) rfl)
    (pss_cons (ps_setLc (i := 3) (tt := fun σ H Q => tVar 5 σ H fun x H' => ∃ k, TruV K x H' k ∧ Q k H') (own := [("at", 4), ("weight", 5)]) (g := gTup K 2 (gCons (gName 4) (gCons (gName 5) (gNil)))) (by rfl) sc_Outline__clash.nd rfl rfl (sw_true rfl rfl rfl (by decide +kernel)) (pi_enum (by rfl) T.enumerate (pa_cons (pe_fld (pv 0) rfl) pa_nil)) (by exact blkOk_by (N := ["self", "rows", "parts", "used", "at", "weight"]) (sc := defScope s_Outline__clash) (by decide +kernel)) (fun _ _ _ _ _ => by exact (pg_tup rfl (pgs_cons (pg_name (i := 4) sc_Outline__clash.nd rfl (Or.inl rfl)) (pgs_cons (pg_name (i := 5) sc_Outline__clash.nd rfl (Or.inl rfl)) pgs_nil)))) (fun _ _ _ _ _ => by exact (pts_one (pt_truth (pv 5) (by intro _; rfl)))) (fun _ _ _ _ _ => (pv 4)))
    (pss_one (ps_if (pt_cmpR op_gt (pe_callB call_lenL (by rfl) T.len (by decide +kernel) (pa_cons (pv 3) pa_nil)) pe_int (nomark _))
      (pss_one (ps_fld (pv 0) (pe_call C_weights_of.G (hr.mono (by decide)) (by rfl) C_weights_of.g C_weights_of.k C_weights_of.b .nil pass0 (pa_cons (pe_callB call_lenA (by rfl) T.len (by decide +kernel) (pa_cons (pv 1) pa_nil)) (pa_cons (pe_call C_empty_three.G (hr.mono (by decide)) (by rfl) C_empty_three.g C_empty_three.k C_empty_three.b .nil pass0 (pa_cons (pv 1) (pa_cons (pv 3) pa_nil))) pa_nil))) rfl))
      pss_nil)))))), ?_⟩
    obtain ⟨pL, rfl, tL⟩ := elo
    obtain ⟨pH, rfl, tH⟩ := ehi
    have tH : SqT K H pH [.int hi.2.1, .int hi.1] := tH
    have tL : SqT K H pL [.int (-lo.2.1), .int (-lo.1)] := tL
    have d1000 : 1000 < sizeLine := by decide
    obtain ⟨ir, pos, psz, g0, em, n4⟩ := clash_emp L U l0 h0 cl
    have slo := L.sz
    have shi := U.sz
    have ll := L.len
    have lu := U.len
    refine ⟨_, rfl, x, C, dx, _, _, rfl, hx, R.cl, R.nop, rfl, plo, rfl, ⟨_, hlo⟩, fun D nD => lc_list (xs := los) (fun j H' => Same H H' ∧ ∃ zs, H' D = some (.lst zs) ∧ zs.length ≤ j ∧ LsV (PairV K H') zs ((lo.2.2.take j).map fun p => (p.1, p.2 * hi.1))) ⟨same_upd nD, [], upd_same, Nat.le_refl 0, by rw [List.take_zero]; exact .nil⟩ (fun j H' _ z => z.1.seq hlo) ?_ ?_⟩
    · rintro j z H2 hj ⟨s2, zs, hD, hz3, hzs⟩
      obtain ⟨e, hpj, zp, rfl, hz⟩ := llo.at hj
      have hjl := (List.getElem?_eq_some_iff.mp hpj).1
      refine ⟨zp, _, rfl, Same.tup s2 hz, rfl, _, _, rfl, _, _, rfl, rfl, ?_⟩
      simp only [List.set_cons_zero, List.set_cons_succ, List.map_cons, List.map_nil]
      refine ⟨rfl, ?_⟩
      dsimp only [tYes]
      rw [if_pos rfl]
      refine ⟨_, rfl, _, rfl, _, rfl, x, C, dx, _, _, rfl, s2 _ _ hx, R.cl, R.nh, rfl, pH, _, 1, _, rfl, rfl, Same.tup s2 tH, rfl, _, _, rfl, rfl, (slo e (List.mem_of_getElem? hpj)).mulOk U.za M0 M0 (by omega), ?_⟩
      refine ⟨by show 2 ≤ sizeLine; decide, fun p np => ?_⟩
      have S := same_upd (o := .tup [.int e.1, .int (e.2 * hi.1)]) np
      have hD' := S _ _ hD
      have hv : PairV K (upd H2 p (.tup [.int e.1, .int (e.2 * hi.1)])) (.ref p) (e.1, e.2 * hi.1) := ⟨p, rfl, .of upd_same⟩
      have hzs' := hzs.map (fun v x h => PairV.same S h)
      generalize upd H2 p (.tup [.int e.1, .int (e.2 * hi.1)]) = H3 at *
      refine ⟨zs, hD', by omega, same_keep nD (s2.trans S) (Keep.upd D _ _), _, upd_same, by rw [List.length_append]; exact Nat.succ_le_succ hz3, ?_⟩
      rw [List.take_add_one, hpj, List.map_append]
      exact (hzs'.map (fun v x h => PairV.keep (Keep.upd D _ _) hD' h)).app (.cons (PairV.keep (Keep.upd D _ _) hD' hv) .nil)
    rintro H2 ⟨s2, zs, hD, _, hzs⟩
    rw [llo.len, List.take_length] at hzs
    dsimp only [gName]
    have lhi2 := lhi.map (fun v x h => PairV.same s2 h)
    refine ⟨_, rfl, _, rfl, x, C, dx, _, _, rfl, s2 _ _ hx, R.cl, R.nhp, rfl, phi, rfl, ⟨_, s2.seq hhi⟩, fun D2 nD2 => lc_list (xs := his) (fun j H' => Same H2 H' ∧ ∃ zs, H' D2 = some (.lst zs) ∧ zs.length ≤ j ∧ LsV (PairV K H') zs ((hi.2.2.take j).map fun p => (p.1, p.2 * -lo.1))) ⟨same_upd nD2, [], upd_same, Nat.le_refl 0, by rw [List.take_zero]; exact .nil⟩ (fun j H' _ z => z.1.seq (s2.seq hhi)) ?_ ?_⟩
    · rintro j z H3 hj ⟨s3, zs2, hD2, hz3, hzs2⟩
      obtain ⟨e, hpj, zp, rfl, hz⟩ := lhi2.at hj
      have hjl := (List.getElem?_eq_some_iff.mp hpj).1
      refine ⟨zp, _, rfl, Same.tup s3 hz, rfl, _, _, rfl, _, _, rfl, rfl, ?_⟩
      simp only [List.set_cons_zero, List.set_cons_succ, List.map_cons, List.map_nil]
      refine ⟨rfl, ?_⟩
      dsimp only [tYes]
      rw [if_pos rfl]
      have zl : Sz M (-lo.1) := by
        have := L.za
        unfold Sz at *
        rw [Int.natAbs_neg]
        exact this
      refine ⟨_, rfl, _, rfl, _, rfl, x, C, dx, _, _, rfl, s3 _ _ (s2 _ _ hx), R.cl, R.no, rfl, pL, _, 1, _, rfl, rfl, Same.tup s3 (Same.tup s2 tL), rfl, _, _, rfl, rfl, (shi e (List.mem_of_getElem? hpj)).mulOk zl M0 M0 (by omega), ?_⟩
      refine ⟨by show 2 ≤ sizeLine; decide, fun p np => ?_⟩
      have S := same_upd (o := .tup [.int e.1, .int (e.2 * -lo.1)]) np
      have hD' := S _ _ hD2
      have hv : PairV K (upd H3 p (.tup [.int e.1, .int (e.2 * -lo.1)])) (.ref p) (e.1, e.2 * -lo.1) := ⟨p, rfl, .of upd_same⟩
      have hzs' := hzs2.map (fun v x h => PairV.same S h)
      generalize upd H3 p (.tup [.int e.1, .int (e.2 * -lo.1)]) = H4 at *
      refine ⟨zs2, hD', by omega, same_keep nD2 (s3.trans S) (Keep.upd D2 _ _), _, upd_same, by rw [List.length_append]; exact Nat.succ_le_succ hz3, ?_⟩
      rw [List.take_add_one, hpj, List.map_append]
      exact (hzs'.map (fun v x h => PairV.keep (Keep.upd D2 _ _) hD' h)).app (.cons (PairV.keep (Keep.upd D2 _ _) hD' hv) .nil)
    rintro H3 ⟨s3, zs2, hD2, _, hzs2⟩
    rw [show his.length = hi.2.2.length from lhi.len, List.take_length] at hzs2
    have nzs := hzs.len
    have nzs2 := hzs2.len
    rw [List.length_map] at nzs nzs2
    refine ⟨D, D2, zs, zs2, rfl, rfl, s3 _ _ hD, hD2, by omega, fun PL nPL => ?_⟩
    have s4 := (s2.trans s3).trans (same_upd (o := .lst (zs ++ zs2)) nPL)
    have hPL : upd H3 PL (.lst (zs ++ zs2)) PL = some (.lst (zs ++ zs2)) := upd_same
    have hps : LsV (PairV K (upd H3 PL (.lst (zs ++ zs2)))) (zs ++ zs2) (clashP lo hi) := by
      have S := same_upd (o := .lst (zs ++ zs2)) nPL
      exact (hzs.map (fun v x h => PairV.same (s3.trans S) h)).app (hzs2.map (fun v x h => PairV.same S h))
    generalize upd H3 PL (.lst (zs ++ zs2)) = H4 at *
    have c4 : (clashP lo hi).length ≤ 4 := by
      unfold clashP
      rw [List.length_append, List.length_map, List.length_map]
      omega
    dsimp only [gName]
    refine ⟨_, rfl, r, xs, rfl, hr'.same s4, _, rfl, PL, zs ++ zs2, rs.length, clashP lo hi, (by show [V.int ((xs.length : Nat) : Int), V.ref PL] = _; rw [hrs.len]), .of hPL, hps, h100, ir, g0, gcd_small psz c4 (by omega) g0, fun lw H5 s5 nlw hw => ?_⟩
    have hx5 := s5 _ _ (s4 _ _ hx)
    refine ⟨_, rfl, x, C, dx, _, rfl, hx5, R.cl, R.nw, by show 7 < 1000; decide, ?_⟩
    have el0 : EndV K H (.ref pL) plo true (some lo) := ⟨⟨pL, rfl, tL⟩, los, hlo, llo⟩
    have eh0 : EndV K H (.ref pH) phi false (some hi) := ⟨⟨pH, rfl, tH⟩, his, hhi, lhi⟩
    have s15 := s4.trans s5
    have k6 := Keep.upd x H5 (.ins C dx [("uppers", .ref u), ("lowers", .ref l), ("low", .ref pL), ("low_parts", .ref plo), ("high", .ref pH), ("high_parts", .ref phi), ("weights", .ref lw)])
    have hw : H5 lw = some (.lst ((wOf rs.length (clashP lo hi)).map V.int)) := hw
    have hw6 := k6 _ _ (fun z => by rw [z, hx5] at hw; cases hw) hw
    have hx6 : upd H5 x (.ins C dx [("uppers", .ref u), ("lowers", .ref l), ("low", .ref pL), ("low_parts", .ref plo), ("high", .ref pH), ("high_parts", .ref phi), ("weights", .ref lw)]) x = some (.ins C dx [("uppers", .ref u), ("lowers", .ref l), ("low", .ref pL), ("low_parts", .ref plo), ("high", .ref pH), ("high_parts", .ref phi), ("weights", .ref lw)]) := upd_same
    have el6 := (el0.same s15).ins k6 hx5
    have eh6 := (eh0.same s15).ins k6 hx5
    have hr6 := (hr'.same s15).keep k6 hx5
    have hrs6 := (hrs.same s15).map fun v r ⟨a, e, t⟩ => (⟨a, e, insT k6 hx5 t⟩ : RowV K _ v r)
    have k06 := (Keep.of (d := x) s15).trans k6
    have w7 : nz (wOf rs.length (clashP lo hi)) ≤ 4 := by omega
    have four := fun c => clash_four L U l0 h0 cl c
    show tSeq _ _ _ _ (upd H5 x (.ins C dx [("uppers", .ref u), ("lowers", .ref l), ("low", .ref pL), ("low_parts", .ref plo), ("high", .ref pH), ("high_parts", .ref phi), ("weights", .ref lw)]))
    generalize upd H5 x (.ins C dx [("uppers", .ref u), ("lowers", .ref l), ("low", .ref pL), ("low_parts", .ref plo), ("high", .ref pH), ("high_parts", .ref phi), ("weights", .ref lw)]) = H6 at *
    have wl := wOf_len rs.length (clashP lo hi)
    generalize wOf rs.length (clashP lo hi) = ws at *
    refine ⟨_, rfl, x, C, dx, _, _, rfl, hx6, R.cl, R.nw, rfl, lw, _, rfl, .of hw6, fun D3 nD3 => lc_it (tt := fun σ H Q => tVar 5 σ H fun x H' => ∃ k, TruV K x H' k ∧ Q k H') (walk_enum (K := K) (xs := ws.map V.int)) (fun i H' => Same H6 H' ∧ H' D3 = some (.lst (((usedFrom 0 (ws.take i)).map fun n : Nat => (n : Int)).map V.int))) ⟨same_upd nD3, upd_same⟩ (fun i H' _ z => z.1.seq (.of hw6)) ?_ ?_⟩
    · rintro i z H7 H8 hi' ⟨s7, h7⟩ ⟨T1, u', v, rfl, nT, rfl, e1, e2⟩
      obtain ⟨wv, hwv, rfl⟩ := getI e2
      cases e1
      have S := same_upd (o := .tup [.int (i : Int), .int wv]) nT
      refine ⟨T1, _, rfl, .inl (.inl upd_same), rfl, _, _, rfl, _, _, rfl, rfl, ?_⟩
      simp only [List.map_cons, List.map_nil]
      refine ⟨rfl, _, rfl, _, rfl, ?_⟩
      by_cases c : wv = 0
      · refine iteFf (by rw [c]; rfl) ⟨s7.trans S, ?_⟩
        rw [used_more 0 ws i wv hwv, if_neg (by simp [c]), List.append_nil]
        exact S _ _ h7
      · refine iteTt (by simp [c]) ⟨_, rfl, _, S _ _ h7, ?_, same_keep nD3 (s7.trans S) (Keep.upd D3 _ _), ?_⟩
        · rw [List.length_map, List.length_map, used_len]
          have := nz_le (ws.take i)
          rw [List.length_take] at this
          omega
        · rw [upd_same, used_more 0 ws i wv hwv, if_pos c, List.map_append, List.map_append, Nat.zero_add]
          rfl
    rintro H7 ⟨s7, h7⟩
    rw [List.length_map, List.take_length] at h7
    dsimp only [gName]
    have hx7 := s7 _ _ hx6
    have ln7 : ((usedFrom 0 ws).map fun n : Nat => (n : Int)).length = nz ws := by rw [List.length_map, used_len]
    refine sLast_via (fun t H' => t = decide (3 < nz ws) ∧ H' = H7) (fun Q' kk => ?_) ?_
    · refine ⟨_, rfl, D3, _, rfl, .of h7, _, _, rfl, rfl, _, rfl, kk _ _ ⟨?_, rfl⟩⟩
      rw [List.length_map, ln7, Bool.eq_iff_iff]
      simp only [decide_eq_true_iff]
      omega
    rintro t H8 ⟨rfl, rfl⟩
    by_cases c3 : 3 < nz ws
    · refine iteTt (decide_eq_true c3) ?_
      obtain ⟨n0, n1, n2, n3, v0, v1, v2, v3, hu, g0', g1', g2', g3', tk⟩ := four c3
      have nd := used_nodup 0 ws
      rw [hu] at h7 nd
      refine ⟨_, rfl, r, xs, rfl, hr6.same s7, _, rfl, _, rfl, r, D3, xs, rs, M, n0, n1, n2, n3, v0, v1, v2, v3, rfl, hr6.same s7, hrs6.same s7, h100, .of h7, nd, g0', g1', g2', g3', zr _ (List.mem_of_getElem? g0'), zr _ (List.mem_of_getElem? g1'), zr _ (List.mem_of_getElem? g2'), zr _ (List.mem_of_getElem? g3'), M0, by omega, tk, fun l' ys ps H9 s9 hl' hP p3 inr nn pa pb pc => ?_⟩
      obtain ⟨g9, em9, n9⟩ := emp_of inr (fun p hp => (nn p hp).1) pa pb pc
      refine ⟨l', ys, rs.length, ps, (by show [V.int ((xs.length : Nat) : Int), V.ref l'] = _; rw [hrs.len]), .of hl', hP, h100, inr, g9, gcd_small (fun p hp => (nn p hp).2) (by omega) (by omega) g9, fun lv H10 s10 _ hv => ?_⟩
      have s710 := (s7.trans s9).trans s10
      have hx10 := s710 _ _ hx6
      have hv : H10 lv = some (.lst ((wOf rs.length ps).map V.int)) := hv
      refine ⟨_, rfl, x, C, dx, _, rfl, hx10, R.cl, R.nw, by show 7 < 1000; decide, ?_⟩
      have k11 := Keep.upd x H10 (.ins C dx [("uppers", .ref u), ("lowers", .ref l), ("low", .ref pL), ("low_parts", .ref plo), ("high", .ref pH), ("high_parts", .ref phi), ("weights", .ref lv)])
      exact q _ (wOf rs.length ps) ((k06.trans (Keep.of s710)).trans k11) em9 (by omega) ⟨dx, _, _, _, _, _, upd_same, (el6.same s710).ins k11 hx10, (eh6.same s710).ins k11 hx10, lv, rfl, k11 _ _ (fun z => by rw [z, hx10] at hv; cases hv) hv⟩
    · refine iteFf (decide_eq_false c3) ?_
      dsimp only [tNext]
      exact q _ ws (k06.trans (Keep.of s7)) em (by omega) ⟨dx, _, _, _, _, _, hx7, el6.same s7, eh6.same s7, lw, rfl, s7 _ _ hw6⟩
end
end K29

namespace K29
open PySem PySem.Spec PyProof.Rows L2 My
local macro_rules | `(tactic| walk_at "side") => `(tactic| (first
  | assumption
  | (refine OkMod.mk ?_; omega)
  | (refine mulOkL ?_ ?_ <;> omega)
  | (refine mulOkR ?_ ?_ <;> omega)
  | (refine divOk ?_ ?_ <;> omega)))
local macro_rules | `(tactic| walk_at "rd") => `(tactic| (first
  | with_reducible refine ⟨_, rfl, ?_⟩
  | refine ⟨_, rfl, ?_⟩
  | refine ⟨_, _, rfl, rfl, ?_⟩
  | refine And.intro (by walk_at "side") ?_
  | refine ⟨_, _, rfl, asm (by assumption), ?_⟩
  | refine ⟨_, _, rfl, asm ?_⟩))
section
variable {P : Program} {w : World} {K : PySem.W.Frag} {mg : Str → Option Value} {base : Heap}

/-! ### is_bounded, whole_ends -/
def spIsB (K : PySem.W.Frag) (C : Addr) : Sp := fun vs H Q _ => ∃ (x u l : Addr) (lo hi : Option Bdy) (W : Option (List Int)) (cu cl : List V), vs = [.ref x] ∧ OutAt K H C x u l lo hi W ∧ SqL K H u cu ∧ SqL K H l cl ∧ Q (.bl (lo.isSome && hi.isSome && decide (0 < cu.length) && decide (0 < cl.length))) H
theorem ok_is_bounded {f C : Addr} {fd : FuncData} (T : Nm mg) (R : OutC K C) (F : Fun K "is_bounded" "Outline.is_bounded" s_Outline_is_bounded f fd) : FnOk P w K mg base CX0 1 f fd ["self"] (spIsB K C) := by
  refine F.ok sc_Outline_is_bounded (fun vs H Q E h => ?_) (fun cdv A outer s H vs Q E hr h => ?_)
  · obtain ⟨x, u, l, lo, hi, W, cu, cl, rfl, _⟩ := h
    rfl
  · obtain ⟨x, u, l, lo, hi, W, cu, cl, rfl, ⟨dx, vlo, plo, vhi, phi, vw, hx, elo, ehi, ew⟩, hu, hl, q⟩ := h
    refine ⟨_, (pss_cons (ps_if (PW.pt (pw_or (pt_cmpR op_isN (pe_fld (pv 0) rfl) pe_non (nomark _)) (pw_or1 (pt_cmpR op_isN (pe_fld (pv 0) rfl) pe_non (nomark _)))))
      (pss_one (ps_ret pe_bl))
      pss_nil)
    (pss_one (ps_ret (pe_and (pe_cmpR op_gt (pe_callB call_lenL (by rfl) T.len (by decide +kernel) (pa_cons (pe_fld (pv 0) rfl) pa_nil)) pe_int (nomark _)) (pe_one (pe_cmpR op_gt (pe_callB call_lenL (by rfl) T.len (by decide +kernel) (pa_cons (pe_fld (pv 0) rfl) pa_nil)) pe_int (nomark _))))))), ?_⟩
    have fl : ∀ n : Nat, decide ((0 : Int) < n) = decide (0 < n) := fun n => by
      rw [Bool.eq_iff_iff, decide_eq_true_iff, decide_eq_true_iff]
      omega
    refine ⟨_, rfl, x, C, dx, _, _, rfl, hx, R.cl, R.no, rfl, rfl, _, rfl, ?_⟩
    cases lo with
    | none =>
      obtain rfl : vlo = .non := elo
      rw [decide_eq_true rfl]
      refine iteTt rfl (iteTt rfl ?_)
      exact q
    | some lo =>
      obtain ⟨⟨pL, rfl, _⟩, _⟩ := elo
      rw [decide_eq_false (fun z => nomatch z)]
      refine iteFf rfl ⟨_, rfl, x, C, dx, _, _, rfl, hx, R.cl, R.nh, rfl, rfl, _, rfl, ?_⟩
      cases hi with
      | none =>
        obtain rfl : vhi = .non := ehi
        rw [decide_eq_true rfl]
        refine iteTt rfl ?_
        exact q
      | some hi =>
        obtain ⟨⟨pH, rfl, _⟩, _⟩ := ehi
        rw [decide_eq_false (fun z => nomatch z)]
        refine iteFf rfl ?_
        dsimp only [tNext]
        refine ⟨_, rfl, x, C, dx, _, _, rfl, hx, R.cl, R.nu, rfl, u, cu, rfl, hu, _, _, rfl, rfl, ?_⟩
        refine ⟨_, rfl, ?_⟩
        rw [fl] 
        by_cases c : 0 < cu.length
        · refine iteTt (decide_eq_true c) ⟨_, rfl, x, C, dx, _, _, rfl, hx, R.cl, R.nl, rfl, l, cl, rfl, hl, _, _, rfl, rfl, ?_⟩
          have e : (true && true && decide (0 < cu.length) && decide (0 < cl.length)) = decide ((0 : Int) < (cl.length : Int)) := by
            rw [fl, decide_eq_true c]
            rfl
          show Q (.bl (decide ((0 : Int) < (cl.length : Int)))) H
          rw [← e]
          exact q
        · refine iteFf (decide_eq_false c) ?_
          have e : (true && true && decide (0 < cu.length) && decide (0 < cl.length)) = false := by
            rw [decide_eq_false c]
            rfl
          show Q (.bl false) H
          rw [← e]
          exact q
def spEnds (K : PySem.W.Frag) (C : Addr) : Sp := fun vs H Q _ => ∃ (x u l : Addr) (rs : List LineR) (M : Nat) (lo hi : Bdy) (W : Option (List Int)), vs = [.ref x] ∧ OutAt K H C x u l (some lo) (some hi) W ∧ BdOk rs M lo ∧ BdOk rs M hi ∧ lo.1 < 0 ∧ 0 < hi.1 ∧ M ≤ 7000 ∧
  ∀ p H', Same H H' → SqT K H' p [.int (-(-(-lo.2.1) / -lo.1)), .int (hi.2.1 / hi.1)] → Q (.ref p) H'
theorem ok_whole_ends {f f1 f2 C : Addr} {fd fd1 fd2 : FuncData} (T : Nm mg) (R : OutC K C) (C_ceil_of : Has P w K mg base "ceil_of" 1 ["fraction"] (spFloor K fun p q => -(-p / q)) f1 fd1) (C_floor_of : Has P w K mg base "floor_of" 1 ["fraction"] (spFloor K fun p q => p / q) f2 fd2)
    (F : Fun K "whole_ends" "Outline.whole_ends" s_Outline_whole_ends f fd) : FnOk P w K mg base CX0 2 f fd ["self"] (spEnds K C) := by
  refine F.ok sc_Outline_whole_ends (fun vs H Q E h => ?_) (fun cdv A outer s H vs Q E hr h => ?_)
  · obtain ⟨x, u, l, rs, M, lo, hi, W, rfl, _⟩ := h
    rfl
  · obtain ⟨x, u, l, rs, M, lo, hi, W, rfl, ⟨dx, vlo, plo, vhi, phi, vw, hx, ⟨elo, _⟩, ⟨ehi, _⟩, ew⟩, L, U, l0, h0, M1, q⟩ := h
    have dv : ∀ {i j : Int}, 0 < j → Sz M j → OkDiv i j := fun {i j} hj sj => ⟨wide_div (b := 8000) hj (Nat.lt_of_lt_of_le sj (Nat.pow_le_pow_right (by decide) (by omega))) (by decide) (by decide)⟩
    have zl : Sz M (-lo.1) := by
      have := L.za
      unfold Sz at *
      rw [Int.natAbs_neg]
      exact this
    refine ⟨_, (pss_one (ps_ret (pe_tup (pa_cons (pe_call C_ceil_of.G (hr.mono (by decide)) (by rfl) C_ceil_of.g C_ceil_of.k C_ceil_of.b .nil pass0 (pa_cons (pe_fld (pv 0) rfl) pa_nil)) (pa_cons (pe_call C_floor_of.G (hr.mono (by decide)) (by rfl) C_floor_of.g C_floor_of.k C_floor_of.b .nil pass0 (pa_cons (pe_fld (pv 0) rfl) pa_nil)) pa_nil))))), ?_⟩
    refine ⟨_, rfl, x, C, dx, _, _, rfl, hx, R.cl, R.no, rfl, vlo, _, _, rfl, elo, dv (by omega) zl, _, rfl, x, C, dx, _, _, rfl, hx, R.cl, R.nh, rfl, vhi, _, _, rfl, ehi, dv h0 U.za, ?_⟩
    exact ⟨by show 2 ≤ sizeLine; decide, fun p np => q p _ (same_upd np) (.of upd_same)⟩
end
end K29

namespace K29
open PySem PySem.Spec PyProof.Rows L2 My
local macro_rules | `(tactic| walk_at "side") => `(tactic| (first
  | assumption
  | (refine OkMod.mk ?_; omega)
  | (refine mulOkL ?_ ?_ <;> omega)
  | (refine mulOkR ?_ ?_ <;> omega)
  | (refine divOk ?_ ?_ <;> omega)))
local macro_rules | `(tactic| walk_at "rd") => `(tactic| (first
  | with_reducible refine ⟨_, rfl, ?_⟩
  | refine ⟨_, rfl, ?_⟩
  | refine ⟨_, _, rfl, rfl, ?_⟩
  | refine And.intro (by walk_at "side") ?_
  | refine ⟨_, _, rfl, asm (by assumption), ?_⟩
  | refine ⟨_, _, rfl, asm ?_⟩))
section
variable {P : Program} {w : World} {K : PySem.W.Frag} {mg : Str → Option Value} {base : Heap}

/-! ### the lines of rows, from above (1) and from below (-1) -/
def lineOf (sg : Int) (r : LineR) (k : Nat) : Ln := ⟨r.1, sg * r.2.1, r.2.2, k⟩
def linesFrom (sg : Int) : Nat → List LineR → List Ln
  | _, [] => []
  | k, r :: rs => if 0 < sg * r.2.1 then lineOf sg r k :: linesFrom sg (k + 1) rs else linesFrom sg (k + 1) rs
theorem lines_more (sg : Int) : ∀ (k : Nat) (rs : List LineR) (i : Nat) (r : LineR), rs[i]? = some r → linesFrom sg k (rs.take (i + 1)) = linesFrom sg k (rs.take i) ++ if 0 < sg * r.2.1 then [lineOf sg r (k + i)] else []
  | _, [], _, _, h => nomatch h
  | k, v :: rs, 0, r, h => by
    cases h
    rw [List.take_succ_cons, List.take_zero, List.take_zero]
    unfold linesFrom
    split <;> rfl
  | k, v :: rs, i + 1, r, h => by
    have := lines_more sg (k + 1) rs i r h
    rw [List.take_succ_cons, List.take_succ_cons]
    unfold linesFrom
    rw [this, show k + 1 + i = k + (i + 1) by omega]
    split <;> rfl
theorem lines_mem (sg : Int) : ∀ {k : Nat} {rs : List LineR} {q : Ln}, q ∈ linesFrom sg k rs ↔ ∃ i r, rs[i]? = some r ∧ 0 < sg * r.2.1 ∧ q = lineOf sg r (k + i)
  | k, [], q => by
    constructor
    · intro h
      cases h
    · rintro ⟨i, r, h, _⟩
      cases h
  | k, v :: rs, q => by
    have ih := lines_mem sg (k := k + 1) (rs := rs) (q := q)
    unfold linesFrom
    constructor
    · intro h
      split at h
      · rename_i hv
        rcases List.mem_cons.mp h with rfl | h
        · exact ⟨0, v, rfl, hv, rfl⟩
        · obtain ⟨i, r, e, p, rfl⟩ := ih.mp h
          exact ⟨i + 1, r, e, p, by rw [show k + 1 + i = k + (i + 1) by omega]⟩
      · obtain ⟨i, r, e, p, rfl⟩ := ih.mp h
        exact ⟨i + 1, r, e, p, by rw [show k + 1 + i = k + (i + 1) by omega]⟩
    · rintro ⟨i, r, e, p, rfl⟩
      cases i with
      | zero =>
        cases e
        rw [if_pos p]
        exact List.mem_cons_self
      | succ i =>
        have := ih.mpr ⟨i, r, e, p, by rw [show k + 1 + i = k + (i + 1) by omega]⟩
        split
        · exact List.mem_cons_of_mem _ this
        · exact this
theorem lines_len (sg : Int) : ∀ (k : Nat) (rs : List LineR), (linesFrom sg k rs).length ≤ rs.length
  | _, [] => Nat.le_refl _
  | k, v :: rs => by
    have := lines_len sg (k + 1) rs
    unfold linesFrom
    split
    · rw [List.length_cons, List.length_cons]
      omega
    · rw [List.length_cons]
      omega
theorem lines_sz {M : Nat} {sg : Int} (hs : sg = 1 ∨ sg = -1) {k : Nat} {rs : List LineR} (h : ∀ r ∈ rs, RowS M r) {q : Ln} (hq : q ∈ linesFrom sg k rs) : LnS M q := by
  obtain ⟨i, r, e, p, rfl⟩ := (lines_mem sg).mp hq
  have z := h r (List.mem_of_getElem? e)
  refine ⟨z.a, ?_, z.c, p⟩
  have := z.b
  show Sz M (sg * r.2.1)
  unfold Sz at *
  rw [Int.natAbs_mul, show sg.natAbs = 1 by omega, Nat.one_mul]
  exact this
/-- the sum of a line from above and of one from below, as a bound of x alone -/
theorem pair_bd {rs : List LineR} {M : Nat} (h : ∀ r ∈ rs, RowS M r) {i j : Nat} {r s : LineR} (hi : rs[i]? = some r) (hj : rs[j]? = some s) (pr : 0 < r.2.1) (ps : s.2.1 < 0) :
    BdOk rs (M + M + 1) (r.1 * -s.2.1 + s.1 * r.2.1, r.2.2 * -s.2.1 + s.2.2 * r.2.1, [((i : Int), -s.2.1), ((j : Int), r.2.1)]) := by
  have zr := h r (List.mem_of_getElem? hi)
  have zs := h s (List.mem_of_getElem? hj)
  have li := (List.getElem?_eq_some_iff.mp hi).1
  have lj := (List.getElem?_eq_some_iff.mp hj).1
  have ai : rowAt rs (i : Int) = r := by
    unfold rowAt
    rw [Int.toNat_natCast, hi]
    rfl
  have aj : rowAt rs (j : Int) = s := by
    unfold rowAt
    rw [Int.toNat_natCast, hj]
    rfl
  have zn : Sz M (-s.2.1) := by
    have := zs.b
    unfold Sz at *
    rw [Int.natAbs_neg]
    exact this
  have mem : ∀ p ∈ [((i : Int), -s.2.1), ((j : Int), r.2.1)], p = ((i : Int), -s.2.1) ∨ p = ((j : Int), r.2.1) := fun p hp => by simpa using hp
  refine ⟨fun p hp => ?_, fun p hp => ?_, fun p hp => ?_, ?_, ?_, ?_, Nat.le_refl 2, fun _ p hp => ?_, ?_, ?_⟩
  · rcases mem p hp with rfl | rfl
    · exact ⟨Int.natCast_nonneg _, Int.ofNat_lt.mpr li⟩
    · exact ⟨Int.natCast_nonneg _, Int.ofNat_lt.mpr lj⟩
  · rcases mem p hp with rfl | rfl
    · show 0 < -s.2.1
      omega
    · exact pr
  · rcases mem p hp with rfl | rfl
    · exact zn.up (by omega)
    · exact zr.b.up (by omega)
  · show -s.2.1 * (rowAt rs i).1 + (r.2.1 * (rowAt rs j).1 + 0) = r.1 * -s.2.1 + s.1 * r.2.1
    rw [ai, aj, Int.mul_comm, Int.mul_comm r.2.1]
    omega
  · show -s.2.1 * (rowAt rs i).2.1 + (r.2.1 * (rowAt rs j).2.1 + 0) = 0
    rw [ai, aj]
    grind
  · show -s.2.1 * (rowAt rs i).2.2 + (r.2.1 * (rowAt rs j).2.2 + 0) = r.2.2 * -s.2.1 + s.2.2 * r.2.1
    rw [ai, aj, Int.mul_comm, Int.mul_comm r.2.1]
    omega
  · rcases mem p hp with rfl | rfl
    · rw [ai]
      omega
    · rw [aj]
      omega
  · exact (zr.a.mul zn).add (zs.a.mul zr.b)
  · exact (zr.c.mul zn).add (zs.c.mul zr.b)
/-- a row without y, as a bound of x alone -/
theorem row_bd {rs : List LineR} {M : Nat} (M0 : 0 < M) (h : ∀ r ∈ rs, RowS M r) {i : Nat} {r : LineR} (hi : rs[i]? = some r) (z : r.2.1 = 0) : BdOk rs (M + M + 1) (r.1, r.2.2, [((i : Int), 1)]) := by
  have zr := h r (List.mem_of_getElem? hi)
  have li := (List.getElem?_eq_some_iff.mp hi).1
  have ai : rowAt rs (i : Int) = r := by
    unfold rowAt
    rw [Int.toNat_natCast, hi]
    rfl
  have mem : ∀ p ∈ [((i : Int), (1 : Int))], p = ((i : Int), 1) := fun p hp => by simpa using hp
  refine ⟨fun p hp => ?_, fun p hp => ?_, fun p hp => ?_, ?_, ?_, ?_, Nat.le_succ 1, fun e => ?_, zr.a.up (by omega), zr.c.up (by omega)⟩
  · rw [mem p hp]
    exact ⟨Int.natCast_nonneg _, Int.ofNat_lt.mpr li⟩
  · rw [mem p hp]
    exact Int.one_pos
  · rw [mem p hp]
    show (1 : Int).natAbs < 2 ^ (M + M + 1)
    exact Nat.one_lt_two_pow (by omega)
  · show 1 * (rowAt rs i).1 + 0 = r.1
    rw [ai]
    omega
  · show 1 * (rowAt rs i).2.1 + 0 = 0
    rw [ai, z]
    rfl
  · show 1 * (rowAt rs i).2.2 + 0 = r.2.2
    rw [ai]
    omega
  · exact absurd e (show ¬ (1 = 2) by decide)
end
end K29

namespace K29
open PySem PySem.Spec PyProof.Rows L2 My
local macro_rules | `(tactic| walk_at "side") => `(tactic| (first
  | assumption
  | (refine OkMod.mk ?_; omega)
  | (refine mulOkL ?_ ?_ <;> omega)
  | (refine mulOkR ?_ ?_ <;> omega)
  | (refine divOk ?_ ?_ <;> omega)))
local macro_rules | `(tactic| walk_at "rd") => `(tactic| (first
  | with_reducible refine ⟨_, rfl, ?_⟩
  | refine ⟨_, rfl, ?_⟩
  | refine ⟨_, _, rfl, rfl, ?_⟩
  | refine And.intro (by walk_at "side") ?_
  | refine ⟨_, _, rfl, asm (by assumption), ?_⟩
  | refine ⟨_, _, rfl, asm ?_⟩))
section
variable {P : Program} {w : World} {K : PySem.W.Frag} {mg : Str → Option Value} {base : Heap}

/-! ### what is left of all bounds -/
theorem frac_trans {a b c d e f : Int} (hb : 0 < b) (hd : 0 < d) (hf : 0 < f) (h1 : a * d ≤ c * b) (h2 : c * f ≤ e * d) : a * f ≤ e * b := by
  have x := Int.mul_le_mul_of_nonneg_right h1 (Int.le_of_lt hf)
  have y := Int.mul_le_mul_of_nonneg_right h2 (Int.le_of_lt hb)
  have z : (a * f) * d ≤ (e * b) * d := by grind
  exact Int.le_of_mul_le_mul_right z hd
/-- the least upper bound of those seen -/
def HiOf (bs : List Bdy) : Option Bdy → Prop
  | none => ∀ b ∈ bs, ¬ 0 < b.1
  | some h => h ∈ bs ∧ 0 < h.1 ∧ ∀ b ∈ bs, 0 < b.1 → h.2.1 * b.1 ≤ b.2.1 * h.1
theorem HiOf.step {bs : List Bdy} {h : Option Bdy} (b : Bdy) (H : HiOf bs h) : HiOf (bs ++ [b]) (stepHi h b) := by
  have mem : ∀ c ∈ bs ++ [b], c ∈ bs ∨ c = b := fun c hc => by simpa using hc
  unfold stepHi
  cases h with
  | none =>
    dsimp only
    split
    · rename_i p
      refine ⟨List.mem_append_right _ List.mem_cons_self, p, fun c hc pc => ?_⟩
      rcases mem c hc with hc | rfl
      · exact absurd pc (H c hc)
      · exact Int.le_refl _
    · rename_i p
      intro c hc
      rcases mem c hc with hc | rfl
      · exact H c hc
      · exact p
  | some h =>
    obtain ⟨h1, h2, h3⟩ := H
    dsimp only
    split
    · rename_i p
      refine ⟨List.mem_append_right _ List.mem_cons_self, p.1, fun c hc pc => ?_⟩
      rcases mem c hc with hc | rfl
      · exact frac_trans p.1 h2 pc (Int.le_of_lt p.2) (h3 c hc pc)
      · exact Int.le_refl _
    · rename_i p
      refine ⟨List.mem_append_left _ h1, h2, fun c hc pc => ?_⟩
      rcases mem c hc with hc | rfl
      · exact h3 c hc pc
      · exact Int.not_lt.mp fun z => p ⟨pc, z⟩
/-- the greatest lower bound of those seen -/
def LoOf (bs : List Bdy) : Option Bdy → Prop
  | none => ∀ b ∈ bs, ¬ b.1 < 0
  | some l => l ∈ bs ∧ l.1 < 0 ∧ ∀ b ∈ bs, b.1 < 0 → -b.2.1 * -l.1 ≤ -l.2.1 * -b.1
theorem LoOf.step {bs : List Bdy} {l : Option Bdy} (b : Bdy) (H : LoOf bs l) : LoOf (bs ++ [b]) (stepLo l b) := by
  have mem : ∀ c ∈ bs ++ [b], c ∈ bs ∨ c = b := fun c hc => by simpa using hc
  unfold stepLo
  cases l with
  | none =>
    dsimp only
    split
    · rename_i p
      refine ⟨List.mem_append_right _ List.mem_cons_self, p, fun c hc pc => ?_⟩
      rcases mem c hc with hc | rfl
      · exact absurd pc (H c hc)
      · exact Int.le_refl _
    · rename_i p
      intro c hc
      rcases mem c hc with hc | rfl
      · exact H c hc
      · exact p
  | some l =>
    obtain ⟨h1, h2, h3⟩ := H
    dsimp only
    split
    · rename_i p
      refine ⟨List.mem_append_right _ List.mem_cons_self, p.1, fun c hc pc => ?_⟩
      rcases mem c hc with hc | rfl
      · exact frac_trans (b := -c.1) (d := -l.1) (f := -b.1) (by omega) (by omega) (by have := p.1; omega) (h3 c hc pc) (Int.le_of_lt p.2)
      · exact Int.le_refl _
    · rename_i p
      refine ⟨List.mem_append_left _ h1, h2, fun c hc pc => ?_⟩
      rcases mem c hc with hc | rfl
      · exact h3 c hc pc
      · exact Int.not_lt.mp fun z => p ⟨pc, z⟩
/-- whether a bound has been seen that none keeps -/
def NoOf (n : Nat) (bs : List Bdy) : Option (List Int) → Prop
  | none => ∀ b ∈ bs, ¬ (b.1 = 0 ∧ b.2.1 < 0)
  | some ws => ∃ b ∈ bs, b.1 = 0 ∧ b.2.1 < 0 ∧ ws = wOf n b.2.2
theorem NoOf.step {n : Nat} {bs : List Bdy} {w : Option (List Int)} (b : Bdy) (H : NoOf n bs w) : NoOf n (bs ++ [b]) (stepW n w b) := by
  unfold stepW
  split
  · rename_i p
    exact ⟨b, List.mem_append_right _ List.mem_cons_self, p.1, p.2, rfl⟩
  · rename_i p
    cases w with
    | none =>
      intro c hc
      rcases (show c ∈ bs ∨ c = b by simpa using hc) with hc | rfl
      · exact H c hc
      · exact p
    | some ws =>
      obtain ⟨c, hc, h⟩ := H
      exact ⟨c, List.mem_append_left _ hc, h⟩
/-- a fraction X / D between both ends keeps all bounds -/
theorem bounds_hold {n : Nat} {bs : List Bdy} {lo hi : Option Bdy} (U : HiOf bs hi) (L : LoOf bs lo) (W : NoOf n bs none) {X D : Int} (hD : 0 < D) (hh : ∀ h, hi = some h → h.1 * X ≤ h.2.1 * D) (hl : ∀ l, lo = some l → l.1 * X ≤ l.2.1 * D) : ∀ b ∈ bs, b.1 * X ≤ b.2.1 * D := by
  intro b hb
  rcases Int.lt_trichotomy b.1 0 with c | c | c
  · cases lo with
    | none => exact absurd c (L b hb)
    | some l =>
      obtain ⟨_, l0, l1⟩ := L
      have a := l1 b hb c
      have e := hl l rfl
      have k := frac_trans (a := -b.2.1) (b := -b.1) (c := -l.2.1) (d := -l.1) (e := X) (f := D) (by omega) (by omega) hD a (by grind)
      grind
  · have w := W b hb
    have p : 0 ≤ b.2.1 := Int.not_lt.mp fun z => w ⟨c, z⟩
    have := Int.mul_nonneg p (Int.le_of_lt hD)
    rw [c, Int.zero_mul]
    exact this
  · cases hi with
    | none => exact absurd c (U b hb)
    | some h =>
      obtain ⟨_, h0, h1⟩ := U
      have a := h1 b hb c
      have e := hh h rfl
      have k := frac_trans (a := X) (b := D) (c := h.2.1) (d := h.1) (e := b.2.1) (f := b.1) hD h0 c (by grind) a
      grind
/-- what keeps all bounds lies between both ends -/
theorem ends_hold {bs : List Bdy} {lo hi : Option Bdy} (U : HiOf bs hi) (L : LoOf bs lo) {X D : Int} (h : ∀ b ∈ bs, b.1 * X ≤ b.2.1 * D) : (∀ h, hi = some h → h.1 * X ≤ h.2.1 * D) ∧ ∀ l, lo = some l → l.1 * X ≤ l.2.1 * D := by
  constructor
  · rintro b rfl
    exact h b U.1
  · rintro b rfl
    exact h b L.1
end
end K29

namespace K29
open PySem PySem.Spec PyProof.Rows L2 My
local macro_rules | `(tactic| walk_at "side") => `(tactic| (first
  | assumption
  | (refine OkMod.mk ?_; omega)
  | (refine mulOkL ?_ ?_ <;> omega)
  | (refine mulOkR ?_ ?_ <;> omega)
  | (refine divOk ?_ ?_ <;> omega)))
local macro_rules | `(tactic| walk_at "rd") => `(tactic| (first
  | with_reducible refine ⟨_, rfl, ?_⟩
  | refine ⟨_, rfl, ?_⟩
  | refine ⟨_, _, rfl, rfl, ?_⟩
  | refine And.intro (by walk_at "side") ?_
  | refine ⟨_, _, rfl, asm (by assumption), ?_⟩
  | refine ⟨_, _, rfl, asm ?_⟩))
section
variable {P : Program} {w : World} {K : PySem.W.Frag} {mg : Str → Option Value} {base : Heap}

/-! ### Outline.__init__ (under way) -/
/-- at X / D the rows without y hold, and any two lines leave room -/
def InX (rs : List LineR) (X D : Int) : Prop := (∀ r ∈ rs, r.2.1 = 0 → r.1 * X ≤ r.2.2 * D) ∧ ∀ q ∈ linesFrom 1 0 rs, ∀ r ∈ linesFrom (-1) 0 rs, (q.a * r.b + r.a * q.b) * X ≤ (q.c * r.b + r.c * q.b) * D
/-- what an outline holds of its rows -/
structure OutOk (rs : List LineR) (M : Nat) (lo hi : Option Bdy) (W : Option (List Int)) : Prop where
  lob : ∀ l, lo = some l → BdOk rs M l ∧ l.1 < 0
  hib : ∀ h, hi = some h → BdOk rs M h ∧ 0 < h.1
  emp : ∀ ws, W = some ws → Emp rs ws ∧ nz ws ≤ 3
  no : W = none → (∀ l h, lo = some l → hi = some h → ¬ h.2.1 * -l.1 < -l.2.1 * h.1) ∧ ∀ X D, 0 < D → (((∀ h, hi = some h → h.1 * X ≤ h.2.1 * D) ∧ ∀ l, lo = some l → l.1 * X ≤ l.2.1 * D) ↔ InX rs X D)
/-- where a bound comes from -/
def Src (rs : List LineR) (b : Bdy) : Prop := (∃ r ∈ rs, r.2.1 = 0 ∧ b.1 = r.1 ∧ b.2.1 = r.2.2) ∨ ∃ q ∈ linesFrom 1 0 rs, ∃ r ∈ linesFrom (-1) 0 rs, b.1 = q.a * r.b + r.a * q.b ∧ b.2.1 = q.c * r.b + r.c * q.b
theorem Src.hold {rs : List LineR} {b : Bdy} {X D : Int} (h : Src rs b) (i : InX rs X D) : b.1 * X ≤ b.2.1 * D := by
  rcases h with ⟨r, hr, z, e1, e2⟩ | ⟨q, hq, r, hr, e1, e2⟩
  · rw [e1, e2]
    exact i.1 r hr z
  · rw [e1, e2]
    exact i.2 q hq r hr
/-- a chain of these lines -/
def ChU (K : PySem.W.Frag) (H : Hp) (M : Nat) (qs : List Ln) (l : Addr) : Prop := (qs = [] ∧ H l = some (.lst [])) ∨ ∃ cs L0 es ps, H l = some (.lst cs) ∧ ps.Perm qs ∧ ChainAt K H (M + M + 1) ps (fun _ _ _ => False) L0 es cs
section
variable {H H' : Hp} {x C dx : Addr} {fs : List (Str × V)}
theorem LnV.ins {v : V} {q : Ln} (e : Keep x H H') (hx : H x = some (.ins C dx fs)) : LnV K H v q → LnV K H' v q := fun ⟨p, h, t⟩ => ⟨p, h, insT e hx t⟩
theorem ElV.ins {v : V} {q : El} (S : Keep x H H') (hx : H x = some (.ins C dx fs)) : ElV K H v q → ElV K H' v q := fun ⟨p, u, s, h, t, l, m⟩ => ⟨p, u, s, h, insT S hx t, LnV.ins S hx l, by
  cases h2 : q.2 with
  | none => rw [h2] at m; exact m
  | some o => rw [h2] at m; exact insP S hx m⟩
theorem ChU.ins {M : Nat} {qs : List Ln} {l : Addr} (S : Keep x H H') (hx : H x = some (.ins C dx fs)) : ChU K H M qs l → ChU K H' M qs l := by
  have ne : ∀ cs, H l = some (.lst cs) → l ≠ x := fun cs h z => by
    rw [z, hx] at h
    cases h
  rintro (⟨e, h⟩ | ⟨cs, L0, es, ps, h, p, a, b⟩)
  · exact .inl ⟨e, S _ _ (ne _ h) h⟩
  · exact .inr ⟨cs, L0, es, ps, S _ _ (ne _ h) h, p, a.map (fun _ _ h => ElV.ins S hx h), b⟩
end
def spOutI (K : PySem.W.Frag) (C : Addr) : Sp := fun vs H Q _ => ∃ (x r dx : Addr) (xs : List V) (rs : List LineR) (M : Nat), vs = [.ref x, .ref r] ∧ H x = some (.ins C dx []) ∧ SqA K H r xs ∧ RowsV K H xs rs ∧ rs.length ≤ 100 ∧ (∀ v ∈ rs, RowS M v) ∧ 0 < M ∧ M ≤ 1900 ∧
  ∀ H' u l lo hi W, Keep x H H' → OutAt K H' C x u l lo hi W → ChU K H' M (linesFrom 1 0 rs) u → ChU K H' M (linesFrom (-1) 0 rs) l → OutOk rs (M + M + 1) lo hi W → Q .non H'
theorem nodup_len {α : Type} : ∀ {l m : List α}, l.Nodup → (∀ x ∈ l, x ∈ m) → l.length ≤ m.length
  | [], _, _, _ => Nat.zero_le _
  | a :: l, m, h, s => by
    obtain ⟨m1, m2, rfl⟩ := List.append_of_mem (s a List.mem_cons_self)
    have hn := List.nodup_cons.mp h
    have k := nodup_len (l := l) (m := m1 ++ m2) hn.2 fun x hx => by
      rcases List.mem_append.mp (s x (List.mem_cons_of_mem _ hx)) with z | z
      · exact List.mem_append_left _ z
      · rcases List.mem_cons.mp z with rfl | z
        · exact absurd hx hn.1
        · exact List.mem_append_right _ z
    rw [List.length_append] at *
    rw [List.length_cons, List.length_cons]
    omega
theorem chain_len {S : List Ln} {L0 : Ln} {es : List El} {W : Ln → Int → Int → Prop} (h : Half S L0 es W) : es.length + 1 ≤ S.length := by
  have nd : (lns L0 es).Nodup := h.sl.imp fun {a b} c e => by
    subst e
    unfold crossD at c
    omega
  have := nodup_len nd h.mem
  unfold lns at this
  rw [List.length_cons, List.length_map] at this
  exact this
theorem pos_of_mul {x y : Int} (hx : 0 < x) (h : 0 ≤ x * y) : 0 ≤ y := by
  apply Int.not_lt.mp
  intro c
  have := Int.mul_pos hx (show 0 < -y by omega)
  grind
/-- if the two tightest lines leave room at X / D then so do any two -/
theorem pair_hold {X D : Int} {t s q r : Ln} (t0 : 0 < t.b) (s0 : 0 < s.b) (q0 : 0 < q.b) (r0 : 0 < r.b) (h1 : leAt X D t q) (h2 : leAt X D s r) (h : (t.a * s.b + s.a * t.b) * X ≤ (t.c * s.b + s.c * t.b) * D) :
    (q.a * r.b + r.a * q.b) * X ≤ (q.c * r.b + r.c * q.b) * D := by
  unfold leAt at h1 h2
  have g : 0 ≤ (t.c * D - t.a * X) * s.b + (s.c * D - s.a * X) * t.b := by grind
  suffices w : 0 ≤ (q.c * D - q.a * X) * r.b + (r.c * D - r.a * X) * q.b by grind
  generalize t.c * D - t.a * X = A at *
  generalize s.c * D - s.a * X = B at *
  generalize q.c * D - q.a * X = P at *
  generalize r.c * D - r.a * X = R at *
  have k1 := Int.mul_le_mul_of_nonneg_right h1 (Int.le_of_lt (Int.mul_pos r0 s0))
  have k2 := Int.mul_le_mul_of_nonneg_right h2 (Int.le_of_lt (Int.mul_pos q0 t0))
  have k3 := Int.mul_nonneg g (Int.le_of_lt (Int.mul_pos q0 r0))
  refine pos_of_mul (x := t.b * s.b) (Int.mul_pos t0 s0) ?_
  have e : t.b * s.b * (P * r.b + R * q.b) = P * t.b * (r.b * s.b) + R * s.b * (q.b * t.b) := by
    clear k1 k2 k3 h1 h2 h g
    grind
  have e' : (A * s.b + B * t.b) * (q.b * r.b) = A * q.b * (r.b * s.b) + B * r.b * (q.b * t.b) := by
    clear k1 k2 k3 h1 h2 h g e
    grind
  rw [e]
  rw [e'] at k3
  omega
structure RowI (K : PySem.W.Frag) (H7 H' : Hp) (C x u l : Addr) (rs : List LineR) (M i : Nat) (lo hi : Option Bdy) (W : Option (List Int)) (bs : List Bdy) : Prop where
  k : Keep x H7 H'
  out : OutAt K H' C x u l lo hi W
  lof : LoOf bs lo
  hif : HiOf bs hi
  nof : NoOf rs.length bs W
  bd : ∀ b ∈ bs, BdOk rs M b ∧ Src rs b
  z : ∀ (j : Nat) r, j < i → rs[j]? = some r → r.2.1 = 0 → (r.1, r.2.2, [((j : Int), (1 : Int))]) ∈ bs
theorem LoOf.mem {bs : List Bdy} : ∀ {l : Option Bdy}, LoOf bs l → ∀ h, l = some h → h ∈ bs
  | some _, h, _, e => by cases e; exact h.1
theorem HiOf.mem {bs : List Bdy} : ∀ {l : Option Bdy}, HiOf bs l → ∀ h, l = some h → h ∈ bs
  | some _, h, _, e => by cases e; exact h.1
theorem sSeq_via {ta u : TS} {D : Ends} {σ : L2.St} {H : Hp} (R : L2.St → Hp → Prop) (h : ∀ nx : L2.St → Hp → Prop, (∀ σ' H', R σ' H' → nx σ' H') → ta { D with nx := nx } σ H) (k : ∀ σ' H', R σ' H' → u D σ' H') : tSeq ta u D σ H := h _ k
theorem ok_outline {f f1 f2 f3 f4 f5 C : Addr} {fd fd1 fd2 fd3 fd4 fd5 : FuncData} (T : Nm mg) (R : OutC K C) (C_tightest : Has P w K mg base "tightest" 11 ["lines"] (spTight K) f1 fd1) (C_tight_pairs : Has P w K mg base "tight_pairs" 2 ["uppers", "lowers"] (spPairs K) f2 fd2) (C_below : Has P w K mg base "below" 1 ["one", "other"] (spBelow K) f3 fd3)
    (C_Outline__bound : Mth P w K mg base C "_bound" 2 ["self", "rows", "a", "c", "parts"] (spBoundO K C) f4 fd4) (C_Outline__clash : Mth P w K mg base C "_clash" 2 ["self", "rows"] (spClash K C) f5 fd5)
    (F : Fun K "__init__" "Outline.__init__" s_Outline___init__ f fd) : FnOk P w K mg base CX0 12 f fd ["self", "rows"] (spOutI K C) := by
  refine F.ok sc_Outline___init__ (fun vs H Q E h => ?_) (fun cdv A outer s H vs Q E hr h => ?_)
  · obtain ⟨x, r, dx, xs, rs, M, rfl, _⟩ := h
    rfl
  · obtain ⟨x, r, dx, xs, rs, M, rfl, hx, hr', hrs, h100, zr, M0, M1, q⟩ := h
    refine ⟨_, (pss_cons (ps_fld (pv 0) (pe_call C_tightest.G (hr.mono (by decide)) (by rfl) C_tightest.g C_tightest.k C_tightest.b .nil pass0 (pa_cons (pe_lc (te := tTup (tCons (tOp (rIxT K) (tVar 3) (tC (.int 0))) (tCons (tOp (rIxT K) (tVar 3) (tC (.int 1))) (tCons (tOp (rIxT K) (tVar 3) (tC (.int 2))) (tCons (tVar 2) tNil))))) (tt := tTest (tOp (rI0 fun i j => V.bl (decide (j < i))) (tOp (rIxT K) (tVar 3) (tC (.int 1))) (tC (.int 0)))) (own := [("at", 2), ("row", 3)]) (g := gTup K 2 (gCons (gName 2) (gCons (gName 3) (gNil)))) (by rfl) sc_Outline___init__.nd (pi_enumV (pv 1) (by rfl) T.enumerate) (by exact blkOk_by (N := ["self", "rows", "at", "row", "upper", "lower", "a", "c"]) (sc := defScope s_Outline___init__) (by decide +kernel)) (fun _ _ _ _ _ => by exact (pg_tup rfl (pgs_cons (pg_name (i := 2) sc_Outline___init__.nd rfl (Or.inl rfl)) (pgs_cons (pg_name (i := 3) sc_Outline___init__.nd rfl (Or.inl rfl)) pgs_nil)))) (fun _ _ _ _ _ => by exact (pts_one (pt_cmpR op_gt (pe_ix ix_tup (pv 3) pe_int (fun _ _ => rfl)) pe_int (nomark _)))) (fun _ _ _ _ _ => by exact (pe_tup (pa_cons (pe_ix ix_tup (pv 3) pe_int (fun _ _ => rfl)) (pa_cons (pe_ix ix_tup (pv 3) pe_int (fun _ _ => rfl)) (pa_cons (pe_ix ix_tup (pv 3) pe_int (fun _ _ => rfl)) (pa_cons (pv 2) pa_nil))))))) pa_nil)) rfl)
    (pss_cons (ps_fld (pv 0) (pe_call C_tightest.G (hr.mono (by decide)) (by rfl) C_tightest.g C_tightest.k C_tightest.b .nil pass0 (pa_cons (pe_lc (te := tTup (tCons (tOp (rIxT K) (tVar 3) (tC (.int 0))) (tCons (tUn (rU fun i => V.int (-i)) (tOp (rIxT K) (tVar 3) (tC (.int 1)))) (tCons (tOp (rIxT K) (tVar 3) (tC (.int 2))) (tCons (tVar 2) tNil))))) (tt := tTest (tOp (rI0 fun i j => V.bl (decide (i < j))) (tOp (rIxT K) (tVar 3) (tC (.int 1))) (tC (.int 0)))) (own := [("at", 2), ("row", 3)]) (g := gTup K 2 (gCons (gName 2) (gCons (gName 3) (gNil)))) (by rfl) sc_Outline___init__.nd (pi_enumV (pv 1) (by rfl) T.enumerate) (by exact blkOk_by (N := ["self", "rows", "at", "row", "upper", "lower", "a", "c"]) (sc := defScope s_Outline___init__) (by decide +kernel)) (fun _ _ _ _ _ => by exact (pg_tup rfl (pgs_cons (pg_name (i := 2) sc_Outline___init__.nd rfl (Or.inl rfl)) (pgs_cons (pg_name (i := 3) sc_Outline___init__.nd rfl (Or.inl rfl)) pgs_nil)))) (fun _ _ _ _ _ => by exact (pts_one (pt_cmpR op_lt (pe_ix ix_tup (pv 3) pe_int (fun _ _ => rfl)) pe_int (nomark _)))) (fun _ _ _ _ _ => by exact (pe_tup (pa_cons (pe_ix ix_tup (pv 3) pe_int (fun _ _ => rfl)) (pa_cons (pe_un un_neg (pe_ix ix_tup (pv 3) pe_int (fun _ _ => rfl))) (pa_cons (pe_ix ix_tup (pv 3) pe_int (fun _ _ => rfl)) (pa_cons (pv 2) pa_nil))))))) pa_nil)) rfl)
    (pss_cons (ps_fld (pv 0) pe_non rfl)
    (pss_cons (ps_fld (pv 0) (pe_lst pa_nil) rfl)
    (pss_cons (ps_fld (pv 0) pe_non rfl)
    (pss_cons (ps_fld (pv 0) (pe_lst pa_nil) rfl)
    (pss_cons (ps_fld (pv 0) pe_non rfl)
    (pss_cons (ps_for PassesOwn.never rfl (pi_enumV (pv 1) (by rfl) T.enumerate) (pg_tup rfl (pgs_cons (pg_name (i := 2) sc_Outline___init__.nd rfl (Or.inl rfl)) (pgs_cons (pg_name (i := 3) sc_Outline___init__.nd rfl (Or.inl rfl)) pgs_nil)))
      (pss_one (ps_if (pt_cmpR op_eq (pe_ix ix_tup (pv 3) pe_int (fun _ _ => rfl)) pe_int (nomark _))
      (pss_one (ps_expr (pe_meth (pv 0) C_Outline__bound.c C_Outline__bound.m C_Outline__bound.G (hr.mono (by decide)) C_Outline__bound.b .nil pass0 (pa_cons (pv 1) (pa_cons (pe_ix ix_tup (pv 3) pe_int (fun _ _ => rfl)) (pa_cons (pe_ix ix_tup (pv 3) pe_int (fun _ _ => rfl)) (pa_cons (pe_lst (pa_cons (pe_tup (pa_cons (pv 2) (pa_cons pe_int pa_nil))) pa_nil)) pa_nil)))))))
      pss_nil)))
    (pss_cons (ps_for PassesOwn.never rfl (pi_list (pe_call C_tight_pairs.G (hr.mono (by decide)) (by rfl) C_tight_pairs.g C_tight_pairs.k C_tight_pairs.b .nil pass0 (pa_cons (pe_fld (pv 0) rfl) (pa_cons (pe_fld (pv 0) rfl) pa_nil)))) (pg_tup rfl (pgs_cons (pg_name (i := 4) sc_Outline___init__.nd rfl (Or.inl rfl)) (pgs_cons (pg_name (i := 5) sc_Outline___init__.nd rfl (Or.inl rfl)) pgs_nil)))
      (pss_cons (ps_set (i := 6) sc_Outline___init__.nd rfl (Or.inl rfl) (pe_op op_add (pe_op op_mulA (pe_ix ix_tup (pv 4) pe_int (fun _ _ => rfl)) (pe_ix ix_tup (pv 5) pe_int (fun _ _ => rfl))) (pe_op op_mulA (pe_ix ix_tup (pv 5) pe_int (fun _ _ => rfl)) (pe_ix ix_tup (pv 4) pe_int (fun _ _ => rfl)))))
    (pss_cons (ps_set (i := 7) sc_Outline___init__.nd rfl (Or.inl rfl) (pe_op op_add (pe_op op_mulA (pe_ix ix_tup (pv 4) pe_int (fun _ _ => rfl)) (pe_ix ix_tup (pv 5) pe_int (fun _ _ => rfl))) (pe_op op_mulA (pe_ix ix_tup (pv 5) pe_int (fun _ _ => rfl)) (pe_ix ix_tup (pv 4) pe_int (fun _ _ => rfl)))))
    (pss_one (ps_expr (pe_meth (pv 0) C_Outline__bound.c C_Outline__bound.m C_Outline__bound.G (hr.mono (by decide)) C_Outline__bound.b .nil pass0 (pa_cons (pv 1) (pa_cons (pv 6) (pa_cons (pv 7) (pa_cons (pe_lst (pa_cons (pe_tup (pa_cons (pe_ix ix_tup (pv 4) pe_int (fun _ _ => rfl)) (pa_cons (pe_ix ix_tup (pv 5) pe_int (fun _ _ => rfl)) pa_nil))) (pa_cons (pe_tup (pa_cons (pe_ix ix_tup (pv 5) pe_int (fun _ _ => rfl)) (pa_cons (pe_ix ix_tup (pv 4) pe_int (fun _ _ => rfl)) pa_nil))) pa_nil))) pa_nil))))))))))
    (pss_one (ps_if (PW.pt (pw_and (pt_cmpR op_notN (pe_fld (pv 0) rfl) pe_non (nomark _)) (pw_and (pt_cmpR op_notN (pe_fld (pv 0) rfl) pe_non (nomark _)) (pw_and1 (pt_val (pe_call C_below.G (hr.mono (by decide)) (by rfl) C_below.g C_below.k C_below.b .nil pass0 (pa_cons (pe_fld (pv 0) rfl) (pa_cons (pe_fld (pv 0) rfl) pa_nil))))))))
      (pss_one (ps_expr (pe_meth (pv 0) C_Outline__clash.c C_Outline__clash.m C_Outline__clash.G (hr.mono (by decide)) C_Outline__clash.b .nil pass0 (pa_cons (pv 1) pa_nil))))
      pss_nil))))))))))), ?_⟩
    have xl : xs.length = rs.length := hrs.len
    refine sSeq_via (fun σ' H' => σ' = [some (.ref x), some (.ref r), none, none, none, none, none, none] ∧ Keep x H H' ∧ ∃ u, H' x = some (.ins C dx [("uppers", .ref u)]) ∧ ChU K H' M (linesFrom 1 0 rs) u) (fun nx hnx => ?_) ?_
    · refine ⟨r, xs, rfl, hr', fun J G g0 gk wk => ?_⟩
      refine fun D1 nD1 => lc_it (tt := tTest (tOp (rI0 fun i j => V.bl (decide (j < i))) (tOp (rIxT K) (tVar 3) (tC (.int 1))) (tC (.int 0)))) wk (fun i H' => Same H H' ∧ ∃ zs, H' D1 = some (.lst zs) ∧ LsV (LnV K H') zs (linesFrom 1 0 (rs.take i))) ⟨same_upd nD1, [], upd_same, by rw [List.take_zero]; exact .nil⟩ (fun i H' _ z => gk H' (Same.seq z.1) (Same.tup z.1)) ?_ ?_
      · rintro i z H7 H8 hi' ⟨s7, zs, h7, l7⟩ ⟨T1, u', v, rfl, nT, rfl, e1, e2⟩
        obtain ⟨rw, hrw, rv⟩ := hrs.at e2
        obtain ⟨pv', rfl, tv⟩ := rv
        cases e1
        have S := same_upd (o := .tup [.int (i : Int), .ref pv']) nT
        have tv8 := Same.tup (s7.trans S) tv
        refine ⟨T1, _, rfl, .inl (.inl upd_same), rfl, _, _, rfl, _, _, rfl, rfl, rfl, ?_⟩
        refine ⟨_, rfl, pv', _, 1, _, rfl, rfl, tv8, rfl, _, _, rfl, rfl, _, rfl, ?_⟩
        have more := lines_more 1 0 rs i rw hrw
        have zl := l7.len
        have zm := lines_len 1 0 (rs.take i)
        rw [List.length_take] at zm
        have d1000 : 1000 < sizeLine := by decide
        by_cases c : 0 < rw.2.1
        · refine iteTt (decide_eq_true c) ⟨_, rfl, pv', _, 0, _, rfl, rfl, tv8, rfl, _, rfl, pv', _, 1, _, rfl, rfl, tv8, rfl, _, rfl, pv', _, 2, _, rfl, rfl, tv8, rfl, _, rfl, by show 4 ≤ sizeLine; decide, fun p np => ?_⟩
          have S2 := same_upd (o := .tup [.int rw.1, .int rw.2.1, .int rw.2.2, .int (i : Int)]) np
          have hD := S2 _ _ (S _ _ h7)
          have hv : LnV K (upd (upd H7 T1 (.tup [.int (i : Int), .ref pv'])) p (.tup [.int rw.1, .int rw.2.1, .int rw.2.2, .int (i : Int)])) (.ref p) (lineOf 1 rw (0 + i)) := by
            unfold lineOf
            rw [Int.one_mul, Nat.zero_add]
            exact ⟨p, rfl, .of upd_same⟩
          have l8 := l7.map (fun v x h => LnV.same (S.trans S2) h)
          have s9 := s7.trans (S.trans S2)
          refine ⟨zs, hD, by omega, same_keep nD1 s9 (Keep.upd D1 _ _), _, upd_same, ?_⟩
          rw [more, if_pos (by omega)]
          exact (l8.map (fun v x h => LnV.keep (Keep.upd D1 _ _) hD h)).app (.cons (LnV.keep (Keep.upd D1 _ _) hD hv) .nil)
        · refine iteFf (decide_eq_false c) ⟨s7.trans S, zs, S _ _ h7, ?_⟩
          rw [more, if_neg (by omega), List.append_nil]
          exact l7.map (fun v x h => LnV.same S h)
      · rintro H7 ⟨s7, zs, h7, l7⟩
        rw [xl, List.take_length] at l7
        have ll := lines_len 1 0 rs
        refine ⟨D1, zs, linesFrom 1 0 rs, M, rfl, h7, l7, by omega, fun q hq => lines_sz (.inl rfl) zr hq, M0, by omega, fun e0 l' H8 s8 h8 => ?_, fun l' cs L0 es ps H8 s8 h8 pm ch => ?_⟩
        · have hx8 := (s7.trans s8) _ _ hx
          refine ⟨_, rfl, x, C, dx, _, rfl, hx8, R.cl, R.nu, by show 0 < 1000; decide, hnx _ _ ⟨rfl, (Keep.of (s7.trans s8)).trans (Keep.upd x H8 _), l', upd_same, ?_⟩⟩
          exact ChU.ins (Keep.upd x H8 _) hx8 (.inl ⟨e0, h8⟩)
        · have hx8 := (s7.trans s8) _ _ hx
          refine ⟨_, rfl, x, C, dx, _, rfl, hx8, R.cl, R.nu, by show 0 < 1000; decide, hnx _ _ ⟨rfl, (Keep.of (s7.trans s8)).trans (Keep.upd x H8 _), l', upd_same, ?_⟩⟩
          exact ChU.ins (Keep.upd x H8 _) hx8 (.inr ⟨cs, L0, es, ps, h8, pm, ch⟩)
    rintro σ' H1 ⟨rfl, k1, u, hx1, cu⟩
    have hr1 := hr'.keep k1 hx
    have hrs1 := hrs.map fun v r ⟨a, e, t⟩ => (⟨a, e, insT k1 hx t⟩ : RowV K H1 v r)
    refine sSeq_via (fun σ' H' => σ' = [some (.ref x), some (.ref r), none, none, none, none, none, none] ∧ Keep x H1 H' ∧ ∃ l, H' x = some (.ins C dx [("uppers", .ref u), ("lowers", .ref l)]) ∧ ChU K H' M (linesFrom (-1) 0 rs) l) (fun nx hnx => ?_) ?_
    · refine ⟨r, xs, rfl, hr1, fun J G g0 gk wk => ?_⟩
      refine fun D1 nD1 => lc_it (tt := tTest (tOp (rI0 fun i j => V.bl (decide (i < j))) (tOp (rIxT K) (tVar 3) (tC (.int 1))) (tC (.int 0)))) wk (fun i H' => Same H1 H' ∧ ∃ zs, H' D1 = some (.lst zs) ∧ LsV (LnV K H') zs (linesFrom (-1) 0 (rs.take i))) ⟨same_upd nD1, [], upd_same, by rw [List.take_zero]; exact .nil⟩ (fun i H' _ z => gk H' (Same.seq z.1) (Same.tup z.1)) ?_ ?_
      · rintro i z H7 H8 hi' ⟨s7, zs, h7, l7⟩ ⟨T1, u', v, rfl, nT, rfl, e1, e2⟩
        obtain ⟨rw, hrw, rv⟩ := hrs1.at e2
        obtain ⟨pv', rfl, tv⟩ := rv
        cases e1
        have S := same_upd (o := .tup [.int (i : Int), .ref pv']) nT
        have tv8 := Same.tup (s7.trans S) tv
        refine ⟨T1, _, rfl, .inl (.inl upd_same), rfl, _, _, rfl, _, _, rfl, rfl, rfl, ?_⟩
        refine ⟨_, rfl, pv', _, 1, _, rfl, rfl, tv8, rfl, _, _, rfl, rfl, _, rfl, ?_⟩
        have more := lines_more (-1) 0 rs i rw hrw
        have zl := l7.len
        have zm := lines_len (-1) 0 (rs.take i)
        rw [List.length_take] at zm
        have d1000 : 1000 < sizeLine := by decide
        by_cases c : rw.2.1 < 0
        · refine iteTt (decide_eq_true c) ⟨_, rfl, pv', _, 0, _, rfl, rfl, tv8, rfl, _, rfl, pv', _, 1, _, rfl, rfl, tv8, rfl, _, rfl, _, rfl, pv', _, 2, _, rfl, rfl, tv8, rfl, _, rfl, by show 4 ≤ sizeLine; decide, fun p np => ?_⟩
          have S2 := same_upd (o := .tup [.int rw.1, .int (-rw.2.1), .int rw.2.2, .int (i : Int)]) np
          have hD := S2 _ _ (S _ _ h7)
          have hv : LnV K (upd (upd H7 T1 (.tup [.int (i : Int), .ref pv'])) p (.tup [.int rw.1, .int (-rw.2.1), .int rw.2.2, .int (i : Int)])) (.ref p) (lineOf (-1) rw (0 + i)) := by
            unfold lineOf
            rw [Int.neg_one_mul, Nat.zero_add]
            exact ⟨p, rfl, .of upd_same⟩
          have l8 := l7.map (fun v x h => LnV.same (S.trans S2) h)
          have s9 := s7.trans (S.trans S2)
          refine ⟨zs, hD, by omega, same_keep nD1 s9 (Keep.upd D1 _ _), _, upd_same, ?_⟩
          rw [more, if_pos (by omega)]
          exact (l8.map (fun v x h => LnV.keep (Keep.upd D1 _ _) hD h)).app (.cons (LnV.keep (Keep.upd D1 _ _) hD hv) .nil)
        · refine iteFf (decide_eq_false c) ⟨s7.trans S, zs, S _ _ h7, ?_⟩
          rw [more, if_neg (by omega), List.append_nil]
          exact l7.map (fun v x h => LnV.same S h)
      · rintro H7 ⟨s7, zs, h7, l7⟩
        rw [xl, List.take_length] at l7
        have ll := lines_len (-1) 0 rs
        refine ⟨D1, zs, linesFrom (-1) 0 rs, M, rfl, h7, l7, by omega, fun q hq => lines_sz (.inr rfl) zr hq, M0, by omega, fun e0 l' H8 s8 h8 => ?_, fun l' cs L0 es ps H8 s8 h8 pm ch => ?_⟩
        · have hx8 := (s7.trans s8) _ _ hx1
          refine ⟨_, rfl, x, C, dx, _, rfl, hx8, R.cl, R.nl, by show 1 < 1000; decide, hnx _ _ ⟨rfl, (Keep.of (s7.trans s8)).trans (Keep.upd x H8 _), l', upd_same, ?_⟩⟩
          exact ChU.ins (Keep.upd x H8 _) hx8 (.inl ⟨e0, h8⟩)
        · have hx8 := (s7.trans s8) _ _ hx1
          refine ⟨_, rfl, x, C, dx, _, rfl, hx8, R.cl, R.nl, by show 1 < 1000; decide, hnx _ _ ⟨rfl, (Keep.of (s7.trans s8)).trans (Keep.upd x H8 _), l', upd_same, ?_⟩⟩
          exact ChU.ins (Keep.upd x H8 _) hx8 (.inr ⟨cs, L0, es, ps, h8, pm, ch⟩)
    rintro σ' H2 ⟨rfl, k2, l, hx2, cl⟩
    have cu2 := ChU.ins k2 hx1 cu
    have hr2 := hr1.keep k2 hx1
    have hrs2 := hrs1.map fun v r ⟨a, e, t⟩ => (⟨a, e, insT k2 hx1 t⟩ : RowV K H2 v r)
    have k02 := k1.trans k2
    -- no bound has been seen
    refine sSeq_via (fun σ' H' => σ' = [some (.ref x), some (.ref r), none, none, none, none, none, none] ∧ Keep x H2 H' ∧ H' x = some (.ins C dx [("uppers", .ref u), ("lowers", .ref l), ("low", .non)])) (fun nx hnx => ?_) ?_
    · refine ⟨_, rfl, x, C, dx, _, rfl, hx2, R.cl, R.no, by show 2 < 1000; decide, hnx _ _ ⟨rfl, Keep.upd x H2 _, upd_same⟩⟩
    rintro σ' H3 ⟨rfl, k3, hx3⟩
    have cu3 := ChU.ins k3 hx2 cu2
    have cl3 := ChU.ins k3 hx2 cl
    have hr3 := hr2.keep k3 hx2
    have hrs3 := hrs2.map fun v r ⟨a, e, t⟩ => (⟨a, e, insT k3 hx2 t⟩ : RowV K H3 v r)
    refine sSeq_via (fun σ' H' => σ' = [some (.ref x), some (.ref r), none, none, none, none, none, none] ∧ Keep x H3 H' ∧ ∃ plo, H' plo = some (.lst []) ∧ H' x = some (.ins C dx [("uppers", .ref u), ("lowers", .ref l), ("low", .non), ("low_parts", .ref plo)])) (fun nx hnx => ?_) ?_
    · refine ⟨by show 0 ≤ sizeLine; decide, fun p np => ?_⟩
      have S := same_upd (o := .lst []) np
      have hx4 := S _ _ hx3
      have hp : upd H3 p (.lst []) p = some (.lst []) := upd_same
      generalize upd H3 p (.lst []) = G at *
      refine ⟨_, rfl, x, C, dx, _, rfl, hx4, R.cl, R.nop, by show 3 < 1000; decide, hnx _ _ ⟨rfl, (Keep.of S).trans (Keep.upd x _ _), p, Keep.upd x _ _ _ _ (fun z => by rw [z, hx4] at hp; cases hp) hp, upd_same⟩⟩
    rintro σ' H4 ⟨rfl, k4, plo, hlo, hx4⟩
    have cu4 := ChU.ins k4 hx3 cu3
    have cl4 := ChU.ins k4 hx3 cl3
    have hr4 := hr3.keep k4 hx3
    have hrs4 := hrs3.map fun v r ⟨a, e, t⟩ => (⟨a, e, insT k4 hx3 t⟩ : RowV K H4 v r)
    refine sSeq_via (fun σ' H' => σ' = [some (.ref x), some (.ref r), none, none, none, none, none, none] ∧ Keep x H4 H' ∧ H' x = some (.ins C dx [("uppers", .ref u), ("lowers", .ref l), ("low", .non), ("low_parts", .ref plo), ("high", .non)])) (fun nx hnx => ?_) ?_
    · refine ⟨_, rfl, x, C, dx, _, rfl, hx4, R.cl, R.nh, by show 4 < 1000; decide, hnx _ _ ⟨rfl, Keep.upd x H4 _, upd_same⟩⟩
    rintro σ' H5 ⟨rfl, k5, hx5⟩
    have cu5 := ChU.ins k5 hx4 cu4
    have cl5 := ChU.ins k5 hx4 cl4
    have hr5 := hr4.keep k5 hx4
    have hrs5 := hrs4.map fun v r ⟨a, e, t⟩ => (⟨a, e, insT k5 hx4 t⟩ : RowV K H5 v r)
    have hlo5 := insL k5 hx4 (SqL.of (K := K) hlo)
    refine sSeq_via (fun σ' H' => σ' = [some (.ref x), some (.ref r), none, none, none, none, none, none] ∧ Keep x H5 H' ∧ ∃ phi, H' phi = some (.lst []) ∧ H' x = some (.ins C dx [("uppers", .ref u), ("lowers", .ref l), ("low", .non), ("low_parts", .ref plo), ("high", .non), ("high_parts", .ref phi)])) (fun nx hnx => ?_) ?_
    · refine ⟨by show 0 ≤ sizeLine; decide, fun p np => ?_⟩
      have S := same_upd (o := .lst []) np
      have hx6 := S _ _ hx5
      have hp : upd H5 p (.lst []) p = some (.lst []) := upd_same
      generalize upd H5 p (.lst []) = G at *
      refine ⟨_, rfl, x, C, dx, _, rfl, hx6, R.cl, R.nhp, by show 5 < 1000; decide, hnx _ _ ⟨rfl, (Keep.of S).trans (Keep.upd x _ _), p, Keep.upd x _ _ _ _ (fun z => by rw [z, hx6] at hp; cases hp) hp, upd_same⟩⟩
    rintro σ' H6 ⟨rfl, k6, phi, hhi, hx6⟩
    refine sSeq_via (fun σ' H' => σ' = [some (.ref x), some (.ref r), none, none, none, none, none, none] ∧ Keep x H6 H' ∧ H' x = some (.ins C dx [("uppers", .ref u), ("lowers", .ref l), ("low", .non), ("low_parts", .ref plo), ("high", .non), ("high_parts", .ref phi), ("weights", .non)])) (fun nx hnx => ?_) ?_
    · refine ⟨_, rfl, x, C, dx, _, rfl, hx6, R.cl, R.nw, by show 6 < 1000; decide, hnx _ _ ⟨rfl, Keep.upd x H6 _, upd_same⟩⟩
    rintro σ' H7 ⟨rfl, k7, hx7⟩
    have k57 := k6.trans k7
    have cu7 := ChU.ins k7 hx6 (ChU.ins k6 hx5 cu5)
    have cl7 := ChU.ins k7 hx6 (ChU.ins k6 hx5 cl5)
    have hr7 := (hr5.keep k6 hx5).keep k7 hx6
    have hrs7 := (hrs5.map fun v r ⟨a, e, t⟩ => (⟨a, e, insT k6 hx5 t⟩ : RowV K H6 v r)).map fun v r ⟨a, e, t⟩ => (⟨a, e, insT k7 hx6 t⟩ : RowV K H7 v r)
    have ot7 : OutAt K H7 C x u l none none none := ⟨dx, .non, plo, .non, phi, .non, hx7, rfl, rfl, rfl⟩
    have k07 := ((k02.trans k3).trans (k4.trans k5)).trans k57
    clear hx2 hx3 hx4 hx5 hx6 k1 k2 k3 k4 k5 k6 k7 cu cu2 cu3 cu4 cu5 cl cl3 cl4 cl5 hr1 hr2 hr3 hr4 hr5 hrs1 hrs2 hrs3 hrs4 hrs5 hlo hlo5 hhi k57 k02
    -- rows without y
    refine sSeq_via (fun σ' H' => ∃ y2 y3 lo hi W bs, σ' = [some (.ref x), some (.ref r), y2, y3, none, none, none, none] ∧ RowI K H7 H' C x u l rs (M + M + 1) rs.length lo hi W bs) (fun nx hnx => ?_) ?_
    · refine ⟨r, xs, rfl, hr7, fun J G g0 gk wk => ?_⟩
      refine for_it wk (fun i σ H' => ∃ y2 y3 lo hi W bs, σ = [some (.ref x), some (.ref r), y2, y3, none, none, none, none] ∧ RowI K H7 H' C x u l rs (M + M + 1) i lo hi W bs) ⟨none, none, none, none, none, [], rfl, ⟨fun _ _ _ z => z, ot7, (fun _ z => nomatch z), (fun _ z => nomatch z), (fun _ z => nomatch z), (fun _ z => nomatch z), fun _ _ z => absurd z (Nat.not_lt_zero _)⟩⟩ ?_ ?_ ?_
      · rintro i σ H' _ ⟨_, _, _, _, _, _, _, I⟩
        exact gk H' (insL I.k hx7) (insT I.k hx7)
      · rintro i z σ H' H8 hi' ⟨y2, y3, lo, hi, W, bs, rfl, I⟩ ⟨T1, u', v, rfl, nT, rfl, e1, e2⟩
        obtain ⟨rw, hrw, pv', rfl, tv⟩ := hrs7.at e2
        cases e1
        have S := same_upd (o := .tup [.int (i : Int), .ref pv']) nT
        have tv8 := Same.tup S (insT I.k hx7 tv)
        refine ⟨T1, _, rfl, .inl (.inl upd_same), rfl, _, _, rfl, _, _, rfl, rfl, ?_⟩
        have ot8 := I.out.same S
        have k8 := I.k.trans (Keep.of S)
        generalize upd H' T1 (.tup [.int (i : Int), .ref pv']) = H9 at *
        refine sLast_via (fun t H' => t = decide (rw.2.1 = 0) ∧ H' = H9) (fun Q' kk => ?_) ?_
        · refine ⟨_, rfl, pv', _, 1, _, rfl, rfl, tv8, rfl, rfl, _, rfl, kk _ _ ⟨dec_int.trans (by rw [Bool.eq_iff_iff]; simp), rfl⟩⟩
        rintro t H10 ⟨rfl, rfl⟩
        by_cases c : rw.2.1 = 0
        · obtain ⟨dx8, vl8, pl8, vh8, ph8, vw8, hx8, el8, eh8, ew8⟩ := ot8
          have bo := row_bd M0 zr hrw c
          refine iteTt (decide_eq_true c) ?_
          refine ⟨_, rfl, x, dx8, _, rfl, hx8, rfl, _, rfl, _, rfl, pv', _, 0, _, rfl, rfl, tv8, rfl, _, rfl, pv', _, 2, _, rfl, rfl, tv8, rfl, _, rfl, by show 2 ≤ sizeLine; decide, fun p np => ⟨by show 1 ≤ sizeLine; decide, fun L nL => ?_⟩⟩
          have S1 := same_upd (o := .tup [.int (i : Int), .int 1]) np
          have q1 : PairV K (upd H10 p (.tup [.int (i : Int), .int 1])) (.ref p) ((i : Int), 1) := ⟨p, rfl, .of upd_same⟩
          generalize upd H10 p (.tup [.int (i : Int), .int 1]) = H11 at *
          have S2 := same_upd (o := .lst [.ref p]) nL
          have hL : upd H11 L (.lst [.ref p]) L = some (.lst [.ref p]) := upd_same
          have q2 := PairV.same S2 q1
          generalize upd H11 L (.lst [.ref p]) = H12 at *
          have S12 := S1.trans S2
          have k12 := k8.trans (Keep.of S12)
          have ot12 : OutAt K H12 C x u l lo hi W := OutAt.same S12 ⟨dx8, vl8, pl8, vh8, ph8, vw8, hx8, el8, eh8, ew8⟩
          refine ⟨x, r, u, l, xs, rs, M + M + 1, (rw.1, rw.2.2, [((i : Int), 1)]), L, [.ref p], lo, hi, W, rfl, hr7.keep k12 hx7, xl, h100, .of hL, .cons q2 .nil, bo, fun h e => (I.bd h (I.lof.mem h e)).1, fun h e => (I.bd h (I.hif.mem h e)).1, by omega, by omega, ot12, fun H13 k13 o13 => ?_⟩
          refine ⟨_, _, _, _, _, bs ++ [(rw.1, rw.2.2, [((i : Int), 1)])], rfl, ⟨k12.trans k13, o13, I.lof.step _, I.hif.step _, I.nof.step _, fun b hb => ?_, fun j q hj hq hz => ?_⟩⟩
          · rcases List.mem_append.mp hb with h | h
            · exact I.bd b h
            · rw [List.mem_singleton.mp h]
              exact ⟨bo, .inl ⟨rw, List.mem_of_getElem? hrw, c, rfl, rfl⟩⟩
          · rcases Nat.lt_or_ge j i with h | h
            · exact List.mem_append_left _ (I.z j q h hq hz)
            · have e : j = i := by omega
              subst e
              rw [hrw] at hq
              cases hq
              exact List.mem_append_right _ List.mem_cons_self
        · refine iteFf (decide_eq_false c) ?_
          dsimp only [tNext]
          refine ⟨_, _, lo, hi, W, bs, rfl, ⟨k8, ot8, I.lof, I.hif, I.nof, I.bd, fun j q hj hq hz => ?_⟩⟩
          rcases Nat.lt_or_ge j i with h | h
          · exact I.z j q h hq hz
          · have e : j = i := by omega
            subst e
            rw [hrw] at hq
            cases hq
            exact absurd hz c
      · rintro σ H' ⟨y2, y3, lo, hi, W, bs, rfl, I⟩
        rw [xl] at I
        exact hnx _ _ ⟨_, _, lo, hi, W, bs, rfl, I⟩
    rintro σ' H8 ⟨y2, y3, lo, hi, W, bs, rfl, I⟩
    -- the pairs
    have zz : ∀ bs' : List Bdy, (∀ b ∈ bs, b ∈ bs') → ∀ X D, 0 < D → (∀ b ∈ bs', b.1 * X ≤ b.2.1 * D) → ∀ rr ∈ rs, rr.2.1 = 0 → rr.1 * X ≤ rr.2.2 * D := fun bs' sub X D _ h rr hrr z => by
      obtain ⟨j, hj⟩ := List.getElem?_of_mem hrr
      exact h _ (sub _ (I.z j rr (List.getElem?_eq_some_iff.mp hj).1 hj z))
    refine sSeq_via (fun σ' H' => ∃ y2 y3 y4 y5 y6 y7 lo hi W, ∃ bs : List Bdy, σ' = [some (.ref x), some (.ref r), y2, y3, y4, y5, y6, y7] ∧ Keep x H7 H' ∧ OutAt K H' C x u l lo hi W ∧ LoOf bs lo ∧ HiOf bs hi ∧ NoOf rs.length bs W ∧ (∀ b ∈ bs, BdOk rs (M + M + 1) b ∧ Src rs b) ∧
      ∀ X D, 0 < D → (∀ b ∈ bs, b.1 * X ≤ b.2.1 * D) → InX rs X D) (fun nx hnx => ?_) ?_
    · have cu8 := cu7.ins I.k hx7
      have cl8 := cl7.ins I.k hx7
      obtain ⟨dx8, vl8, pl8, vh8, ph8, vw8, hx8, el8, eh8, ew8⟩ := id I.out
      have start : ∀ {cu cl : List V}, H8 u = some (.lst cu) → H8 l = some (.lst cl) → True := fun _ _ => trivial
      have none_ : (linesFrom 1 0 rs = [] ∨ linesFrom (-1) 0 rs = []) → ∀ H9, Same H8 H9 → nx [some (.ref x), some (.ref r), y2, y3, none, none, none, none] H9 := fun e H9 s9 => by
        refine hnx _ _ ⟨_, _, _, _, _, _, lo, hi, W, bs, rfl, I.k.trans (Keep.of s9), I.out.same s9, I.lof, I.hif, I.nof, I.bd, fun X D hD h => ⟨zz bs (fun _ h => h) X D hD h, fun q hq r' hr' => ?_⟩⟩
        rcases e with e | e
        · rw [e] at hq
          cases hq
        · rw [e] at hr'
          cases hr'
      refine ⟨_, rfl, x, C, dx8, _, _, rfl, hx8, R.cl, R.nu, rfl, _, rfl, x, C, dx8, _, _, rfl, hx8, R.cl, R.nl, rfl, ?_⟩
      rcases cu8 with ⟨eu, hu⟩ | ⟨cu, U0, us, pu, hu, permu, lu, hfu, su⟩
      · obtain ⟨cl, hl⟩ : ∃ cl, H8 l = some (.lst cl) := by
          rcases cl8 with ⟨_, h⟩ | ⟨cl, _, _, _, h, _⟩
          · exact ⟨_, h⟩
          · exact ⟨_, h⟩
        refine ⟨u, l, [], cl, rfl, .of hu, .of hl, .inl ⟨.inl rfl, fun l' H9 s9 _ h9 => ⟨l', rfl, ⟨_, .of h9⟩, for_list (xs := []) (fun _ σ H' => σ = [some (.ref x), some (.ref r), y2, y3, none, none, none, none] ∧ Same H8 H' ∧ H' l' = some (.lst [])) ⟨rfl, s9, h9⟩ (fun _ _ _ _ z => .of z.2.2) (fun i z σ H' hi _ => nomatch hi) ?_⟩⟩⟩
        rintro σ H' ⟨rfl, s, _⟩
        exact none_ (.inl eu) _ s
      rcases cl8 with ⟨el, hl⟩ | ⟨cl, L0, ls, pl, hl, perml, ll, hfl, sl⟩
      · refine ⟨u, l, cu, [], rfl, .of hu, .of hl, .inl ⟨.inr rfl, fun l' H9 s9 _ h9 => ⟨l', rfl, ⟨_, .of h9⟩, for_list (xs := []) (fun _ σ H' => σ = [some (.ref x), some (.ref r), y2, y3, none, none, none, none] ∧ Same H8 H' ∧ H' l' = some (.lst [])) ⟨rfl, s9, h9⟩ (fun _ _ _ _ z => .of z.2.2) (fun i z σ H' hi _ => nomatch hi) ?_⟩⟩⟩
        rintro σ H' ⟨rfl, s, _⟩
        exact none_ (.inr el) _ s
      have lenu := chain_len hfu
      have lenl := chain_len hfl
      have e1 := permu.length_eq
      have e2 := perml.length_eq
      have e3 := lines_len 1 0 rs
      have e4 := lines_len (-1) 0 rs
      refine ⟨u, l, cu, cl, rfl, .of hu, .of hl, .inr ⟨U0, L0, us, ls, M + M + 1, lu, ll, hfu.up, hfl.up, by omega, by omega, su, sl, by omega, by omega, fun l' ys f H9 s9 nl' h9 pr flen seen => ?_⟩⟩
      have ylen := pr.len
      refine ⟨l', rfl, ⟨_, .of h9⟩, for_list (K := K) (a := l') (xs := ys) (fun i σ H' => ∃ y4 y5 y6 y7 lo hi W, ∃ bs' : List Bdy, σ = [some (.ref x), some (.ref r), y2, y3, y4, y5, y6, y7] ∧ Keep x H9 H' ∧ OutAt K H' C x u l lo hi W ∧ LoOf bs' lo ∧ HiOf bs' hi ∧ NoOf rs.length bs' W ∧ (∀ b ∈ bs', BdOk rs (M + M + 1) b ∧ Src rs b) ∧ (∀ b ∈ bs, b ∈ bs') ∧
        ∀ j i1 i2 q rr, j < i → f[j]? = some (i1, i2) → (lns U0 us)[i1]? = some q → (lns L0 ls)[i2]? = some rr → ∃ b ∈ bs', b.1 = q.a * rr.b + rr.a * q.b ∧ b.2.1 = q.c * rr.b + rr.c * q.b)
        ⟨_, _, _, _, lo, hi, W, bs, rfl, fun _ _ _ z => z, I.out.same s9, I.lof, I.hif, I.nof, I.bd, fun _ z => z, fun _ _ _ _ _ z => absurd z (Nat.not_lt_zero _)⟩ ?_ ?_ ?_⟩
      · rintro i σ H' _ ⟨_, _, _, _, _, _, _, _, _, k', _⟩
        exact .of (k' _ _ (fun e => by
          have := s9 _ _ hx8
          rw [← e, h9] at this
          cases this) h9)
      · rintro i z σ H10 hiy ⟨y4, y5, y6, y7, lo, hi, W, bs', rfl, k10, ot, lof, hif, nof, bd, sub, got⟩
        obtain ⟨⟨i1, i2⟩, hf, p, vu, vl, q, rr, rfl, tp, hq, hr2, lvq, lvr⟩ := pr.at hiy
        have hx9 := s9 _ _ hx8
        have tp := insT k10 hx9 tp
        have lvq := lvq.ins k10 hx9
        have lvr := lvr.ins k10 hx9
        have mq : q ∈ linesFrom 1 0 rs := permu.mem_iff.mp (hfu.mem _ (List.mem_of_getElem? hq))
        have mr : rr ∈ linesFrom (-1) 0 rs := perml.mem_iff.mp (hfl.mem _ (List.mem_of_getElem? hr2))
        obtain ⟨pq, rfl, tq⟩ := lvq
        obtain ⟨pr', rfl, tr⟩ := lvr
        refine ⟨p, _, rfl, tp, rfl, _, _, rfl, _, _, rfl, rfl, ?_⟩
        have sq := lines_sz (.inl rfl) zr mq
        have sr := lines_sz (.inr rfl) zr mr
        have mul : ∀ {i j : Int}, Sz M i → Sz M j → OkMul i j := fun hi hj => mulOk hi hj (by omega) (by omega) (by omega)
        refine ⟨_, rfl, pq, _, 0, _, rfl, rfl, tq, rfl, _, rfl, pr', _, 1, _, rfl, rfl, tr, rfl, _, _, rfl, rfl, mul sq.a sr.b, _, rfl, pr', _, 0, _, rfl, rfl, tr, rfl, _, rfl, pq, _, 1, _, rfl, rfl, tq, rfl, _, _, rfl, rfl, mul sr.a sq.b, _, _, rfl, rfl, ?_⟩
        refine ⟨_, rfl, pq, _, 2, _, rfl, rfl, tq, rfl, _, rfl, pr', _, 1, _, rfl, rfl, tr, rfl, _, _, rfl, rfl, mul sq.c sr.b, _, rfl, pr', _, 2, _, rfl, rfl, tr, rfl, _, rfl, pq, _, 1, _, rfl, rfl, tq, rfl, _, _, rfl, rfl, mul sr.c sq.b, _, _, rfl, rfl, ?_⟩
        obtain ⟨dx10, vl10, pl10, vh10, ph10, vw10, hx10, _⟩ := id ot
        refine ⟨_, rfl, x, dx10, _, rfl, hx10, rfl, _, rfl, _, rfl, _, rfl, ?_⟩
        refine ⟨_, rfl, pq, _, 3, _, rfl, rfl, tq, rfl, _, rfl, pr', _, 1, _, rfl, rfl, tr, rfl, by show 2 ≤ sizeLine; decide, fun p1 n1 => ?_⟩
        have S1 := same_upd (o := .tup [.int q.n, .int rr.b]) n1
        have q1 : PairV K (upd H10 p1 (.tup [.int q.n, .int rr.b])) (.ref p1) (q.n, rr.b) := ⟨p1, rfl, .of upd_same⟩
        have tq1 := Same.tup S1 tq
        have tr1 := Same.tup S1 tr
        generalize upd H10 p1 (.tup [.int q.n, .int rr.b]) = H11 at *
        refine ⟨_, rfl, pr', _, 3, _, rfl, rfl, tr1, rfl, _, rfl, pq, _, 1, _, rfl, rfl, tq1, rfl, by show 2 ≤ sizeLine; decide, fun p2 n2 => ?_⟩
        have S2 := same_upd (o := .tup [.int rr.n, .int q.b]) n2
        have q2 : PairV K (upd H11 p2 (.tup [.int rr.n, .int q.b])) (.ref p2) (rr.n, q.b) := ⟨p2, rfl, .of upd_same⟩
        have q1 := PairV.same S2 q1
        generalize upd H11 p2 (.tup [.int rr.n, .int q.b]) = H12 at *
        refine ⟨by show 2 ≤ sizeLine; decide, fun lp nlp => ?_⟩
        have S3 := same_upd (o := .lst [.ref p1, .ref p2]) nlp
        have hlp : upd H12 lp (.lst [.ref p1, .ref p2]) lp = some (.lst [.ref p1, .ref p2]) := upd_same
        have q1 := PairV.same S3 q1
        have q2 := PairV.same S3 q2
        generalize upd H12 lp (.lst [.ref p1, .ref p2]) = H13 at *
        have S13 := S1.trans (S2.trans S3)
        obtain ⟨iq, rq, hrq, posq, eq⟩ := (lines_mem 1).mp mq
        obtain ⟨ir, rr', hrr, posr, er⟩ := (lines_mem (-1)).mp mr
        have bo := pair_bd zr hrq hrr (by omega) (by omega)
        have eb : (rq.1 * -rr'.2.1 + rr'.1 * rq.2.1, rq.2.2 * -rr'.2.1 + rr'.2.2 * rq.2.1, [((iq : Int), -rr'.2.1), ((ir : Int), rq.2.1)]) = (q.a * rr.b + rr.a * q.b, q.c * rr.b + rr.c * q.b, [(q.n, rr.b), (rr.n, q.b)]) := by
          subst eq
          subst er
          unfold lineOf
          dsimp only
          rw [Int.one_mul, Int.neg_one_mul, Nat.zero_add, Nat.zero_add]
        rw [eb] at bo
        have k13 : Keep x H7 H13 := I.k.trans ((Keep.of s9).trans (k10.trans (Keep.of S13)))
        refine ⟨x, r, u, l, xs, rs, M + M + 1, (q.a * rr.b + rr.a * q.b, q.c * rr.b + rr.c * q.b, [(q.n, rr.b), (rr.n, q.b)]), lp, [.ref p1, .ref p2], lo, hi, W, rfl, hr7.keep k13 hx7, xl, h100, .of hlp, .cons q1 (.cons q2 .nil), bo, fun h e => (bd h (lof.mem h e)).1, fun h e => (bd h (hif.mem h e)).1, by omega, by omega, ot.same S13, fun H14 k14 o14 => ?_⟩
        refine ⟨_, _, _, _, _, _, _, bs' ++ [(q.a * rr.b + rr.a * q.b, q.c * rr.b + rr.c * q.b, [(q.n, rr.b), (rr.n, q.b)])], rfl, k10.trans ((Keep.of S13).trans k14), o14, lof.step _, hif.step _, nof.step _, fun b hb => ?_, fun b hb => List.mem_append_left _ (sub b hb), fun j j1 j2 q' r' hj hfj hq' hr'' => ?_⟩
        · rcases List.mem_append.mp hb with h | h
          · exact bd b h
          · rw [List.mem_singleton.mp h]
            exact ⟨bo, .inr ⟨q, mq, rr, mr, rfl, rfl⟩⟩
        · rcases Nat.lt_or_ge j i with h | h
          · obtain ⟨b, hb, e⟩ := got j j1 j2 q' r' h hfj hq' hr''
            exact ⟨b, List.mem_append_left _ hb, e⟩
          · have e : j = i := by omega
            subst e
            rw [hf] at hfj
            cases hfj
            rw [hq] at hq'
            rw [hr2] at hr''
            cases hq'
            cases hr''
            exact ⟨_, List.mem_append_right _ List.mem_cons_self, rfl, rfl⟩
      · rintro σ H10 ⟨y4, y5, y6, y7, lo, hi, W, bs', rfl, k10, ot, lof, hif, nof, bd, sub, got⟩
        refine hnx _ _ ⟨_, _, _, _, _, _, lo, hi, W, bs', rfl, I.k.trans ((Keep.of s9).trans k10), ot, lof, hif, nof, bd, fun X D hD h => ⟨zz bs' sub X D hD h, fun q hq rr hrr => ?_⟩⟩
        have tu := tight_idx X D us U0
        have tl := tight_idx X D ls L0
        obtain ⟨j, hj⟩ := List.getElem?_of_mem (seen X D hD)
        have jl := (List.getElem?_eq_some_iff.mp hj).1
        obtain ⟨b, hb, b1, b2⟩ := got j _ _ _ _ (by omega) hj tu tl
        have hold := h b hb
        rw [b1, b2] at hold
        have mq := permu.mem_iff.mpr hq
        have mr := perml.mem_iff.mpr hrr
        have t1 := (hfu.mn q mq X D hD).resolve_right (fun z => z)
        have t2 := (hfl.mn rr mr X D hD).resolve_right (fun z => z)
        have p1 := hfu.tightPos X D us [] (List.append_nil _).symm
        have p2 := hfl.tightPos X D ls [] (List.append_nil _).symm
        exact pair_hold p1 p2 (hfu.pos q mq) (hfl.pos rr mr) t1 t2 hold
    rintro σ' H9 ⟨z2, z3, z4, z5, z6, z7, lo, hi, W, bs, rfl, k9, ot, lof, hif, nof, bd, inx⟩
    clear I zz
    have k09 := k07.trans k9
    have cu9 := cu7.ins k9 hx7
    have cl9 := cl7.ins k9 hx7
    have lob : ∀ l, lo = some l → BdOk rs (M + M + 1) l ∧ l.1 < 0 := fun l e => ⟨(bd l (lof.mem l e)).1, by subst e; exact lof.2.1⟩
    have hib : ∀ h, hi = some h → BdOk rs (M + M + 1) h ∧ 0 < h.1 := fun h e => ⟨(bd h (hif.mem h e)).1, by subst e; exact hif.2.1⟩
    have emp : ∀ ws, W = some ws → Emp rs ws ∧ nz ws ≤ 3 := fun ws e => by
      subst e
      obtain ⟨b, hb, b1, b2, rfl⟩ := nof
      have z := (bd b hb).1.emp b1 b2
      have := (bd b hb).1.len
      exact ⟨z.2.1, by omega⟩
    have two : W = none → ∀ X D, 0 < D → (((∀ h, hi = some h → h.1 * X ≤ h.2.1 * D) ∧ ∀ l, lo = some l → l.1 * X ≤ l.2.1 * D) ↔ InX rs X D) := fun e X D hD => by
      subst e
      exact ⟨fun z => inx X D hD (bounds_hold hif lof nof hD z.1 z.2), fun z => ends_hold hif lof fun b hb => (bd b hb).2.hold z⟩
    have done : (∀ l h, lo = some l → hi = some h → ¬ h.2.1 * -l.1 < -l.2.1 * h.1) → Q .non H9 := fun no => q _ u l lo hi W k09 ot cu9 cl9 ⟨lob, hib, emp, fun e => ⟨no, two e⟩⟩
    obtain ⟨dx9, vl9, pl9, vh9, ph9, vw9, hx9, el9, eh9, ew9⟩ := id ot
    refine ⟨_, rfl, x, C, dx9, _, _, rfl, hx9, R.cl, R.no, rfl, rfl, _, rfl, ?_⟩
    cases lo with
    | none =>
      obtain rfl : vl9 = .non := el9
      rw [decide_eq_true rfl]
      exact iteFf rfl (iteFf rfl (done fun _ _ e => nomatch e))
    | some lo =>
      obtain ⟨⟨pL, rfl, tL⟩, _⟩ := el9
      rw [decide_eq_false (fun z => nomatch z)]
      refine iteTt rfl ⟨_, rfl, x, C, dx9, _, _, rfl, hx9, R.cl, R.nh, rfl, rfl, _, rfl, ?_⟩
      cases hi with
      | none =>
        obtain rfl : vh9 = .non := eh9
        rw [decide_eq_true rfl]
        exact iteFf rfl (iteFf rfl (done fun _ _ _ e => nomatch e))
      | some hi =>
        obtain ⟨⟨pH, rfl, tH⟩, _⟩ := eh9
        rw [decide_eq_false (fun z => nomatch z)]
        have bl := (lob lo rfl).1
        have bh := (hib hi rfl).1
        have l0 := (lob lo rfl).2
        have h0 := (hib hi rfl).2
        have neg : ∀ {i : Int} {N : Nat}, Sz N i → Sz N (-i) := fun h => by
          unfold Sz at *
          rw [Int.natAbs_neg]
          exact h
        refine iteTt rfl ⟨_, rfl, x, C, dx9, _, _, rfl, hx9, R.cl, R.nh, rfl, _, rfl, x, C, dx9, _, _, rfl, hx9, R.cl, R.no, rfl, _, _, hi.2.1, hi.1, -lo.2.1, -lo.1, M + M + 1, rfl, ⟨pH, rfl, tH⟩, ⟨pL, rfl, tL⟩, by omega, by omega, bh.zc, bh.za, neg bl.zc, neg bl.za, _, rfl, ?_⟩
        by_cases c : hi.2.1 * -lo.1 < -lo.2.1 * hi.1
        · rw [decide_eq_true c]
          refine iteTt rfl ⟨_, rfl, x, dx9, _, rfl, hx9, rfl, _, rfl, x, r, u, l, xs, rs, M + M + 1, lo, hi, W, rfl, hr7.keep k9 hx7, hrs7.map (fun v rw ⟨a, e, t⟩ => ⟨a, e, insT k9 hx7 t⟩), h100, fun v hv => ⟨(zr v hv).a.up (by omega), (zr v hv).b.up (by omega), (zr v hv).c.up (by omega)⟩, bl, bh, l0, h0, c, by omega, by omega, ot, fun H10 ws k10 em nz3 o10 => ?_⟩
          refine q _ u l _ _ _ (k09.trans k10) o10 (cu9.ins k10 hx9) (cl9.ins k10 hx9) ⟨lob, hib, fun ws' e => ?_, fun e => nomatch e⟩
          cases e
          exact ⟨em, nz3⟩
        · rw [decide_eq_false c]
          refine iteFf rfl (done fun l' h' e1 e2 => ?_)
          cases e1
          cases e2
          exact c
end
end K29

namespace K29
open PySem PySem.Spec PyProof.Rows L2 My
local macro_rules | `(tactic| walk_at "side") => `(tactic| (first
  | assumption
  | (refine OkMod.mk ?_; omega)
  | (refine mulOkL ?_ ?_ <;> omega)
  | (refine mulOkR ?_ ?_ <;> omega)
  | (refine divOk ?_ ?_ <;> omega)))
local macro_rules | `(tactic| walk_at "rd") => `(tactic| (first
  | with_reducible refine ⟨_, rfl, ?_⟩
  | refine ⟨_, rfl, ?_⟩
  | refine ⟨_, _, rfl, rfl, ?_⟩
  | refine And.intro (by walk_at "side") ?_
  | refine ⟨_, _, rfl, asm (by assumption), ?_⟩
  | refine ⟨_, _, rfl, asm ?_⟩))
section
variable {P : Program} {w : World} {K : PySem.W.Frag} {mg : Str → Option Value} {base : Heap}

open M46
/-! ### is_number, check_numbers, check_from -/
def spIsN : Sp := fun vs H Q _ => ∃ i : Int, vs = [.int i] ∧ Q (.bl true) H
theorem ok_is_number {f : Addr} {fd : FuncData} (T : Nm mg) (F : Fun K "is_number" "is_number" s_is_number f fd) : FnOk P w K mg base CX0 1 f fd ["value"] spIsN := by
  refine F.ok sc_is_number (fun vs H Q E h => ?_) (fun cdv A outer s H vs Q E hr h => ?_)
  · obtain ⟨i, rfl, _⟩ := h
    rfl
  · obtain ⟨i, rfl, q⟩ := h
    refine ⟨_, (pss_one (ps_ret (pe_and (pe_callB call_isi (by rfl) T.isinstance (by decide +kernel) (pa_cons (pv 0) (pa_cons (pe_ty (n := "int") (by rfl) T.int (by decide +kernel)) pa_nil))) (pe_one (pe_not (pe_callB call_isi (by rfl) T.isinstance (by decide +kernel) (pa_cons (pv 0) (pa_cons (pe_ty (n := "bool") (by rfl) T.bool (by decide +kernel)) pa_nil)))))))), ?_⟩
    refine ⟨_, rfl, _, _, _, _, _, rfl, .ty _, .base (.int _), kit_ty (by decide +kernel), true, rfl, iteT ?_⟩
    exact ⟨_, rfl, _, _, _, _, _, rfl, .ty _, .base (.int _), kit_ty (by decide +kernel), false, rfl, q⟩
def spCheckNums (K : PySem.W.Frag) : Sp := fun vs H Q _ => ∃ (a : Addr) (ns : List Int), vs = [.ref a] ∧ SqL K H a (ns.map V.int) ∧ Q .non H
theorem ok_check_numbers {f fN : Addr} {fd fdN : FuncData} (T : Nm mg) (C_is_number : Has P w K mg base "is_number" 1 ["value"] spIsN fN fdN) (F : Fun K "check_numbers" "check_numbers" s_check_numbers f fd) : FnOk P w K mg base CX0 2 f fd ["values"] (spCheckNums K) := by
  refine F.ok sc_check_numbers (fun vs H Q E h => ?_) (fun cdv A outer s H vs Q E hr h => ?_)
  · obtain ⟨a, ns, rfl, _⟩ := h
    rfl
  · obtain ⟨a, ns, rfl, hS, q⟩ := h
    refine ⟨_, (pss_one (ps_for PassesOwn.never rfl (pi_list (pv 0)) (pg_name (i := 1) sc_check_numbers.nd rfl (Or.inl rfl))
      (pss_one (ps_if (pt_not (pt_val (pe_call C_is_number.G (hr.mono (by decide)) (by rfl) C_is_number.g C_is_number.k C_is_number.b .nil pass0 (pa_cons (pv 1) pa_nil))))
      (pss_one ps_never)
      pss_nil)))), ?_⟩
    refine ⟨_, rfl, a, rfl, ⟨_, hS⟩, for_list (K := K) (a := a) (xs := ns.map V.int) (fun i σ H' => ∃ y, σ = [some (.ref a), y] ∧ H' = H) ⟨none, rfl, rfl⟩ (fun i σ H' _ ⟨_, _, e⟩ => e ▸ hS) ?_ ?_⟩
    · rintro i x σ H' hi ⟨y, rfl, rfl⟩
      obtain ⟨z, _, rfl⟩ := List.mem_map.mp (List.mem_of_getElem? hi)
      exact ⟨_, rfl, z, rfl, true, rfl, iteF ⟨_, rfl, rfl⟩⟩
    · rintro σ H' ⟨y, rfl, rfl⟩
      exact q
def spCheckFrom : Sp := fun vs H Q _ => ∃ l i : Int, vs = [.int l, .int i] ∧ l ≤ i ∧ Q .non H
theorem ok_check_from {f fN : Addr} {fd fdN : FuncData} (T : Nm mg) (C_is_number : Has P w K mg base "is_number" 1 ["value"] spIsN fN fdN) (F : Fun K "check_from" "check_from" s_check_from f fd) : FnOk P w K mg base CX0 2 f fd ["least", "value"] spCheckFrom := by
  refine F.ok sc_check_from (fun vs H Q E h => ?_) (fun cdv A outer s H vs Q E hr h => ?_)
  · obtain ⟨l, i, rfl, _⟩ := h
    rfl
  · obtain ⟨l, i, rfl, hl, q⟩ := h
    refine ⟨_, (pss_one (ps_if (PW.pt (pw_or (pt_not (pt_val (pe_call C_is_number.G (hr.mono (by decide)) (by rfl) C_is_number.g C_is_number.k C_is_number.b .nil pass0 (pa_cons (pv 1) pa_nil)))) (pw_or1 (pt_cmpR op_lt (pv 1) (pv 0) (nomark _)))))
      (pss_one ps_never)
      pss_nil)), ?_⟩
    refine ⟨_, rfl, i, rfl, true, rfl, iteF ?_⟩
    refine ⟨_, rfl, _, rfl, _, _, rfl, rfl, _, rfl, ?_⟩
    rw [decide_eq_false (show ¬ i < l by omega)]
    exact iteF q
/-! ### total -/
def Bd (i : Int) : Prop := i.natAbs < 2 ^ 1000
def spTotal : Sp := fun vs H Q _ => ∃ a b m n : Int, vs = [.int a, .int b, .int m, .int n] ∧ Bd a ∧ Bd b ∧ Bd m ∧ Bd n ∧ 0 < m ∧ 0 ≤ n ∧ ∀ H', Same H H' → Q (.int (fsum a b m n.toNat)) H'
theorem Bd.of {i : Int} (h0 : 0 ≤ i) {j : Int} (hj : Bd j) (h : i ≤ j) : Bd i := by
  unfold Bd at *
  omega
theorem Bd.div {j i : Int} (h : 0 < j) (hb : Bd j) : OkDiv i j := ⟨wide_div (b := 1000) h hb (by decide) (by decide)⟩
theorem Bd.mul {i j : Int} (hi : i.natAbs < 2 ^ 3000) (hj : j.natAbs < 2 ^ 3000) : OkMul i j := mulOk hi hj (by decide) (by decide) (by decide)
theorem Bd.up {i : Int} (h : Bd i) : i.natAbs < 2 ^ 3000 := Nat.lt_trans h (by decide +kernel)
theorem natAbs_div_le {x m : Int} (hm : 0 < m) : (x / m).natAbs ≤ x.natAbs + 1 := by
  have k1 : m * (x / m) ≤ x := Int.mul_ediv_self_le (by omega)
  have k2 : x < m * (x / m) + m := Int.lt_mul_ediv_self_add hm
  by_cases h : 0 ≤ x
  · have h1 := Int.ediv_le_self m h
    have h2 : 0 ≤ x / m := Int.ediv_nonneg h (by omega)
    omega
  · have h1 : x ≤ x / m := by
      by_cases hh : x ≤ x / m
      · exact hh
      · exfalso
        have w2 : m * (x / m) ≤ m * (x - 1) := Int.mul_le_mul_of_nonneg_left (by omega) (by omega)
        have w3 : m * (x - 1) = m * x - m := by rw [Int.mul_sub, Int.mul_one]
        have w4 : m * x ≤ 1 * x := Int.mul_le_mul_of_nonpos_right (by omega) (by omega)
        omega
    have : x / m < 0 := Int.ediv_neg_of_neg_of_pos (by omega) hm
    omega
theorem Bd.divw {x m : Int} (hm : 0 < m) (hx : Bd x) : (x / m).natAbs < 2 ^ 3000 := by
  have h := natAbs_div_le (x := x) hm
  have h2 : x.natAbs < 2 ^ 1000 := hx
  have h3 : (2 : Nat) ^ 1000 + 1 < 2 ^ 3000 := by decide +kernel
  omega
theorem ok_total {f f1 f2 : Addr} {fd fd1 fd2 : FuncData} (C_check_numbers : Has P w K mg base "check_numbers" 2 ["values"] (spCheckNums K) f1 fd1) (C_check_from : Has P w K mg base "check_from" 2 ["least", "value"] spCheckFrom f2 fd2) (F : Fun K "total" "total" s_total f fd) : FnOk P w K mg base CX0 3 f fd ["a", "b", "m", "many"] spTotal := by
  refine F.ok sc_total (fun vs H Q E h => ?_) (fun cdv A outer s H vs Q E hr h => ?_)
  · obtain ⟨a, b, m, n, rfl, _⟩ := h
    rfl
  · obtain ⟨a, b, m, n, rfl, ba, bb, bm, bn, hm, hn, q⟩ := h
    refine ⟨_, (pss_cons (ps_expr (pe_call C_check_numbers.G (hr.mono (by decide)) (by rfl) C_check_numbers.g C_check_numbers.k C_check_numbers.b .nil pass0 (pa_cons (pe_lst (pa_cons (pv 0) (pa_cons (pv 1) (pa_cons (pv 2) (pa_cons (pv 3) pa_nil))))) pa_nil)))
    (pss_cons (ps_expr (pe_call C_check_from.G (hr.mono (by decide)) (by rfl) C_check_from.g C_check_from.k C_check_from.b .nil pass0 (pa_cons pe_int (pa_cons (pv 2) pa_nil))))
    (pss_cons (ps_expr (pe_call C_check_from.G (hr.mono (by decide)) (by rfl) C_check_from.g C_check_from.k C_check_from.b .nil pass0 (pa_cons pe_int (pa_cons (pv 3) pa_nil))))
    (pss_cons (ps_set (i := 4) sc_total.nd rfl (Or.inl rfl) pe_int)
    (pss_cons (ps_while PassesOwn.never (pt_cmpR op_gt (pv 3) pe_int (nomark _))
      (pss_cons (ps_set (i := 4) sc_total.nd rfl (Or.inl rfl) (pe_op op_add (pe_op op_add (pv 4) (pe_op op_mulA (pe_op op_fdivA (pe_op op_mulA (pv 3) (pe_op op_sub (pv 3) pe_int)) pe_int) (pe_op op_fdivA (pv 0) (pv 2)))) (pe_op op_mulA (pv 3) (pe_op op_fdivA (pv 1) (pv 2)))))
    (pss_cons (ps_set (i := 0) sc_total.nd rfl (Or.inl rfl) (pe_op op_modA (pv 0) (pv 2)))
    (pss_cons (ps_set (i := 1) sc_total.nd rfl (Or.inl rfl) (pe_op op_modA (pv 1) (pv 2)))
    (pss_cons (ps_set (i := 5) sc_total.nd rfl (Or.inl rfl) (pe_op op_add (pe_op op_mulA (pv 0) (pv 3)) (pv 1)))
    (pss_cons (ps_set (i := 3) sc_total.nd rfl (Or.inl rfl) (pe_op op_fdivA (pv 5) (pv 2)))
    (pss_cons (ps_set (i := 1) sc_total.nd rfl (Or.inl rfl) (pe_op op_modA (pv 5) (pv 2)))
    (pss_one (ps_par (i := 0) (j := 2) (by rfl) sc_total.nd rfl rfl (by decide) rfl rfl (pa_cons (pv 2) (pa_cons (pv 0) pa_nil)) (by rfl))))))))))
    (pss_one (ps_ret (pv 4)))))))), ?_⟩
    refine ⟨_, rfl, _, rfl, _, rfl, _, rfl, (by show 4 ≤ sizeLine; decide), fun p np => ?_⟩
    refine ⟨p, [a, b, m, n], rfl, .inl (.inl upd_same), ?_⟩
    refine ⟨_, rfl, 1, m, rfl, by omega, _, rfl, 0, n, rfl, hn, ?_⟩
    have sm : Same H (upd H p (.lst [.int a, .int b, .int m, .int n])) := same_upd np
    generalize hT : fsum a b m n.toNat = T at q
    refine ⟨fun μ σ H' => ∃ a b m n found : Int, ∃ e, σ = [some (.int a), some (.int b), some (.int m), some (.int n), some (.int found), e] ∧ Same H H' ∧ Bd a ∧ Bd b ∧ Bd m ∧ Bd n ∧ 0 ≤ m ∧ (0 < n → 0 < m) ∧ 0 ≤ n ∧ found + fsum a b m n.toNat = T ∧ μ = m.toNat,
      ⟨m.toNat, a, b, m, n, 0, none, rfl, sm, ba, bb, bm, bn, by omega, fun _ => hm, hn, by omega, rfl⟩, ?_⟩
    clear hT ba bb bm bn hm hn sm np
    rintro μ σ H1 ⟨a, b, m, n, found, e, rfl, sm, ba, bb, bm, bn, m0, mn, n0, ht, rfl⟩
    refine ⟨_, rfl, _, _, rfl, rfl, _, rfl, ?_⟩
    by_cases hp : n > 0
    · rw [decide_eq_true hp]
      refine iteT ?_
      have hm : 0 < m := mn hp
      have mo : ∀ x, OkMod x m := fun _ => ⟨hm⟩
      have mo1 := mo a
      have mo2 := mo b
      have mo3 := mo (a % m * n + b % m)
      have d1 : OkDiv a m := Bd.div hm bm
      have d2 : OkDiv b m := Bd.div hm bm
      have d3 : OkDiv (n * (n - 1)) 2 := divOk (by omega) (by omega)
      have bn1 : (n - 1).natAbs < 2 ^ 1000 := by
        have : n.natAbs < 2 ^ 1000 := bn
        omega
      have u1 : OkMul n (n - 1) := mulOk bn bn1 (by decide) (by decide) (by decide)
      have bnn : (n * (n - 1)).natAbs < 2 ^ 2000 := wide_lt bn bn1
      have bnn2 : (n * (n - 1) / 2).natAbs < 2 ^ 3000 := by
        have h := natAbs_div_le (x := n * (n - 1)) (m := 2) (by omega)
        have h3 : (2 : Nat) ^ 2000 + 1 < 2 ^ 3000 := by decide +kernel
        omega
      have u2 : OkMul (n * (n - 1) / 2) (a / m) := Bd.mul bnn2 (Bd.divw hm ba)
      have u3 : OkMul n (b / m) := Bd.mul bn.up (Bd.divw hm bb)
      have a0 := Int.emod_nonneg a (show m ≠ 0 by omega)
      have a1 := Int.emod_lt_of_pos a hm
      have b0 := Int.emod_nonneg b (show m ≠ 0 by omega)
      have b1 := Int.emod_lt_of_pos b hm
      have ba' : Bd (a % m) := Bd.of a0 bm (by omega)
      have bb' : Bd (b % m) := Bd.of b0 bm (by omega)
      have u4 : OkMul (a % m) n := Bd.mul ba'.up bn.up
      have d4 : OkDiv (a % m * n + b % m) m := Bd.div hm bm
      have e0 : 0 ≤ a % m * n := Int.mul_nonneg a0 n0
      have e1 : 0 ≤ (a % m * n + b % m) / m := Int.ediv_nonneg (by omega) (by omega)
      have e2 : (a % m * n + b % m) / m ≤ n := by
        have h : a % m * n ≤ (m - 1) * n := Int.mul_le_mul_of_nonneg_right (by omega) n0
        rw [Int.sub_mul, Int.one_mul] at h
        have h2 : a % m * n + b % m < m * n + m := by omega
        have h3 : (a % m * n + b % m) / m < n + 1 := Int.ediv_lt_of_lt_mul hm (by rw [Int.add_mul, Int.mul_comm n m]; omega)
        omega
      have f0 := Int.emod_nonneg (a % m * n + b % m) (show m ≠ 0 by omega)
      have f1 := Int.emod_lt_of_pos (a % m * n + b % m) hm
      refine ⟨fun σ' H' => ∃ a' b' m' n' found' : Int, ∃ e', σ' = [some (.int a'), some (.int b'), some (.int m'), some (.int n'), some (.int found'), e'] ∧ Same H H' ∧ Bd a' ∧ Bd b' ∧ Bd m' ∧ Bd n' ∧ 0 ≤ m' ∧ (0 < n' → 0 < m') ∧ 0 ≤ n' ∧ found' + fsum a' b' m' n'.toNat = T ∧ m'.toNat < m.toNat, ?_, ?_⟩
      · rintro σ' H' ⟨a', b', m', n', found', e', h1, h2, h3, h4, h5, h6, h7, h8, h9, h10, h11⟩
        exact ⟨_, h11, a', b', m', n', found', e', h1, h2, h3, h4, h5, h6, h7, h8, h9, h10, rfl⟩
      · repeat (walk_at "rd")
        refine ⟨m, (a % m * n + b % m) % m, a % m, (a % m * n + b % m) / m, found + n * (n - 1) / 2 * (a / m) + n * (b / m), _, rfl, sm, bm, Bd.of f0 bm (by omega), ba', Bd.of e1 bn e2, a0, fun h => ?_, e1, ?_, by omega⟩
        · by_cases z : a % m = 0
          · rw [z, Int.zero_mul, Int.zero_add, Int.ediv_eq_zero_of_lt b0 b1] at h
            omega
          · omega
        · have k := turn_ok hm a b n.toNat
          rw [show ((n.toNat : Nat) : Int) = n by omega] at k
          omega
    · rw [decide_eq_false hp]
      refine iteF ?_
      have z : n.toNat = 0 := by omega
      rw [z, fsum_zero] at ht
      refine ⟨_, rfl, ?_⟩
      rw [show found = T by omega]
      exact q _ sm
/-! ### the sum over a chain -/
def ceilD (p d : Int) : Int := -(-p / d)
theorem ceil_le {p d x : Int} (hd : 0 < d) : ceilD p d ≤ x ↔ p ≤ x * d := by
  unfold ceilD
  have h := Int.le_ediv_iff_mul_le (a := -x) (b := -p) hd
  rw [Int.neg_mul] at h
  omega
/-- a line's greatest whole number at x -/
def flo (q : Ln) (x : Int) : Int := (q.c - q.a * x) / q.b
def upTo (f : Int → Int) (first z : Int) : Int := rsum (fun i => f (first + i)) (z - first + 1).toNat
theorem upTo_none {f : Int → Int} {first z : Int} (h : z < first) : upTo f first z = 0 := by
  unfold upTo
  rw [show (z - first + 1).toNat = 0 by omega]
  rfl
theorem upTo_more {f : Int → Int} {first low high : Int} (h1 : first ≤ low) (h2 : low ≤ high) : upTo f first high = upTo f first (low - 1) + rsum (fun i => f (low + i)) (high - low + 1).toNat := by
  unfold upTo
  rw [show (high - first + 1).toNat = (low - 1 - first + 1).toNat + (high - low + 1).toNat by omega, rsum_more]
  congr 1
  refine rsum_congr _ fun i _ => ?_
  congr 1
  omega
/-- how far the first k lines of a chain reach -/
def endB (es : List El) (first last : Int) : Nat → Int
  | 0 => first - 1
  | k + 1 => match es[k]? with
    | some (_, some (p, d)) => min last (ceilD p d - 1)
    | _ => last
theorem endB_succ (es : List El) (first last : Int) (k : Nat) : endB es first last (k + 1) = match es[k]? with
    | some (_, some (p, d)) => min last (ceilD p d - 1)
    | _ => last := rfl
theorem lns_at {U0 q : Ln} {es : List El} {k : Nat} {o : Option (Int × Int)} (h : ((U0, none) :: es : List El)[k]? = some (q, o)) : (lns U0 es)[k]? = some q := by
  unfold lns
  rw [show U0 :: es.map Prod.fst = ((U0, none) :: es : List El).map Prod.fst from rfl, List.getElem?_map, h]
  rfl
theorem tight_here {U0 q : Ln} {es : List El} {k : Nat} {o : Option (Int × Int)} {x : Int} (hr : Rises es) (hall : ∀ e ∈ es, ∃ p d, e.2 = some (p, d)) (hk : k ≤ es.length) (hq : ((U0, none) :: es : List El)[k]? = some (q, o))
    (h1 : ∀ p d, o = some (p, d) → ceilD p d ≤ x) (h2 : ∀ r p d, es[k]? = some (r, some (p, d)) → x ≤ ceilD p d - 1) : tightOf x 1 U0 es = q := by
  have a := tight_idx x 1 es U0
  have e : idx x 1 es = k := by
    have lo : k ≤ idx x 1 es := by
      cases k with
      | zero => exact Nat.zero_le _
      | succ k =>
        have hq : es[k]? = some (q, o) := hq
        obtain ⟨p, d, ho⟩ := hall _ (List.mem_of_getElem? hq)
        have ho : o = some (p, d) := ho
        subst ho
        have d0 : 0 < d := by
          obtain ⟨p', d', e', dp⟩ := rises_some hr hq
          cases e'
          exact dp
        have := (ceil_le d0).mp (h1 p d rfl)
        exact idx_ge (by decide) hr hq (by omega)
    have up : idx x 1 es ≤ k := by
      by_cases hl : k < es.length
      · obtain ⟨p, d, ho⟩ := hall _ (List.getElem_mem hl)
        have he : es[k]? = some (es[k].1, some (p, d)) := by
          rw [List.getElem?_eq_getElem hl, ← ho]
        have d0 : 0 < d := by
          obtain ⟨p', d', e', dp⟩ := rises_some hr he
          cases e'
          exact dp
        have c := h2 _ p d he
        have n : ¬ p ≤ x * d := fun z => by
          have := (ceil_le d0).mpr z
          omega
        exact idx_lt (by decide) hr he (by omega)
      · have := idx_le x 1 es
        omega
    omega
  rw [e, lns_at hq] at a
  exact (Option.some.inj a).symm
theorem chain_step {U0 q : Ln} {es : List El} {k : Nat} {o : Option (Int × Int)} {first last low : Int} (hr : Rises es) (hall : ∀ e ∈ es, ∃ p d, e.2 = some (p, d)) (hk : k ≤ es.length) (hq : ((U0, none) :: es : List El)[k]? = some (q, o))
    (l1 : o = none → low = first) (l2 : ∀ p d, o = some (p, d) → low = max first (ceilD p d)) :
    (low ≤ endB es first last (k + 1) → upTo (fun x => flo (tightOf x 1 U0 es) x) first (endB es first last (k + 1)) = upTo (fun x => flo (tightOf x 1 U0 es) x) first (endB es first last k) + rsum (fun i => flo q (low + i)) (endB es first last (k + 1) - low + 1).toNat) ∧
    (¬ low ≤ endB es first last (k + 1) → upTo (fun x => flo (tightOf x 1 U0 es) x) first (endB es first last (k + 1)) = upTo (fun x => flo (tightOf x 1 U0 es) x) first (endB es first last k)) := by
  -- the end of this line
  have hi_le : endB es first last (k + 1) ≤ last := by
    rw [endB_succ]
    split
    · exact Int.min_le_left _ _
    · exact Int.le_refl _
  have hi_c : ∀ r p d, es[k]? = some (r, some (p, d)) → endB es first last (k + 1) = min last (ceilD p d - 1) := fun r p d e => by
    rw [endB_succ, e]
  have hi_n : es.length ≤ k → endB es first last (k + 1) = last := fun h => by
    rw [endB_succ, List.getElem?_eq_none h]
  have lf : first ≤ low := by
    cases o with
    | none =>
      have := l1 rfl
      omega
    | some pd =>
      have := l2 pd.1 pd.2 rfl
      omega
  -- where the lines ahead end
  have ahead : ∀ z, z = endB es first last k → (low ≤ endB es first last (k + 1) → upTo (fun x => flo (tightOf x 1 U0 es) x) first z = upTo (fun x => flo (tightOf x 1 U0 es) x) first (low - 1)) ∧ (¬ low ≤ endB es first last (k + 1) → upTo (fun x => flo (tightOf x 1 U0 es) x) first (endB es first last (k + 1)) = upTo (fun x => flo (tightOf x 1 U0 es) x) first z) := by
    intro z hz
    cases k with
    | zero =>
      have ho : o = none := by
        have hq : some ((U0, none) : El) = some (q, o) := hq
        cases hq
        rfl
      have e := l1 ho
      have hz : z = first - 1 := hz
      refine ⟨fun _ => by rw [hz, e], fun n => ?_⟩
      rw [upTo_none (show z < first by omega), upTo_none (by omega)]
    | succ k' =>
      have hq : es[k']? = some (q, o) := hq
      obtain ⟨p, d, ho⟩ := hall _ (List.mem_of_getElem? hq)
      have ho : o = some (p, d) := ho
      subst ho
      have d0 : 0 < d := by
        obtain ⟨p', d', e', dp⟩ := rises_some hr hq
        cases e'
        exact dp
      have e := l2 p d rfl
      have hz : z = min last (ceilD p d - 1) := by
        rw [hz, endB_succ, hq]
      refine ⟨fun h => ?_, fun n => ?_⟩
      · by_cases c : ceilD p d ≤ first
        · rw [upTo_none (show z < first by omega), upTo_none (by omega)]
        · rw [show z = low - 1 by omega]
      · by_cases c : ceilD p d ≤ first
        · rw [upTo_none (show z < first by omega), upTo_none (by omega)]
        · congr 1
          -- ends rise
          have mono : min last (ceilD p d - 1) ≤ endB es first last (k' + 1 + 1) := by
            by_cases hl : k' + 1 < es.length
            · obtain ⟨p', d', ho'⟩ := hall _ (List.getElem_mem hl)
              have he : es[k' + 1]? = some (es[k' + 1].1, some (p', d')) := by
                rw [List.getElem?_eq_getElem hl, ← ho']
              have d1 : 0 < d' := by
                obtain ⟨_, _, e', dp⟩ := rises_some hr he
                cases e'
                exact dp
              rw [hi_c _ _ _ he]
              have : ceilD p d ≤ ceilD p' d' := by
                apply Int.not_lt.mp
                intro lt
                have g1 := (ceil_le (x := ceilD p' d') d1).mp (Int.le_refl _)
                have g2 : ¬ p ≤ ceilD p' d' * d := fun y => by
                  have := (ceil_le d0).mpr y
                  omega
                have i1 := idx_ge (X := ceilD p' d') (D := 1) (by decide) hr he (by omega)
                have i2 := idx_lt (X := ceilD p' d') (D := 1) (by decide) hr hq (by omega)
                omega
              omega
            · rw [hi_n (by omega)]
              omega
          omega
  obtain ⟨a1, a2⟩ := ahead _ rfl
  refine ⟨fun h => ?_, a2⟩
  rw [upTo_more lf h, a1 h]
  congr 1
  refine rsum_congr _ fun i hi => ?_
  rw [tight_here hr hall hk hq (fun p d e => ?_) fun r p d e => ?_]
  · have := l2 p d e
    omega
  · have := hi_c r p d e
    omega
end
end K29

namespace K29
open PySem PySem.Spec PyProof.Rows L2 My
local macro_rules | `(tactic| walk_at "side") => `(tactic| (first
  | assumption
  | (refine OkMod.mk ?_; omega)
  | (refine mulOkL ?_ ?_ <;> omega)
  | (refine mulOkR ?_ ?_ <;> omega)
  | (refine divOk ?_ ?_ <;> omega)))
local macro_rules | `(tactic| walk_at "rd") => `(tactic| (first
  | with_reducible refine ⟨_, rfl, ?_⟩
  | refine ⟨_, rfl, ?_⟩
  | refine ⟨_, _, rfl, rfl, ?_⟩
  | refine And.intro (by walk_at "side") ?_
  | refine ⟨_, _, rfl, asm (by assumption), ?_⟩
  | refine ⟨_, _, rfl, asm ?_⟩))
section
variable {P : Program} {w : World} {K : PySem.W.Frag} {mg : Str → Option Value} {base : Heap}

open M46
/-! ### chain_total -/
def spChainT (K : PySem.W.Frag) : Sp := fun vs H Q _ => ∃ (l : Addr) (first last : Int) (cs : List V) (U0 : Ln) (es : List El) (N M : Nat), vs = [.ref l, .int first, .int last] ∧ SqL K H l cs ∧ LsV (ElV K H) cs ((U0, none) :: es) ∧ Rises es ∧ (∀ e ∈ es, ∃ p d, e.2 = some (p, d)) ∧
  (∀ q ∈ lns U0 es, LnS N q) ∧ (∀ e ∈ es, ElS M e) ∧ M ≤ 8000 ∧ es.length ≤ 100 ∧ Sz N first ∧ Sz N last ∧ N ≤ 400 ∧ ∀ H', Same H H' → Q (.int (upTo (fun x => flo (tightOf x 1 U0 es) x) first last)) H'
theorem bd_of {i : Int} {N : Nat} (h : Sz N i) (hN : N ≤ 1000) : Bd i := Nat.lt_of_lt_of_le h (Nat.pow_le_pow_right (by decide) hN)
theorem sz_between {N : Nat} {a b x : Int} (ha : Sz N a) (hb : Sz N b) (h1 : a ≤ x) (h2 : x ≤ b) : Sz N x := by
  unfold Sz at *
  omega
theorem ok_chain_total {f f1 f2 : Addr} {fd fd1 fd2 : FuncData} (T : Nm mg) (C_ceil_of : Has P w K mg base "ceil_of" 1 ["fraction"] (spFloor K fun p q => -(-p / q)) f1 fd1) (C_total : Has P w K mg base "total" 3 ["a", "b", "m", "many"] spTotal f2 fd2)
    (F : Fun K "chain_total" "chain_total" s_chain_total f fd) : FnOk P w K mg base CX0 4 f fd ["chain", "first", "last"] (spChainT K) := by
  refine F.ok sc_chain_total (fun vs H Q E h => ?_) (fun cdv A outer s H vs Q E hr h => ?_)
  · obtain ⟨l, first, last, cs, U0, es, N, M, rfl, _⟩ := h
    rfl
  · obtain ⟨l, first, last, cs, U0, es, N, M, rfl, hl, hcs, rs, hall, lnS, elS, M8, e100, zf, zl, N4, Z⟩ := h
    refine ⟨_, (pss_cons (ps_set (i := 3) sc_chain_total.nd rfl (Or.inl rfl) pe_int)
    (pss_cons (ps_for PassesOwn.never rfl (pi_enum (by rfl) T.enumerate (pa_cons (pv 0) pa_nil)) (pg_tup rfl (pgs_cons (pg_name (i := 4) sc_chain_total.nd rfl (Or.inl rfl)) (pgs_cons (pg_tup rfl (pgs_cons (pg_name (i := 5) sc_chain_total.nd rfl (Or.inl rfl)) (pgs_cons (pg_name (i := 6) sc_chain_total.nd rfl (Or.inl rfl)) pgs_nil))) pgs_nil)))
      (pss_cons (ps_asg (pv 5) (pg_tup rfl (pgs_cons (pg_name (i := 7) sc_chain_total.nd rfl (Or.inl rfl)) (pgs_cons (pg_name (i := 8) sc_chain_total.nd rfl (Or.inl rfl)) (pgs_cons (pg_name (i := 9) sc_chain_total.nd rfl (Or.inl rfl)) (pgs_cons (pg_name (i := 10) sc_chain_total.nd rfl (Or.inl rfl)) pgs_nil))))))
    (pss_cons (ps_set (i := 11) sc_chain_total.nd rfl (Or.inl rfl) (pe_ifExp (pt_cmpR op_isN (pv 6) pe_non (nomark _)) (pv 1) (pe_callB (call_max2 rfl) (by rfl) T.max (by decide +kernel) (pa_cons (pv 1) (pa_cons (pe_call C_ceil_of.G (hr.mono (by decide)) (by rfl) C_ceil_of.g C_ceil_of.k C_ceil_of.b .nil pass0 (pa_cons (pv 6) pa_nil)) pa_nil)))))
    (pss_cons (ps_set (i := 12) sc_chain_total.nd rfl (Or.inl rfl) (pv 2))
    (pss_cons (ps_if (pt_cmpR op_lt (pe_op op_add (pv 4) pe_int) (pe_callB call_lenL (by rfl) T.len (by decide +kernel) (pa_cons (pv 0) pa_nil)) (nomark _))
      (pss_one (ps_set (i := 12) sc_chain_total.nd rfl (Or.inl rfl) (pe_callB (call_minN rfl) (by rfl) T.min (by decide +kernel) (pa_cons (pv 2) (pa_cons (pe_op op_sub (pe_call C_ceil_of.G (hr.mono (by decide)) (by rfl) C_ceil_of.g C_ceil_of.k C_ceil_of.b .nil pass0 (pa_cons (pe_ix ix_tup (pe_ix ix_list (pv 0) (pe_op op_add (pv 4) pe_int) (fun _ _ => rfl)) pe_int (fun _ _ => rfl)) pa_nil)) pe_int) pa_nil)))))
      pss_nil)
    (pss_one (ps_if (pt_cmpR op_le (pv 11) (pv 12) (nomark _))
      (pss_one (ps_set (i := 3) sc_chain_total.nd rfl (Or.inl rfl) (pe_op op_add (pv 3) (pe_call C_total.G (hr.mono (by decide)) (by rfl) C_total.g C_total.k C_total.b .nil pass0 (pa_cons (pe_un un_neg (pv 7)) (pa_cons (pe_op op_sub (pv 9) (pe_op op_mulA (pv 7) (pv 11))) (pa_cons (pv 8) (pa_cons (pe_op op_add (pe_op op_sub (pv 12) (pv 11)) pe_int) pa_nil))))))))
      pss_nil)))))))
    (pss_one (ps_ret (pv 3))))), ?_⟩
    have clen : cs.length = es.length + 1 := hcs.len
    have dv : ∀ {p d : Int}, 0 < d → Sz M d → OkDiv p d := fun h z => ⟨wide_div (b := 8000) h (z.up M8) (by decide) (by decide)⟩
    have hz : endB es first last (es.length + 1) = last := by
      rw [endB_succ, List.getElem?_eq_none (Nat.le_refl _)]
    refine ⟨_, rfl, l, _, rfl, hl, for_it (walk_enum (xs := cs)) (fun k σ H' => Same H H' ∧ ∃ y4 y5 y6 y7 y8 y9 y10 y11 y12, σ = [some (.ref l), some (.int first), some (.int last), some (.int (upTo (fun x => flo (tightOf x 1 U0 es) x) first (endB es first last k))), y4, y5, y6, y7, y8, y9, y10, y11, y12]) ⟨fun _ _ z => z, none, none, none, none, none, none, none, none, none, ?_⟩ (fun k σ H' _ z => z.1.seq hl) ?_ ?_⟩
    · rw [show endB es first last 0 = first - 1 from rfl, upTo_none (by omega)]
      rfl
    · rintro k z σ H1 H2 hk ⟨s1, y4, y5, y6, y7, y8, y9, y10, y11, y12, rfl⟩ ⟨T1, u', v, rfl, nT, rfl, e1, e2⟩
      rw [clen] at hk
      cases e1
      obtain ⟨⟨q, o⟩, hq, p, u, s, rfl, tp, lv, sv⟩ := hcs.at e2
      have S := s1.trans (same_upd (o := .tup [.int (k : Int), .ref p]) nT)
      have hT : SqT K (upd H1 T1 (.tup [.int (k : Int), .ref p])) T1 [.int (k : Int), .ref p] := .inl (.inl upd_same)
      have tp := Same.tup S tp
      obtain ⟨pu, rfl, tu⟩ := LnV.same S lv
      generalize upd H1 T1 (.tup [.int (k : Int), .ref p]) = H2 at *
      refine ⟨T1, _, rfl, hT, rfl, _, _, rfl, _, _, rfl, p, _, rfl, tp, rfl, _, _, rfl, _, _, rfl, rfl, rfl, ?_⟩
      refine ⟨_, rfl, pu, _, rfl, tu, rfl, _, _, rfl, _, _, rfl, _, _, rfl, _, _, rfl, rfl, ?_⟩
      have lq := lnS q (List.mem_of_getElem? (lns_at hq))
      -- low
      dsimp only
      refine sIf_via (fun w H' => H' = H2 ∧ ∃ low : Int, w = .int low ∧ (o = none → low = first) ∧ ∀ p d, o = some (p, d) → low = max first (ceilD p d)) (fun Q' kk => ?_) ?_
      · cases o with
        | none =>
          obtain rfl : s = .non := sv
          refine ⟨_, rfl, rfl, _, rfl, ?_⟩
          rw [decide_eq_true rfl]
          exact iteTt rfl ⟨_, rfl, kk _ _ ⟨rfl, _, rfl, fun _ => rfl, (fun _ _ e => nomatch e)⟩⟩
        | some pd =>
          obtain ⟨p0, d0⟩ := pd
          obtain ⟨ps, rfl, tps⟩ := PairV.same S (show PairV K H s (p0, d0) from sv)
          refine ⟨_, rfl, rfl, _, rfl, ?_⟩
          rw [decide_eq_false (fun e => nomatch e)]
          have kpos : 0 < d0 ∧ Sz M d0 := by
            cases k with
            | zero =>
              have hq : some ((U0, none) : El) = some (q, some (p0, d0)) := hq
              cases hq
            | succ k =>
              have hq : es[k]? = some (q, some (p0, d0)) := hq
              obtain ⟨_, _, e', dp⟩ := rises_some rs hq
              cases e'
              exact ⟨dp, (elS _ (List.mem_of_getElem? hq) p0 d0 rfl).2⟩
          refine iteFf rfl ⟨_, rfl, _, rfl, .ref ps, p0, d0, rfl, ⟨ps, rfl, tps⟩, dv kpos.1 kpos.2, first, _, rfl, kk _ _ ⟨rfl, _, rfl, (fun e => nomatch e), fun p d e => ?_⟩⟩
          cases e
          show (if ceilD p0 d0 > first then ceilD p0 d0 else first) = max first (ceilD p0 d0)
          split <;> omega
      rintro w H3 ⟨rfl, low, rfl, l1, l2⟩
      have step := chain_step (last := last) rs hall (by omega) hq l1 l2
      have lf : first ≤ low := by
        cases o with
        | none =>
          have := l1 rfl
          omega
        | some pd =>
          have := l2 pd.1 pd.2 rfl
          omega
      refine ⟨_, rfl, ?_⟩
      -- high
      try dsimp only [gName]
      refine sJoin (fun σ' H' => H' = H3 ∧ σ' = [some (.ref l), some (.int first), some (.int last), some (.int (upTo (fun x => flo (tightOf x 1 U0 es) x) first (endB es first last k))), some (.int (k : Int)), some (.ref pu), some s, some (.int q.a), some (.int q.b), some (.int q.c), some (.int q.n), some (.int low), some (.int (endB es first last (k + 1)))]) (fun N' hN => ?_) ?_
      · refine ⟨_, rfl, _, _, rfl, rfl, _, rfl, l, cs, rfl, S.seq hl, _, _, rfl, rfl, _, rfl, ?_⟩
        rw [clen]
        by_cases c : k < es.length
        · rw [decide_eq_true (show (k : Int) + 1 < ((es.length + 1 : Nat) : Int) by omega)]
          obtain ⟨p0, d0, ho⟩ := hall _ (List.getElem_mem c)
          have he : es[k]? = some (es[k].1, some (p0, d0)) := by
            rw [List.getElem?_eq_getElem c, ← ho]
          obtain ⟨v', hv', p', u', s', rfl, tp', _, sv'⟩ := hcs.at' (i := k + 1) he
          obtain ⟨ps, rfl, tps⟩ := PairV.same S (show PairV K H s' (p0, d0) from sv')
          have dp : 0 < d0 := by
            obtain ⟨_, _, e', dp⟩ := rises_some rs he
            cases e'
            exact dp
          refine iteTt rfl ⟨_, rfl, _, rfl, _, rfl, _, _, rfl, rfl, l, cs, _, _, rfl, rfl, S.seq hl, atI_nat (j := k + 1) hv', p', _, 1, _, rfl, rfl, Same.tup S tp', rfl, .ref ps, p0, d0, rfl, ⟨ps, rfl, tps⟩, dv dp (elS _ (List.mem_of_getElem? he) p0 d0 rfl).2, _, _, rfl, rfl, last, _, rfl, hN _ _ ⟨rfl, ?_⟩⟩
          rw [endB_succ, he]
          rfl
        · rw [decide_eq_false (show ¬ (k : Int) + 1 < ((es.length + 1 : Nat) : Int) by omega)]
          refine iteFf rfl (hN _ _ ⟨rfl, ?_⟩)
          rw [endB_succ, List.getElem?_eq_none (by omega)]
          rfl
      rintro σ' H4 ⟨rfl, rfl⟩
      have hi_le : endB es first last (k + 1) ≤ last := by
        rw [endB_succ]
        split
        · exact Int.min_le_left _ _
        · exact Int.le_refl _
      generalize hE : endB es first last (k + 1) = high at *
      refine ⟨_, rfl, _, rfl, _, _, rfl, rfl, _, rfl, ?_⟩
      by_cases c : low ≤ high
      · rw [decide_eq_true c]
        have zlow : Sz N low := sz_between zf zl lf (by omega)
        have zhigh : Sz N high := sz_between zf zl (by omega) hi_le
        have zal := lq.a.mul zlow
        have m1 : OkMul q.a low := by
          unfold Sz at zal
          refine mulOk (a := N + 1) (b := N + 1) (lq.a.up (by omega)) (zlow.up (by omega)) (by omega) (by omega) (by omega)
        have zc : Sz (N + N + 1) (q.c - q.a * low) := (lq.c.up (by omega)).sub zal
        have zn : Sz (N + 2) (high - low + 1) := by
          have := zhigh.sub zlow
          unfold Sz at *
          rw [Nat.pow_succ]
          have := Nat.one_le_two_pow (n := N + 1)
          omega
        have za : Bd (-q.a) := by
          have := bd_of lq.a (by omega)
          unfold Bd at *
          omega
        refine iteTt rfl ⟨_, rfl, _, rfl, _, rfl, _, rfl, _, rfl, _, rfl, _, _, rfl, rfl, m1, _, _, rfl, rfl, _, rfl, _, rfl, _, rfl, _, _, rfl, rfl, _, _, rfl, rfl, -q.a, q.c - q.a * low, q.b, high - low + 1, rfl, za, bd_of zc (by omega), bd_of lq.b (by omega), bd_of zn (by omega), lq.p, by omega, fun H5 s5 => ⟨_, _, rfl, rfl, S.trans s5, some (.int (k : Int)), some (.ref pu), some s, some (.int q.a), some (.int q.b), some (.int q.c), some (.int q.n), some (.int low), some (.int high), ?_⟩⟩
        rw [(step.1 c)]
        have e : rsum (fun i => flo q (low + (i : Int))) (high - low + 1).toNat = fsum (-q.a) (q.c - q.a * low) q.b (high - low + 1).toNat := by
          unfold fsum flo
          refine rsum_congr _ fun i _ => ?_
          congr 1
          grind
        rw [e]
        rfl
      · rw [decide_eq_false c]
        refine iteFf rfl ⟨S, some (.int (k : Int)), some (.ref pu), some s, some (.int q.a), some (.int q.b), some (.int q.c), some (.int q.n), some (.int low), some (.int high), ?_⟩
        rw [step.2 c]
    · rintro σ H1 ⟨s1, y4, y5, y6, y7, y8, y9, y10, y11, y12, rfl⟩
      rw [clen, hz]
      exact ⟨_, rfl, Z _ s1⟩
end
end K29

namespace K29
open PySem PySem.Spec PyProof.Rows L2 My
local macro_rules | `(tactic| walk_at "side") => `(tactic| (first
  | assumption
  | (refine OkMod.mk ?_; omega)
  | (refine mulOkL ?_ ?_ <;> omega)
  | (refine mulOkR ?_ ?_ <;> omega)
  | (refine divOk ?_ ?_ <;> omega)))
local macro_rules | `(tactic| walk_at "rd") => `(tactic| (first
  | with_reducible refine ⟨_, rfl, ?_⟩
  | refine ⟨_, rfl, ?_⟩
  | refine ⟨_, _, rfl, rfl, ?_⟩
  | refine And.intro (by walk_at "side") ?_
  | refine ⟨_, _, rfl, asm (by assumption), ?_⟩
  | refine ⟨_, _, rfl, asm ?_⟩))
section
variable {P : Program} {w : World} {K : PySem.W.Frag} {mg : Str → Option Value} {base : Heap}

open M46
/-! ### count_of -/
/-- the least of the lines' whole numbers at x -/
def IsMin (S : List Ln) (x m : Int) : Prop := (∃ q ∈ S, m = flo q x) ∧ ∀ q ∈ S, m ≤ flo q x
/-- with lines from above and from below, and an end on both sides -/
def Boxed (rs : List LineR) : Prop := linesFrom 1 0 rs ≠ [] ∧ linesFrom (-1) 0 rs ≠ [] ∧ (∃ r ∈ rs, r.2.1 = 0 ∧ 0 < r.1) ∧ ∃ r ∈ rs, r.2.1 = 0 ∧ r.1 < 0
/-- n is the sum over the columns that have points -/
def CountIs (rs : List LineR) (n : Int) : Prop := (n = 0 ∧ ∃ ws, Emp rs ws) ∨ ∃ (first last : Int) (fU fL : Int → Int), (∀ x, (first ≤ x ∧ x ≤ last) ↔ InX rs x 1) ∧ first ≤ last + 1 ∧ (∀ x, IsMin (linesFrom 1 0 rs) x (fU x)) ∧ (∀ x, IsMin (linesFrom (-1) 0 rs) x (fL x)) ∧
  n = upTo (fun x => fU x + fL x + 1) first last
theorem flo_le {q r : Ln} {x : Int} (hq : 0 < q.b) (hr : 0 < r.b) (h : leAt x 1 q r) : flo q x ≤ flo r x := by
  unfold leAt at h
  unfold flo
  rw [Int.mul_one, Int.mul_one] at h
  rw [Int.le_ediv_iff_mul_le hr]
  have k := Int.ediv_mul_le (q.c - q.a * x) (show q.b ≠ 0 by omega)
  have k2 := Int.mul_le_mul_of_nonneg_right k (Int.le_of_lt hr)
  have k3 : ((q.c - q.a * x) / q.b * r.b) * q.b ≤ (r.c - r.a * x) * q.b := by
    have e : (q.c - q.a * x) / q.b * q.b * r.b = ((q.c - q.a * x) / q.b * r.b) * q.b := by grind
    omega
  exact Int.le_of_mul_le_mul_right k3 hq
theorem half_min {S : List Ln} {L0 : Ln} {es : List El} (h : Tight S L0 es) (x : Int) : IsMin S x (flo (tightOf x 1 L0 es) x) := by
  have tp := h.tightPos x 1 es [] (List.append_nil _).symm
  refine ⟨⟨_, h.mem _ ?_, rfl⟩, fun q hq => flo_le tp (h.pos q hq) ((h.mn q hq x 1 (by decide)).resolve_right fun z => z)⟩
  unfold lns
  rcases tight_mem (X := x) (D := 1) es L0 with e | e
  · rw [e]
    exact List.mem_cons_self
  · exact List.mem_cons_of_mem _ e
theorem IsMin.perm {S S' : List Ln} {x m : Int} (p : S.Perm S') (h : IsMin S x m) : IsMin S' x m := ⟨let ⟨q, hq, e⟩ := h.1; ⟨q, p.mem_iff.mp hq, e⟩, fun q hq => h.2 q (p.mem_iff.mpr hq)⟩
theorem upTo_three {f g : Int → Int} {first last : Int} (h : first ≤ last + 1) : upTo f first last + upTo g first last + last - first + 1 = upTo (fun x => f x + g x + 1) first last := by
  unfold upTo
  rw [show (fun i : Nat => f (first + i) + g (first + i) + 1) = fun i : Nat => (fun i : Nat => (fun i : Nat => f (first + i)) i + (fun i : Nat => g (first + i)) i) i + (fun _ => (1 : Int)) i from rfl, rsum_add, rsum_add, rsum_const]
  omega
theorem ends_iff {lo hi : Bdy} (l0 : lo.1 < 0) (h0 : 0 < hi.1) (x : Int) : (-(-(-lo.2.1) / -lo.1) ≤ x ∧ x ≤ hi.2.1 / hi.1) ↔ (hi.1 * x ≤ hi.2.1 * 1 ∧ lo.1 * x ≤ lo.2.1 * 1) := by
  have a := ceil_le (p := -lo.2.1) (d := -lo.1) (x := x) (by omega)
  have b := Int.le_ediv_iff_mul_le (a := x) (b := hi.2.1) h0
  unfold ceilD at a
  rw [a, b, Int.mul_one, Int.mul_one, Int.mul_neg, Int.mul_comm x lo.1, Int.mul_comm x hi.1]
  omega
theorem ends_near {lo hi : Bdy} (l0 : lo.1 < 0) (h0 : 0 < hi.1) (c : ¬ hi.2.1 * -lo.1 < -lo.2.1 * hi.1) : -(-(-lo.2.1) / -lo.1) ≤ hi.2.1 / hi.1 + 1 := by
  have a := ceil_le (p := -lo.2.1) (d := -lo.1) (x := hi.2.1 / hi.1 + 1) (by omega)
  unfold ceilD at a
  rw [a]
  have k := Int.lt_ediv_add_one_mul_self hi.2.1 h0
  generalize hi.2.1 / hi.1 + 1 = z at *
  have k2 := Int.mul_lt_mul_of_pos_right k (show 0 < -lo.1 by omega)
  have k3 : -lo.2.1 * hi.1 < (z * -lo.1) * hi.1 := by
    have e : z * hi.1 * -lo.1 = (z * -lo.1) * hi.1 := by grind
    omega
  exact Int.le_of_lt (Int.lt_of_mul_lt_mul_right k3 (Int.le_of_lt h0))
/-- an end on the right, if some row bounds x -/
theorem hi_some {rs : List LineR} {M : Nat} {lo hi : Option Bdy} (ok : OutOk rs M lo hi none) (h : ∃ r ∈ rs, r.2.1 = 0 ∧ 0 < r.1) : ∃ b, hi = some b := by
  cases hi with
  | some b => exact ⟨b, rfl⟩
  | none =>
    exfalso
    obtain ⟨r, hr, z, p⟩ := h
    have two := (ok.no rfl).2
    cases lo with
    | none =>
      have := ((two (r.2.2.natAbs + 1) 1 (by decide)).mp ⟨(fun _ e => nomatch e), (fun _ e => nomatch e)⟩).1 r hr z
      have k : 1 * ((r.2.2.natAbs : Int) + 1) ≤ r.1 * ((r.2.2.natAbs : Int) + 1) := Int.mul_le_mul_of_nonneg_right (by omega) (by omega)
      omega
    | some l =>
      have l0 := (ok.lob l rfl).2
      have := ((two (r.2.2.natAbs + l.2.1.natAbs + 1) 1 (by decide)).mp ⟨(fun _ e => nomatch e), (fun l' e => by
        cases e
        have k : l.1 * ((r.2.2.natAbs : Int) + l.2.1.natAbs + 1) ≤ (-1) * ((r.2.2.natAbs : Int) + l.2.1.natAbs + 1) := Int.mul_le_mul_of_nonneg_right (by omega) (by omega)
        omega)⟩).1 r hr z
      have k : 1 * ((r.2.2.natAbs : Int) + l.2.1.natAbs + 1) ≤ r.1 * ((r.2.2.natAbs : Int) + l.2.1.natAbs + 1) := Int.mul_le_mul_of_nonneg_right (by omega) (by omega)
      omega
theorem lo_some {rs : List LineR} {M : Nat} {lo hi : Option Bdy} (ok : OutOk rs M lo hi none) (h : ∃ r ∈ rs, r.2.1 = 0 ∧ r.1 < 0) : ∃ b, lo = some b := by
  cases lo with
  | some b => exact ⟨b, rfl⟩
  | none =>
    exfalso
    obtain ⟨r, hr, z, p⟩ := h
    have two := (ok.no rfl).2
    cases hi with
    | none =>
      have := ((two (-(r.2.2.natAbs + 1)) 1 (by decide)).mp ⟨(fun _ e => nomatch e), (fun _ e => nomatch e)⟩).1 r hr z
      have k : 1 * ((r.2.2.natAbs : Int) + 1) ≤ -r.1 * ((r.2.2.natAbs : Int) + 1) := Int.mul_le_mul_of_nonneg_right (by omega) (by omega)
      have e : r.1 * -((r.2.2.natAbs : Int) + 1) = -r.1 * ((r.2.2.natAbs : Int) + 1) := by grind
      omega
    | some l =>
      have l0 := (ok.hib l rfl).2
      have := ((two (-(r.2.2.natAbs + l.2.1.natAbs + 1)) 1 (by decide)).mp ⟨(fun l' e => by
        cases e
        have k : 1 * ((r.2.2.natAbs : Int) + l.2.1.natAbs + 1) ≤ l.1 * ((r.2.2.natAbs : Int) + l.2.1.natAbs + 1) := Int.mul_le_mul_of_nonneg_right (by omega) (by omega)
        rw [Int.mul_neg]
        omega), (fun _ e => nomatch e)⟩).1 r hr z
      have k : 1 * ((r.2.2.natAbs : Int) + l.2.1.natAbs + 1) ≤ -r.1 * ((r.2.2.natAbs : Int) + l.2.1.natAbs + 1) := Int.mul_le_mul_of_nonneg_right (by omega) (by omega)
      have e : r.1 * -((r.2.2.natAbs : Int) + l.2.1.natAbs + 1) = -r.1 * ((r.2.2.natAbs : Int) + l.2.1.natAbs + 1) := by grind
      omega
theorem sz_neg {i : Int} {N : Nat} (h : Sz N i) : Sz N (-i) := by
  unfold Sz at *
  rw [Int.natAbs_neg]
  exact h
theorem sz_div {i j : Int} {N : Nat} (h : Sz N i) (hj : 0 < j) : Sz (N + 1) (i / j) := by
  have := natAbs_div_le (x := i) hj
  unfold Sz at *
  rw [Nat.pow_succ]
  have := Nat.one_le_two_pow (n := N)
  omega
/-- never called -/
def spNever : Sp := fun _ _ _ _ => False
theorem never_ok {k : Nat} {f : Addr} {fd : FuncData} {ps : List Str} : FnOk P w K mg base CX0 k f fd ps spNever := ⟨fun _ _ _ _ h => h.elim, fun _ _ _ _ _ _ _ _ _ _ _ _ _ h => h.elim⟩
def spCountOf (K : PySem.W.Frag) : Sp := fun vs H Q _ => ∃ (r : Addr) (xs : List V) (rs : List LineR) (M : Nat), vs = [.ref r] ∧ SqA K H r xs ∧ RowsV K H xs rs ∧ rs.length ≤ 100 ∧ (∀ v ∈ rs, RowS M v) ∧ 0 < M ∧ M ≤ 190 ∧ Boxed rs ∧ ∀ H' n, Same H H' → CountIs rs n → Q (.int n) H'
theorem ok_count_of {f f1 f2 f3 f4 f5 C : Addr} {fd fd1 fd2 fd3 fd4 fd5 : FuncData} (T : Nm mg) (R : OutC K C) (C_Outline : Made P w K mg base "Outline" 12 ["self", "rows"] (spOutI K C) C f1 fd1) (C_Outline_is_bounded : Mth P w K mg base C "is_bounded" 1 ["self"] (spIsB K C) f2 fd2) (C_decide : Has P w K mg base "decide" 1 ["rows"] spNever f5 fd5)
    (C_Outline_whole_ends : Mth P w K mg base C "whole_ends" 2 ["self"] (spEnds K C) f3 fd3) (C_chain_total : Has P w K mg base "chain_total" 4 ["chain", "first", "last"] (spChainT K) f4 fd4)
    (F : Fun K "count_of" "count_of" s_count_of f fd) : FnOk P w K mg base CX0 14 f fd ["rows"] (spCountOf K) := by
  refine F.ok sc_count_of (fun vs H Q E h => ?_) (fun cdv A outer s H vs Q E hr h => ?_)
  · obtain ⟨r, xs, rs, M, rfl, _⟩ := h
    rfl
  · obtain ⟨r, xs, rs, M, rfl, hr', hrs, h100, zr, M0, M1, ⟨bu, bl', bhi, blo⟩, q⟩ := h
    refine ⟨_, (pss_cons (ps_set (i := 1) sc_count_of.nd rfl (Or.inl rfl) (pe_make C_Outline.M C_Outline.G (hr.mono (by decide)) (by rfl) C_Outline.g C_Outline.b .nil pass0 (pa_cons (pv 0) pa_nil)))
    (pss_cons (ps_if (pt_cmpR op_notN (pe_fld (pv 1) rfl) pe_non (nomark _))
      (pss_one (ps_ret pe_int))
      pss_nil)
    (pss_cons (ps_if (pt_not (pt_val (pe_meth0 (pv 1) C_Outline_is_bounded.c C_Outline_is_bounded.m C_Outline_is_bounded.G (hr.mono (by decide)) C_Outline_is_bounded.b .nil pass0)))
      (pss_one (ps_ret (pe_ifExp (pt_val (pe_call C_decide.G (hr.mono (by decide)) (by rfl) C_decide.g C_decide.k C_decide.b .nil pass0 (pa_cons (pv 0) pa_nil))) pe_non pe_int)))
      pss_nil)
    (pss_cons (ps_asg (pe_meth0 (pv 1) C_Outline_whole_ends.c C_Outline_whole_ends.m C_Outline_whole_ends.G (hr.mono (by decide)) C_Outline_whole_ends.b .nil pass0) (pg_tup rfl (pgs_cons (pg_name (i := 2) sc_count_of.nd rfl (Or.inl rfl)) (pgs_cons (pg_name (i := 3) sc_count_of.nd rfl (Or.inl rfl)) pgs_nil))))
    (pss_cons (ps_set (i := 4) sc_count_of.nd rfl (Or.inl rfl) (pe_call C_chain_total.G (hr.mono (by decide)) (by rfl) C_chain_total.g C_chain_total.k C_chain_total.b .nil pass0 (pa_cons (pe_fld (pv 1) rfl) (pa_cons (pv 2) (pa_cons (pv 3) pa_nil)))))
    (pss_cons (ps_set (i := 5) sc_count_of.nd rfl (Or.inl rfl) (pe_call C_chain_total.G (hr.mono (by decide)) (by rfl) C_chain_total.g C_chain_total.k C_chain_total.b .nil pass0 (pa_cons (pe_fld (pv 1) rfl) (pa_cons (pv 2) (pa_cons (pv 3) pa_nil)))))
    (pss_one (ps_ret (pe_op op_add (pe_op op_sub (pe_op op_add (pe_op op_add (pv 4) (pv 5)) (pv 3)) (pv 2)) pe_int))))))))), ?_⟩
    refine ⟨_, rfl, fun x dx nx nd ne => ?_⟩
    have S2 : Same H (upd (upd H dx (.own x)) x (.ins C dx [])) := same_make nx nd ne (Keep.refl x _)
    refine ⟨x, r, dx, xs, rs, M, rfl, upd_same, hr'.same S2, hrs.same S2, h100, zr, M0, by omega, fun H1 u l lo hi W k1 ot cu cl ok => ⟨rfl, ?_⟩⟩
    have s1 := same_make nx nd ne k1
    clear S2 nx nd ne k1
    obtain ⟨dx1, vlo, plo, vhi, phi, vw, hx, elo, ehi, ew⟩ := id ot
    refine ⟨_, rfl, x, C, dx1, _, _, rfl, hx, R.cl, R.nw, rfl, rfl, _, rfl, ?_⟩
    cases W with
    | some ws =>
      obtain ⟨pw, rfl, _⟩ := ew
      rw [decide_eq_false (fun e => nomatch e)]
      exact iteTt rfl (q _ _ s1 (.inl ⟨rfl, ws, (ok.emp ws rfl).1⟩))
    | none =>
      obtain rfl : vw = .non := ew
      rw [decide_eq_true rfl]
      refine iteFf rfl ?_
      obtain ⟨hi, rfl⟩ := hi_some ok bhi
      obtain ⟨lo, rfl⟩ := lo_some ok blo
      obtain ⟨bl, l0⟩ := ok.lob lo rfl
      obtain ⟨bh, h0⟩ := ok.hib hi rfl
      rcases cu with ⟨e, _⟩ | ⟨cu, U0, us, pu, hu, permu, lu, hfu, su⟩
      · exact absurd e bu
      rcases cl with ⟨e, _⟩ | ⟨cl, L0, ls, pl, hl, perml, ll, hfl, sl⟩
      · exact absurd e bl'
      have cul := lu.len
      have cll := ll.len
      refine ⟨_, rfl, x, dx1, _, rfl, hx, rfl, x, u, l, some lo, some hi, none, cu, cl, rfl, ot, .of hu, .of hl, _, rfl, ?_⟩
      rw [show (some lo).isSome = true from rfl, show (some hi).isSome = true from rfl, decide_eq_true (show 0 < cu.length by rw [cul]; exact Nat.succ_pos _), decide_eq_true (show 0 < cl.length by rw [cll]; exact Nat.succ_pos _)]
      refine iteFf rfl ?_
      refine ⟨_, rfl, x, dx1, _, rfl, hx, rfl, x, u, l, rs, M + M + 1, lo, hi, none, rfl, ot, bl, bh, l0, h0, by omega, fun p H2 s2 tp => ?_⟩
      refine ⟨p, _, rfl, tp, rfl, _, _, rfl, _, _, rfl, rfl, ?_⟩
      have zf : Sz (M + M + 2) (-(-(-lo.2.1) / -lo.1)) := sz_neg (sz_div (sz_neg (sz_neg bl.zc)) (by omega))
      have zl : Sz (M + M + 2) (hi.2.1 / hi.1) := sz_div bh.zc h0
      have ei := ends_iff l0 h0
      have en := ends_near l0 h0 ((ok.no rfl).1 lo hi rfl rfl)
      generalize -(-(-lo.2.1) / -lo.1) = first at *
      generalize hi.2.1 / hi.1 = last at *
      have hx2 := s2 _ _ hx
      have e1 := permu.length_eq
      have e2 := perml.length_eq
      have e3 := lines_len 1 0 rs
      have e4 := lines_len (-1) 0 rs
      have lenu := chain_len hfu
      have lenl := chain_len hfl
      have szu : ∀ q ∈ lns U0 us, LnS (M + M + 2) q := fun q hq => by
        have := lines_sz (.inl rfl) zr (permu.mem_iff.mp (hfu.mem q hq))
        exact ⟨this.a.up (by omega), this.b.up (by omega), this.c.up (by omega), this.p⟩
      have szl : ∀ q ∈ lns L0 ls, LnS (M + M + 2) q := fun q hq => by
        have := lines_sz (.inr rfl) zr (perml.mem_iff.mp (hfl.mem q hq))
        exact ⟨this.a.up (by omega), this.b.up (by omega), this.c.up (by omega), this.p⟩
      refine ⟨_, rfl, x, C, dx1, _, _, rfl, hx2, R.cl, R.nu, rfl, _, rfl, _, rfl, u, first, last, cu, U0, us, M + M + 2, M + M + 1, rfl, .of (s2 _ _ hu), lu.map (fun v e h => ElV.same s2 h), hfu.up, hfu.all, szu, su, by omega, by omega, zf, zl, by omega, fun H3 s3 => ?_⟩
      have hx3 := s3 _ _ hx2
      have s23 := s2.trans s3
      refine ⟨_, rfl, x, C, dx1, _, _, rfl, hx3, R.cl, R.nl, rfl, _, rfl, _, rfl, l, first, last, cl, L0, ls, M + M + 2, M + M + 1, rfl, .of (s23 _ _ hl), ll.map (fun v e h => ElV.same s23 h), hfl.up, hfl.all, szl, sl, by omega, by omega, zf, zl, by omega, fun H4 s4 => ?_⟩
      refine ⟨_, rfl, _, rfl, _, _, rfl, rfl, _, rfl, _, _, rfl, rfl, _, rfl, _, _, rfl, rfl, _, _, rfl, rfl, ?_⟩
      refine q _ _ (s1.trans (s23.trans s4)) (.inr ⟨first, last, _, _, fun x => ?_, en, fun x => (half_min hfu x).perm permu, fun x => (half_min hfl x).perm perml, upTo_three en⟩)
      rw [ei x, ← (ok.no rfl).2 x 1 (by decide)]
      exact ⟨fun ⟨a, b⟩ => ⟨fun h e => by cases e; exact a, fun l e => by cases e; exact b⟩, fun ⟨a, b⟩ => ⟨a hi rfl, b lo rfl⟩⟩
end
end K29

namespace K29
open PySem PySem.Spec PyProof.Rows L2 My
local macro_rules | `(tactic| walk_at "side") => `(tactic| (first
  | assumption
  | (refine OkMod.mk ?_; omega)
  | (refine mulOkL ?_ ?_ <;> omega)
  | (refine mulOkR ?_ ?_ <;> omega)
  | (refine divOk ?_ ?_ <;> omega)))
local macro_rules | `(tactic| walk_at "rd") => `(tactic| (first
  | with_reducible refine ⟨_, rfl, ?_⟩
  | refine ⟨_, rfl, ?_⟩
  | refine ⟨_, _, rfl, rfl, ?_⟩
  | refine And.intro (by walk_at "side") ?_
  | refine ⟨_, _, rfl, asm (by assumption), ?_⟩
  | refine ⟨_, _, rfl, asm ?_⟩))
section
variable {P : Program} {w : World} {K : PySem.W.Frag} {mg : Str → Option Value} {base : Heap}

open M46
/-! ### Region, count -/
theorem tyT {H : Hp} {a : Addr} {xs : List V} (h : SqT K H a xs) : TyX K H (.ref a) (.type "tuple") := by
  rcases h with (h | ⟨o, h⟩) | ⟨o, its, n, h, c, _⟩
  · exact .base (.tup h)
  · exact .fTuple h
  · exact .kTuple h c
theorem list_ty {H : Hp} {a : Addr} {xs : List V} (h : SqL K H a xs) : ∃ t, TyX K H (.ref a) t ∧ PySem.W.kitAny K t [.type "list", .type "tuple"] = some true := by
  refine ⟨.type "list", ?_, kitAny_cons (b := true) (kit_ty (by decide +kernel)) (fun z => Bool.noConfusion z) fun _ => rfl⟩
  rcases h with (h | ⟨o, h⟩) | ⟨o, its, n, h, c, _⟩
  · exact .base (.lst h)
  · exact .base (.frz h)
  · exact .kList h c
def spRow (K : PySem.W.Frag) : Sp := fun vs H Q _ => ∃ (v : V) (r : LineR), vs = [v] ∧ RowV K H v r ∧ Q (.bl true) H
theorem ok_is_line_row {f f1 : Addr} {fd fd1 : FuncData} (T : Nm mg) (C_is_number : Has P w K mg base "is_number" 1 ["value"] spIsN f1 fd1) (F : Fun K "is_line_row" "is_line_row" s_is_line_row f fd) : FnOk P w K mg base CX0 2 f fd ["row"] (spRow K) := by
  refine F.ok sc_is_line_row (fun vs H Q E h => ?_) (fun cdv A outer s H vs Q E hr h => ?_)
  · obtain ⟨v, r, rfl, _⟩ := h
    rfl
  · obtain ⟨v, r, rfl, ⟨a, rfl, ht⟩, q⟩ := h
    refine ⟨_, (pss_cons (ps_if (PW.pt (pw_or (pt_not (pt_val (pe_callB call_isi (by rfl) T.isinstance (by decide +kernel) (pa_cons (pv 0) (pa_cons (pe_ty (n := "tuple") (by rfl) T.tuple (by decide +kernel)) pa_nil))))) (pw_or1 (pt_cmpR op_ne (pe_callB call_lenT (by rfl) T.len (by decide +kernel) (pa_cons (pv 0) pa_nil)) pe_int (nomark _)))))
      (pss_one (ps_ret pe_bl))
      pss_nil)
    (pss_one (ps_ret (pe_and (pe_call C_is_number.G (hr.mono (by decide)) (by rfl) C_is_number.g C_is_number.k C_is_number.b .nil pass0 (pa_cons (pe_ix ix_tup (pv 0) pe_int (fun _ _ => rfl)) pa_nil)) (pe_and (pe_call C_is_number.G (hr.mono (by decide)) (by rfl) C_is_number.g C_is_number.k C_is_number.b .nil pass0 (pa_cons (pe_ix ix_tup (pv 0) pe_int (fun _ _ => rfl)) pa_nil)) (pe_one (pe_call C_is_number.G (hr.mono (by decide)) (by rfl) C_is_number.g C_is_number.k C_is_number.b .nil pass0 (pa_cons (pe_ix ix_tup (pv 0) pe_int (fun _ _ => rfl)) pa_nil)))))))), ?_⟩
    refine ⟨_, rfl, _, _, _, _, _, rfl, .ty _, tyT ht, kit_ty (by decide +kernel), true, rfl, iteF ?_⟩
    refine ⟨_, rfl, a, _, rfl, ht, rfl, _, rfl, ?_⟩
    refine iteF ?_
    refine ⟨_, rfl, a, _, 0, _, rfl, rfl, ht, rfl, _, rfl, true, rfl, ?_⟩
    refine iteT ⟨_, rfl, a, _, 1, _, rfl, rfl, ht, rfl, _, rfl, true, rfl, ?_⟩
    exact iteT ⟨_, rfl, a, _, 2, _, rfl, rfl, ht, rfl, _, rfl, q⟩
def spLineRows (K : PySem.W.Frag) : Sp := fun vs H Q _ => ∃ (l : Addr) (xs : List V) (rs : List LineR), vs = [.ref l] ∧ SqL K H l xs ∧ RowsV K H xs rs ∧ ∀ p H', Same H H' → H' p = some (.tup xs) → Q (.ref p) H'
theorem ok_line_rows {f f1 : Addr} {fd fd1 : FuncData} (T : Nm mg) (C_is_line_row : Has P w K mg base "is_line_row" 2 ["row"] (spRow K) f1 fd1) (F : Fun K "line_rows" "line_rows" s_line_rows f fd) : FnOk P w K mg base CX0 3 f fd ["rows"] (spLineRows K) := by
  refine F.ok sc_line_rows (fun vs H Q E h => ?_) (fun cdv A outer s H vs Q E hr h => ?_)
  · obtain ⟨l, xs, rs, rfl, _⟩ := h
    rfl
  · obtain ⟨l, xs, rs, rfl, hl, hrs, q⟩ := h
    refine ⟨_, (pss_cons (ps_if (pt_not (pt_val (pe_callB call_isiT (by rfl) T.isinstance (by decide +kernel) (pa_cons (pv 0) (pa_cons (pe_tup (pa_cons (pe_ty (n := "list") (by rfl) T.list (by decide +kernel)) (pa_cons (pe_ty (n := "tuple") (by rfl) T.tuple (by decide +kernel)) pa_nil))) pa_nil)))))
      (pss_one ps_never)
      pss_nil)
    (pss_cons (ps_for PassesOwn.never rfl (pi_enum (by rfl) T.enumerate (pa_cons (pv 0) pa_nil)) (pg_tup rfl (pgs_cons (pg_name (i := 1) sc_line_rows.nd rfl (Or.inl rfl)) (pgs_cons (pg_name (i := 2) sc_line_rows.nd rfl (Or.inl rfl)) pgs_nil)))
      (pss_one (ps_if (pt_not (pt_val (pe_call C_is_line_row.G (hr.mono (by decide)) (by rfl) C_is_line_row.g C_is_line_row.k C_is_line_row.b .nil pass0 (pa_cons (pv 2) pa_nil))))
      (pss_one ps_never)
      pss_nil)))
    (pss_one (ps_ret (pe_callTy call_tuple_of (by rfl) T.tuple (by decide +kernel) (pa_cons (pv 0) pa_nil)))))), ?_⟩
    refine ⟨_, rfl, by show 2 ≤ sizeLine; decide, fun p np => ?_⟩
    have s1 := same_upd (o := .tup [.ty "list", .ty "tuple"]) np
    have hl1 := s1.seq hl
    obtain ⟨t, ty, kt⟩ := list_ty hl1
    refine ⟨_, p, _, t, _, true, rfl, upd_same, .cons (.ty _) (.cons (.ty _) .nil), ty, kt, true, rfl, iteF ?_⟩
    generalize upd H p (.tup [.ty "list", .ty "tuple"]) = H1 at *
    refine ⟨_, rfl, l, _, rfl, hl1, for_it (walk_enum (xs := xs)) (fun i σ H' => Same H1 H' ∧ ∃ u v, σ = [some (.ref l), u, v]) ⟨fun _ _ z => z, none, none, rfl⟩ (fun i σ H' _ z => z.1.seq hl1) ?_ ?_⟩
    · rintro i x σ H2 H3 hi ⟨s2, u, v, rfl⟩ ⟨T', y, x', rfl, nT, rfl, e1, e2⟩
      cases e1
      obtain ⟨r, _, rv⟩ := hrs.at e2
      have S := s2.trans (same_upd (o := .tup [.int (i : Nat), x']) nT)
      refine ⟨T', _, rfl, .inl (.inl upd_same), rfl, _, _, rfl, _, _, rfl, rfl, ?_⟩
      exact ⟨_, rfl, x', r, rfl, RowV.same (s1.trans S) rv, true, rfl, iteF ⟨S, _, _, rfl⟩⟩
    · rintro σ H2 ⟨s2, u, v, rfl⟩
      exact ⟨_, rfl, l, xs, rfl, .inl ⟨s2.seq hl1, fun t nt => q t _ (s1.trans (s2.trans (same_upd nt))) upd_same⟩⟩
structure RegC (K : PySem.W.Frag) (C : Addr) : Prop where
  cl : Cls K C
  nr : NoAttr K C "rows"
def RegAt (K : PySem.W.Frag) (H : Hp) (C g : Addr) (rs : List LineR) : Prop := ∃ dx t xs, H g = some (.ins C dx [("rows", .ref t)]) ∧ SqT K H t xs ∧ RowsV K H xs rs
theorem RegAt.same {H H' : Hp} {C g : Addr} {rs : List LineR} (e : Same H H') : RegAt K H C g rs → RegAt K H' C g rs := fun ⟨dx, t, xs, h, a, b⟩ => ⟨dx, t, xs, e _ _ h, Same.tup e a, b.same e⟩
def spRegI (K : PySem.W.Frag) (C : Addr) : Sp := fun vs H Q _ => ∃ (x dx l : Addr) (xs : List V) (rs : List LineR), vs = [.ref x, .ref l] ∧ H x = some (.ins C dx []) ∧ SqL K H l xs ∧ RowsV K H xs rs ∧ ∀ H', Keep x H H' → RegAt K H' C x rs → Q .non H'
theorem ok_RegI {f f1 C : Addr} {fd fd1 : FuncData} (R : RegC K C) (C_line_rows : Has P w K mg base "line_rows" 3 ["rows"] (spLineRows K) f1 fd1) (F : Fun K "__init__" "Region.__init__" s_Region___init__ f fd) : FnOk P w K mg base CX0 4 f fd ["self", "rows"] (spRegI K C) := by
  refine F.ok sc_Region___init__ (fun vs H Q E h => ?_) (fun cdv A outer s H vs Q E hr h => ?_)
  · obtain ⟨x, dx, l, xs, rs, rfl, _⟩ := h
    rfl
  · obtain ⟨x, dx, l, xs, rs, rfl, hx, hl, hrs, q⟩ := h
    refine ⟨_, (pss_one (ps_fld (pv 0) (pe_call C_line_rows.G (hr.mono (by decide)) (by rfl) C_line_rows.g C_line_rows.k C_line_rows.b .nil pass0 (pa_cons (pv 1) pa_nil)) rfl)), ?_⟩
    refine ⟨_, rfl, l, xs, rs, rfl, hl, hrs, fun p H1 s1 hp => ?_⟩
    have hx1 := s1 _ _ hx
    refine ⟨_, rfl, x, C, dx, _, rfl, hx1, R.cl, R.nr, by show 0 < 1000; decide, ?_⟩
    have k := Keep.upd x H1 (.ins C dx [("rows", .ref p)])
    exact q _ ((Keep.of s1).trans k) ⟨dx, p, xs, upd_same, insT k hx1 (.inl (.inl hp)), (hrs.same s1).map (fun v r ⟨a, e, t⟩ => ⟨a, e, insT k hx1 t⟩)⟩
def spCount (K : PySem.W.Frag) (C : Addr) : Sp := fun vs H Q _ => ∃ (g : Addr) (rs : List LineR), vs = [.ref g] ∧ RegAt K H C g rs ∧ rs.length ≤ 40 ∧ (∀ n ∈ nums rs, n.natAbs < 10 ^ 40) ∧ Boxed rs ∧ ∀ H' n, Same H H' → CountIs rs n → Q (.int n) H'
theorem nums_mem {rs : List LineR} {r : LineR} (h : r ∈ rs) : r.1 ∈ nums rs ∧ r.2.1 ∈ nums rs ∧ r.2.2 ∈ nums rs := by
  unfold nums
  refine ⟨List.mem_flatMap.mpr ⟨r, h, ?_⟩, List.mem_flatMap.mpr ⟨r, h, ?_⟩, List.mem_flatMap.mpr ⟨r, h, ?_⟩⟩ <;> simp
theorem ok_count {f f1 f2 C CT : Addr} {fd fd1 fd2 : FuncData} (T : Nm mg) (R : RegC K C) (C_check_size : HasX P w K mg base "check_size" 4 ["rows", "others", "most_rows", "most_figures"] (spCheckSize K CT) f1 fd1) (C_count_of : Has P w K mg base "count_of" 14 ["rows"] (spCountOf K) f2 fd2)
    (F : Fun K "count" "count" s_count f fd) : FnOk P w K mg base (L2.CX P w) 15 f fd ["region"] (spCount K C) := by
  obtain ⟨_, c_MOST_ROWS⟩ := T.MOST_ROWS
  obtain ⟨_, c_MOST_FIGURES⟩ := T.MOST_FIGURES
  refine F.okX sc_count (fun vs H Q E h => ?_) (fun cdv A outer s H vs Q E hr h => ?_)
  · obtain ⟨g, rs, rfl, _⟩ := h
    rfl
  · obtain ⟨g, rs, rfl, ⟨dx, t, xs, hg, ht, hrs⟩, l40, small, bx, q⟩ := h
    refine ⟨_, (pss_cons (ps_expr (pe_call C_check_size.G (hr.mono (by decide)) (by rfl) C_check_size.g C_check_size.k C_check_size.b .nil (passO (takes_of rfl rfl rfl rfl)) (pa_cons (pe_fld (pv 0) rfl) (pa_cons (pe_lst pa_nil) (pa_cons (pe_glob (v := .int 40) rfl c_MOST_ROWS ⟨_, rfl⟩) (pa_cons (pe_glob (v := .int 40) rfl c_MOST_FIGURES ⟨_, rfl⟩) pa_nil))))))
    (pss_one (ps_ret (pe_call C_count_of.G (hr.mono (by decide)) (by rfl) C_count_of.g C_count_of.k C_count_of.b .nil pass0 (pa_cons (pe_fld (pv 0) rfl) pa_nil))))), ?_⟩
    refine ⟨_, rfl, g, C, dx, _, _, rfl, hg, R.cl, R.nr, rfl, by show 0 ≤ sizeLine; decide, fun o no => ?_⟩
    have s1 := same_upd (o := .lst []) no
    have sm : ∀ n ∈ nums rs ++ [], n.natAbs < 10 ^ 40 := fun n hn => small n (by simpa using hn)
    refine ⟨t, o, xs, rs, [], 40, 40, rfl, Same.tup s1 ht, hrs.same s1, upd_same, by omega, by decide, by decide, fun n hn => Nat.lt_of_lt_of_le (sm n hn) (by decide +kernel), fun h => absurd h (by omega), fun _ _ H2 s2 => ?_, fun _ n hn d hd fg => ?_⟩
    · have s12 := s1.trans s2
      refine ⟨_, rfl, g, C, dx, _, _, rfl, s12 _ _ hg, R.cl, R.nr, rfl, t, xs, rs, 133, rfl, .inr (Same.tup s12 ht), hrs.same s12, by omega, fun v hv => ?_, by decide, by decide, bx, fun H3 n s3 c => q H3 n (s12.trans s3) c⟩
      have m := nums_mem hv
      have up : ∀ {i : Int}, i.natAbs < 10 ^ 40 → Sz 133 i := fun h => Nat.lt_of_lt_of_le h (by decide +kernel)
      exact ⟨up (small _ m.1), up (small _ m.2.1), up (small _ m.2.2)⟩
    · exfalso
      have a := sm n hn
      rcases fg.2.2 with e | e
      · omega
      · have := Nat.pow_le_pow_right (n := 10) (by decide) (show 40 ≤ d - 1 by omega)
        omega
end
end K29

namespace K29
open PySem PySem.Spec PyProof.Rows L2 My
local macro_rules | `(tactic| walk_at "side") => `(tactic| (first
  | assumption
  | (refine OkMod.mk ?_; omega)
  | (refine mulOkL ?_ ?_ <;> omega)
  | (refine mulOkR ?_ ?_ <;> omega)
  | (refine divOk ?_ ?_ <;> omega)))
local macro_rules | `(tactic| walk_at "rd") => `(tactic| (first
  | with_reducible refine ⟨_, rfl, ?_⟩
  | refine ⟨_, rfl, ?_⟩
  | refine ⟨_, _, rfl, rfl, ?_⟩
  | refine And.intro (by walk_at "side") ?_
  | refine ⟨_, _, rfl, asm (by assumption), ?_⟩
  | refine ⟨_, _, rfl, asm ?_⟩))
section
variable {P : Program} {w : World} {K : PySem.W.Frag} {mg : Str → Option Value} {base : Heap}
/-! ### the draws -/
def spNumber (K : PySem.W.Frag) : Sp := fun vs H Q _ => ∃ (s : Addr) (i : Int) (ns : List Int), vs = [.ref s, .int i] ∧ SqL K H s (ns.map V.int) ∧ ns.length ≤ 63 ∧ ∀ (v : Int) H', Same H H' → Q (.int v) H'
theorem dpAll_ints {K : PySem.W.Frag} {H : Hp} : ∀ ns : List Int, DpAll K H (ns.map V.int) (ns.map PyData.int)
  | [] => .nil
  | n :: r => .cons (.int n) (dpAll_ints r)
theorem atI_mod {ns : List Int} (i : Int) (h : 0 < ns.length) : ∃ c : Int, atI (ns.map V.int) (i % ((ns.map V.int).length : Int)) = some (.int c) := by
  rw [List.length_map]
  have h0 := Int.emod_nonneg i (show ((ns.length : Nat) : Int) ≠ 0 by omega)
  have h1 := Int.emod_lt_of_pos i (show (0 : Int) < ((ns.length : Nat) : Int) by omega)
  generalize i % ((ns.length : Nat) : Int) = k at h0 h1
  obtain ⟨j, rfl⟩ := Int.eq_ofNat_of_zero_le h0
  have hj : j < ns.length := by omega
  refine ⟨ns[j], atI_nat ?_⟩
  rw [List.getElem?_map, List.getElem?_eq_getElem hj]
  rfl
theorem ok__law_number {f : Addr} {fd : FuncData} (T : Nm mg) (F : Fun K "_law_number" "_law_number" s__law_number f fd) : FnOk P w K mg base CX0 1 f fd ["script", "index"] (spNumber K) := by
  refine F.ok sc__law_number (fun vs H Q E h => ?_) (fun cdv A outer s H vs Q E hr h => ?_)
  · obtain ⟨s, i, ns, rfl, _⟩ := h
    rfl
  · obtain ⟨a, i, ns, rfl, hS, hl, q⟩ := h
    refine ⟨_, (pss_cons (ps_asg (pe_ifExp (pt_cmpR (op_neD hr.units) (pv 0) (pe_lst pa_nil) (nomark _)) (pe_tup (pa_cons (pe_ix ix_list (pv 0) (pe_op op_modA (pv 1) (pe_callB call_lenL (by rfl) T.len (by decide +kernel) (pa_cons (pv 0) pa_nil))) (fun _ _ => rfl)) (pa_cons (pe_op op_fdivA (pv 1) (pe_callB call_lenL (by rfl) T.len (by decide +kernel) (pa_cons (pv 0) pa_nil))) pa_nil))) (pe_tup (pa_cons pe_int (pa_cons pe_int pa_nil)))) (pg_tup rfl (pgs_cons (pg_name (i := 2) sc__law_number.nd rfl (Or.inl rfl)) (pgs_cons (pg_name (i := 3) sc__law_number.nd rfl (Or.inl rfl)) pgs_nil))))
    (pss_cons (ps_set (i := 4) sc__law_number.nd rfl (Or.inl rfl) (pe_ifExp (pt_cmpR op_lt (pv 3) pe_int (nomark _)) (pe_op op_sub (pv 2) (pe_op op_pow pe_int pe_int)) pe_int))
    (pss_cons (ps_for PassesOwn.never rfl (pi_range1 rfl T.range (pa_cons (pe_op op_modA (pe_callTy call_intI (by rfl) T.int (by decide +kernel) (pa_cons (pv 3) pa_nil)) pe_int) pa_nil)) (pg_name (i := 5) sc__law_number.nd rfl (Or.inl rfl))
      (pss_one (ps_set (i := 4) sc__law_number.nd rfl (Or.inl rfl) (pe_op op_fdivA (pv 4) pe_int))))
    (pss_cons (ps_if (pt_cmpR op_gt (pv 4) pe_int (nomark _))
      (pss_one (ps_ret (pe_op op_modA (pe_callTy call_intI (by rfl) T.int (by decide +kernel) (pa_cons (pv 4) pa_nil)) pe_int)))
      pss_nil)
    (pss_cons (ps_set (i := 6) sc__law_number.nd rfl (Or.inl rfl) (pe_op op_modA (pe_op op_add (pe_op op_mulA (pe_callTy call_intI (by rfl) T.int (by decide +kernel) (pa_cons (pe_op op_add (pv 2) (pe_op op_mulA pe_int (pv 1))) pa_nil)) pe_int) (pe_op op_mulA pe_int (pe_callB call_lenL (by rfl) T.len (by decide +kernel) (pa_cons (pv 0) pa_nil)))) pe_int))
    (pss_cons (ps_set (i := 6) sc__law_number.nd rfl (Or.inl rfl) (pe_op op_modA (pe_op op_add (pe_op op_mulA (pv 6) (pv 6)) (pe_op op_mulA pe_int (pv 1))) pe_int))
    (pss_one (ps_ret (pe_callTy call_intI (by rfl) T.int (by decide +kernel) (pa_cons (pe_op op_modA (pe_op op_add (pe_op op_mulA (pv 6) pe_int) (pe_op op_fdivA (pv 6) pe_int)) pe_int) pa_nil)))))))))), ?_⟩
    refine tIf_via (fun v H1 => ∃ p, ∃ c t : Int, v = .ref p ∧ Same H H1 ∧ H1 p = some (.tup [.int c, .int t])) (fun Q' h' => ?_) ?_
    · replace h' : ∀ p (c t : Int) H1, Same H H1 → H1 p = some (.tup [.int c, .int t]) → Q' (.ref p) H1 := fun p c t H1 a b => h' _ _ ⟨p, c, t, rfl, a, b⟩
      refine ⟨_, rfl, Nat.zero_le _, fun p np => ?_⟩
      have s1 : Same H (upd H p (.lst [])) := same_upd np
      have hS1 := s1.seq hS
      refine ⟨.list (ns.map PyData.int), .list [], .lst hS1 (dpAll_ints ns), .lst (.inl (.inl upd_same)) .nil, PySem.W.ke_shaped_ints ns, rfl, _, rfl, ?_⟩
      by_cases hn : ns = []
      · subst hn
        refine iteF ?_
        refine ⟨by show 2 ≤ sizeLine; decide, fun t nt => h' t _ _ _ (s1.trans (same_upd nt)) upd_same⟩
      · have e : (PyData.list (ns.map PyData.int)).eqv (PyData.list []) = false := by
          cases ns with
          | nil => exact absurd rfl hn
          | cons n r => rfl
        rw [e]
        refine iteT ?_
        have l0 : 0 < ns.length := List.length_pos_iff.mpr hn
        have l1 : (0 : Int) < ((ns.map V.int).length : Int) := by
          rw [List.length_map]
          omega
        have l2 : OkDiv i ((ns.map V.int).length : Int) := divOk l1 (by rw [List.length_map]; omega)
        obtain ⟨c, hc⟩ := atI_mod i l0
        have l3 : OkMod i ((ns.map V.int).length : Int) := ⟨l1⟩
        repeat (walk_at "rd")
        refine ⟨_, _, _, _, rfl, rfl, hS1, hc, ?_⟩
        repeat (walk_at "rd")
        exact ⟨by show 2 ≤ sizeLine; decide, fun t nt => h' t _ _ _ (s1.trans (same_upd nt)) upd_same⟩
    rintro _ H1 ⟨p, c, t, rfl, s1, hp⟩
    have hS1 := s1.seq hS
    refine ⟨p, _, rfl, .inl (.inl hp), rfl, _, _, rfl, _, _, rfl, rfl, ?_⟩
    -- rest = cell - 10 ** 18 if turn < 60 else 0
    dsimp only
    refine sIf_via (fun v H' => ∃ r : Int, v = .int r ∧ H1 = H') (fun Q' h' => ?_) ?_
    · replace h' : ∀ r : Int, Q' (.int r) H1 := fun r => h' _ _ ⟨r, rfl, rfl⟩
      refine ⟨_, rfl, _, _, rfl, rfl, _, rfl, ite2 (fun _ => ?_) (fun _ => h' 0)⟩
      exact ⟨_, rfl, _, _, rfl, rfl, ⟨by decide, by decide, by decide⟩, _, _, rfl, rfl, h' _⟩
    -- the loop
    rintro _ _ ⟨r, rfl, rfl⟩
    have c60 : OkMod t 60 := ⟨by omega⟩
    have t0 := Int.emod_nonneg t (show (60 : Int) ≠ 0 by decide)
    have t1 := Int.emod_lt_of_pos t (show (0 : Int) < 60 by decide)
    repeat (walk_at "rd")
    refine ⟨(by omega), (by omega), for_range (n := (t % 60).toNat) (fun i' σ H' => ∃ (r : Int), ∃ y, σ = [some (.ref a), some (.int i), some (.int c), some (.int t), some (.int r), y, none] ∧ H' = H1) ⟨r, none, rfl, rfl⟩ ?_ ?_⟩
    · rintro j σ H' hj ⟨r, y, rfl, rfl⟩
      have d : OkDiv r 1009 := divOk (by omega) (by omega)
      repeat (walk_at "rd")
      rfl
    rintro σ H' ⟨r, y, rfl, rfl⟩
    have c9 : OkMod r 1009 := ⟨by omega⟩
    refine ⟨_, rfl, _, _, rfl, rfl, _, rfl, ite2 (fun _ => ?_) (fun _ => ?_)⟩
    · repeat (walk_at "rd")
      exact q _ _ s1
    repeat (walk_at "rd")
    exact q _ _ s1
def spTake (K : PySem.W.Frag) : Sp := fun vs H Q _ => ∃ (d s : Addr) (m : Int) (ns : List Int), vs = [.ref d, .int m] ∧ DrawAt K H d s ns ∧ 0 < m ∧ ∀ (r : Int) H', 0 ≤ r → r < m → Keep d H H' → DrawAt K H' d s ns → Q (.int r) H'
theorem ok__law_take {f f1 : Addr} {fd fd1 : FuncData} (T : Nm mg) (C__law_number : Has P w K mg base "_law_number" 1 ["script", "index"] (spNumber K) f1 fd1) (F : Fun K "_law_take" "_law_take" s__law_take f fd) : FnOk P w K mg base CX0 2 f fd ["draw", "many"] (spTake K) := by
  refine F.ok sc__law_take (fun vs H Q E h => ?_) (fun cdv A outer s H vs Q E hr h => ?_)
  · obtain ⟨d, s, m, ns, rfl, _⟩ := h
    rfl
  · obtain ⟨d, s, m, ns, rfl, hD, hm, q⟩ := h
    obtain ⟨k, h1, h3, h4⟩ := id hD
    refine ⟨_, (pss_cons (ps_augS (pv 0) pe_int pget_list pe_int ip_add set_list)
    (pss_one (ps_ret (pe_op op_modA (pe_callTy call_intI (by rfl) T.int (by decide +kernel) (pa_cons (pe_call C__law_number.G (hr.mono (by decide)) (by rfl) C__law_number.g C__law_number.k C__law_number.b .nil pass0 (pa_cons (pe_ix ix_list (pv 0) pe_int (fun _ _ => rfl)) (pa_cons (pe_callTy call_intI (by rfl) T.int (by decide +kernel) (pa_cons (pe_ix ix_list (pv 0) pe_int (fun _ _ => rfl)) pa_nil)) pa_nil))) pa_nil)) (pv 1))))), ?_⟩
    refine ⟨_, rfl, d, _, _, _, rfl, rfl, .inl (.inl h1), rfl, _, _, rfl, rfl, d, _, _, 1, rfl, rfl, h1, rfl, ?_⟩
    have D1 : DrawAt K (upd H d (.lst [.ref s, .int (k + 1)])) d s ns := hD.set
    have K1 : Keep d H (upd H d (.lst [.ref s, .int (k + 1)])) := Keep.upd d H _
    refine ⟨_, rfl, d, _, _, _, rfl, rfl, .inl (.inl upd_same), rfl, _, rfl, d, _, _, _, rfl, rfl, .inl (.inl upd_same), rfl, _, rfl, ?_⟩
    refine ⟨s, k + 1, ns, rfl, K1.seqS h1 h3, h4, fun v H' sm => ?_⟩
    refine ⟨_, rfl, _, rfl, _, _, rfl, rfl, ⟨hm⟩, ?_⟩
    exact q _ _ (Int.emod_nonneg _ (by omega)) (Int.emod_lt_of_pos _ hm) (K1.trans (Keep.of sm)) (D1.same sm)
def spLong (K : PySem.W.Frag) : Sp := fun vs H Q _ => ∃ (d s : Addr) (n : Int) (ns : List Int), vs = [.ref d, .int n] ∧ DrawAt K H d s ns ∧ 0 ≤ n ∧ n ≤ 1000 ∧ ∀ (r : Int) H', r.natAbs < 10 ^ n.toNat → Keep d H H' → DrawAt K H' d s ns → Q (.int r) H'
theorem ok__law_long {f f1 : Addr} {fd fd1 : FuncData} (T : Nm mg) (C__law_take : Has P w K mg base "_law_take" 2 ["draw", "many"] (spTake K) f1 fd1) (F : Fun K "_law_long" "_law_long" s__law_long f fd) : FnOk P w K mg base CX0 3 f fd ["draw", "figures_v"] (spLong K) := by
  refine F.ok sc__law_long (fun vs H Q E h => ?_) (fun cdv A outer s H vs Q E hr h => ?_)
  · obtain ⟨d, s, n, ns, rfl, _⟩ := h
    rfl
  · obtain ⟨d, s, n, ns, rfl, hD, n0, n1, q⟩ := h
    refine ⟨_, (pss_cons (ps_set (i := 2) sc__law_long.nd rfl (Or.inl rfl) pe_int)
    (pss_cons (ps_for PassesOwn.never rfl (pi_range1 rfl T.range (pa_cons (pe_call C__law_take.G (hr.mono (by decide)) (by rfl) C__law_take.g C__law_take.k C__law_take.b .nil pass0 (pa_cons (pv 0) (pa_cons (pe_op op_add (pv 1) pe_int) pa_nil))) pa_nil)) (pg_name (i := 3) sc__law_long.nd rfl (Or.inl rfl))
      (pss_one (ps_set (i := 2) sc__law_long.nd rfl (Or.inl rfl) (pe_op op_add (pe_op op_mulA pe_int (pv 2)) (pe_call C__law_take.G (hr.mono (by decide)) (by rfl) C__law_take.g C__law_take.k C__law_take.b .nil pass0 (pa_cons (pv 0) (pa_cons pe_int pa_nil)))))))
    (pss_one (ps_ret (pe_ifExp (pt_cmpR op_eq (pe_call C__law_take.G (hr.mono (by decide)) (by rfl) C__law_take.g C__law_take.k C__law_take.b .nil pass0 (pa_cons (pv 0) (pa_cons pe_int pa_nil))) pe_int (nomark _)) (pv 2) (pe_op op_sub pe_int (pv 2))))))), ?_⟩
    refine ⟨_, rfl, _, rfl, _, _, rfl, rfl, d, s, n + 1, ns, rfl, hD, by omega, fun many H1 m0 m1 K1 D1 => ?_⟩
    refine ⟨_, rfl, by omega, by omega, for_range (n := many.toNat) (fun i σ H' => ∃ (r : Int), ∃ y, σ = [some (.ref d), some (.int n), some (.int r), y] ∧ 0 ≤ r ∧ r.natAbs < 10 ^ i ∧ Keep d H H' ∧ DrawAt K H' d s ns) ⟨0, none, rfl, by omega, by decide, K1, D1⟩ ?_ ?_⟩
    · rintro i σ H2 hi ⟨r, y, rfl, r0, rb, K2, D2⟩
      refine ⟨_, rfl, _, _, rfl, rfl, mulOkL (by omega) (by omega), _, rfl, d, s, 10, ns, rfl, D2, by omega, fun c H3 c0 c1 K3 D3 => ?_⟩
      refine ⟨_, _, rfl, rfl, 10 * r + c, _, rfl, by omega, ?_, K2.trans K3, D3⟩
      rw [Nat.pow_succ]
      omega
    · rintro σ H2 ⟨r, y, rfl, r0, rb, K2, D2⟩
      refine ⟨_, rfl, d, s, 2, ns, rfl, D2, by omega, fun c H3 c0 c1 K3 D3 => ?_⟩
      have hb : r.natAbs < 10 ^ n.toNat := Nat.lt_of_lt_of_le rb (Nat.pow_le_pow_right (by omega) (by omega))
      refine ⟨rfl, _, rfl, ite2 (fun _ => ?_) (fun _ => ?_)⟩
      · exact ⟨_, rfl, q _ _ hb (K2.trans K3) D3⟩
      · exact ⟨_, rfl, _, _, rfl, rfl, q _ _ (by omega) (K2.trans K3) D3⟩
end
end K29
namespace K29
open PySem PySem.Spec PyProof.Rows L2 My
local macro_rules | `(tactic| walk_at "side") => `(tactic| (first
  | assumption
  | (refine OkMod.mk ?_; omega)
  | (refine mulOkL ?_ ?_ <;> omega)
  | (refine mulOkR ?_ ?_ <;> omega)
  | (refine divOk ?_ ?_ <;> omega)))
local macro_rules | `(tactic| walk_at "rd") => `(tactic| (first
  | with_reducible refine ⟨_, rfl, ?_⟩
  | refine ⟨_, rfl, ?_⟩
  | refine ⟨_, _, rfl, rfl, ?_⟩
  | refine And.intro (by walk_at "side") ?_
  | refine ⟨_, _, rfl, asm (by assumption), ?_⟩
  | refine ⟨_, _, rfl, asm ?_⟩))
section
variable {P : Program} {w : World} {K : PySem.W.Frag} {mg : Str → Option Value} {base : Heap}

open M46
/-! ### _law_bezout: the greatest common divisor comes first -/
def spBez (K : PySem.W.Frag) : Sp := fun vs H Q _ => ∃ a m : Nat, vs = [.int (a : Int), .int (m : Int)] ∧ 0 < a ∧ 0 < m ∧ a < 2 ^ 44 ∧ m < 2 ^ 44 ∧ ∀ (t : Addr) (x y : Int) H', Same H H' → H' t = some (.tup [.int (Nat.gcd a m : Int), .int x, .int y]) → Q (.ref t) H'
/-- what holds after i turns -/
structure Bez (a m i : Nat) (u v : Nat) (x y z w' : Int) : Prop where
  g : Nat.gcd u v = Nat.gcd a m
  u1 : u < 2 ^ 44
  v1 : v < 2 ^ 44
  sh : 1 ≤ i → v ≤ u ∧ 3 ^ (i - 1) * (u + v) ≤ 2 ^ (i - 1) * 2 ^ 45
  sx : Sz (50 * i + 1) x
  sy : Sz (50 * i + 1) y
  sz : Sz (50 * i + 1) z
  sw : Sz (50 * i + 1) w'
theorem bez_step {a m i u v : Nat} {x y z w' : Int} (h : Bez a m i u v x y z w') (v0 : 0 < v) : Bez a m (i + 1) v (u % v) z w' (x - (u / v : Nat) * z) (y - (u / v : Nat) * w') := by
  have r1 := Nat.mod_lt u v0
  have t1 : u / v ≤ u := Nat.div_le_self u v
  have q : Sz 44 ((u / v : Nat) : Int) := by
    unfold Sz
    rw [Int.natAbs_natCast]
    have := h.u1
    omega
  refine ⟨?_, h.v1, by have := h.v1; omega, fun _ => ⟨Nat.le_of_lt r1, ?_⟩, h.sz.up (by omega), h.sw.up (by omega), (((h.sx.up (show 50 * i + 1 ≤ 44 + (50 * i + 1) by omega)).sub (q.mul h.sz)).up (by omega)), (((h.sy.up (show 50 * i + 1 ≤ 44 + (50 * i + 1) by omega)).sub (q.mul h.sw)).up (by omega))⟩
  · rw [← h.g, Nat.gcd_comm u v, Nat.gcd_rec v u, Nat.gcd_comm]
  · show 3 ^ i * (v + u % v) ≤ 2 ^ i * 2 ^ 45
    cases i with
    | zero =>
      have := h.v1
      omega
    | succ i =>
      obtain ⟨vu, hs⟩ := h.sh (by omega)
      have hs : 3 ^ i * (u + v) ≤ 2 ^ i * 2 ^ 45 := hs
      have d1 : 1 ≤ u / v := (Nat.one_le_div_iff v0).mpr vu
      have e := Nat.div_add_mod u v
      have k : v ≤ v * (u / v) := Nat.le_mul_of_pos_right v d1
      have s : 3 * (v + u % v) ≤ 2 * (u + v) := by omega
      have a1 : 3 ^ i * (3 * (v + u % v)) ≤ 3 ^ i * (2 * (u + v)) := Nat.mul_le_mul_left _ s
      have a2 : 2 * (3 ^ i * (u + v)) ≤ 2 * (2 ^ i * 2 ^ 45) := Nat.mul_le_mul_left _ hs
      have b1 : 3 ^ (i + 1) * (v + u % v) = 3 ^ i * (3 * (v + u % v)) := by rw [Nat.pow_succ, Nat.mul_assoc]
      have b2 : 2 ^ (i + 1) * 2 ^ 45 = 2 * (2 ^ i * 2 ^ 45) := by rw [Nat.pow_succ, Nat.mul_comm (2 ^ i) 2, Nat.mul_assoc]
      have b3 : 3 ^ i * (2 * (u + v)) = 2 * (3 ^ i * (u + v)) := by
        rw [← Nat.mul_assoc, Nat.mul_comm (3 ^ i) 2, Nat.mul_assoc]
      omega
theorem bez_end {a m u v : Nat} {x y z w' : Int} (h : Bez a m 5000 u v x y z w') (u0 : 0 < u) : False := by
  obtain ⟨_, hs⟩ := h.sh (by decide)
  have hs : 3 ^ 4999 * (u + v) ≤ 2 ^ 4999 * 2 ^ 45 := hs
  have k : 3 ^ 4999 * 1 ≤ 3 ^ 4999 * (u + v) := Nat.mul_le_mul_left _ (by omega)
  have n : ¬ (3 ^ 4999 * 1 ≤ 2 ^ 4999 * 2 ^ 45) := by decide +kernel
  exact n (Nat.le_trans k hs)
theorem ok_bezout {f : Addr} {fd : FuncData} (T : Nm mg) (F : Fun K "_law_bezout" "_law_bezout" s__law_bezout f fd) : FnOk P w K mg base CX0 1 f fd ["one", "other"] (spBez K) := by
  refine F.ok sc__law_bezout (fun vs H Q E h => ?_) (fun cdv A outer s H vs Q E hr h => ?_)
  · obtain ⟨a, m, rfl, _⟩ := h
    rfl
  · obtain ⟨a, m, rfl, a0, m0, a1, m1, q⟩ := h
    refine ⟨_, (pss_cons (ps_par (i := 2) (j := 3) (by rfl) sc__law_bezout.nd rfl rfl (by decide) rfl rfl (pa_cons (pe_tup (pa_cons (pv 0) (pa_cons pe_int (pa_cons pe_int pa_nil)))) (pa_cons (pe_tup (pa_cons (pv 1) (pa_cons pe_int (pa_cons pe_int pa_nil)))) pa_nil)) (by rfl))
    (pss_cons (ps_for PassesOwn.never rfl (pi_range1 rfl T.range (pa_cons pe_int pa_nil)) (pg_name (i := 4) sc__law_bezout.nd rfl (Or.inl rfl))
      (pss_cons (ps_if (pt_cmpR op_eq (pe_ix ix_tup (pv 3) pe_int (fun _ _ => rfl)) pe_int (nomark _))
      (pss_one ps_break)
      pss_nil)
    (pss_cons (ps_set (i := 5) sc__law_bezout.nd rfl (Or.inl rfl) (pe_op op_fdivA (pe_ix ix_tup (pv 2) pe_int (fun _ _ => rfl)) (pe_ix ix_tup (pv 3) pe_int (fun _ _ => rfl))))
    (pss_one (ps_par (i := 2) (j := 3) (by rfl) sc__law_bezout.nd rfl rfl (by decide) rfl rfl (pa_cons (pv 3) (pa_cons (pe_tup (pa_cons (pe_op op_sub (pe_ix ix_tup (pv 2) pe_int (fun _ _ => rfl)) (pe_op op_mulA (pv 5) (pe_ix ix_tup (pv 3) pe_int (fun _ _ => rfl)))) (pa_cons (pe_op op_sub (pe_ix ix_tup (pv 2) pe_int (fun _ _ => rfl)) (pe_op op_mulA (pv 5) (pe_ix ix_tup (pv 3) pe_int (fun _ _ => rfl)))) (pa_cons (pe_op op_sub (pe_ix ix_tup (pv 2) pe_int (fun _ _ => rfl)) (pe_op op_mulA (pv 5) (pe_ix ix_tup (pv 3) pe_int (fun _ _ => rfl)))) pa_nil)))) pa_nil)) (by rfl))))))
    (pss_one (ps_ret (pe_ifExp (pt_cmpR op_ge (pe_ix ix_tup (pv 2) pe_int (fun _ _ => rfl)) pe_int (nomark _)) (pv 2) (pe_tup (pa_cons (pe_op op_sub pe_int (pe_ix ix_tup (pv 2) pe_int (fun _ _ => rfl))) (pa_cons (pe_op op_sub pe_int (pe_ix ix_tup (pv 2) pe_int (fun _ _ => rfl))) (pa_cons (pe_op op_sub pe_int (pe_ix ix_tup (pv 2) pe_int (fun _ _ => rfl))) pa_nil))))))))), ?_⟩
    refine ⟨_, rfl, by show 3 ≤ sizeLine; decide, fun tn ntn => ?_⟩
    have s1 := same_upd (o := .tup [.int (a : Int), .int 1, .int 0]) ntn
    have h1 : upd H tn (.tup [.int (a : Int), .int 1, .int 0]) tn = _ := upd_same
    generalize upd H tn (.tup [.int (a : Int), .int 1, .int 0]) = H1 at *
    refine ⟨_, rfl, by show 3 ≤ sizeLine; decide, fun tl ntl => ?_⟩
    have s2 := same_upd (o := .tup [.int (m : Int), .int 0, .int 1]) ntl
    have h2 : upd H1 tl (.tup [.int (m : Int), .int 0, .int 1]) tl = _ := upd_same
    generalize upd H1 tl (.tup [.int (m : Int), .int 0, .int 1]) = H2 at *
    refine ⟨_, _, rfl, ?_⟩
    have last : ∀ {H' : Hp} {pn pl : Addr} {y4 y5 : Option V} {u v : Nat} {x y z w' : Int} {i : Nat}, Same H H' → H' pn = some (.tup [.int (u : Int), .int x, .int y]) → Bez a m i u v x y z w' → v = 0 → Q (.ref pn) H' := fun {H' pn pl y4 y5 u v x y z w' i} S hn b e => by
      have g := b.g
      rw [e, Nat.gcd_zero_right] at g
      rw [g] at hn
      exact q _ x y H' S hn
    try dsimp only [tNext]
    refine sSeq_via (fun σ' H' => Same H H' ∧ ∃ pn pl y4 y5, ∃ u : Nat, ∃ x y : Int, σ' = [some (.int (a : Int)), some (.int (m : Int)), some (.ref pn), some (.ref pl), y4, y5] ∧ H' pn = some (.tup [.int (u : Int), .int x, .int y]) ∧ u = Nat.gcd a m) (fun nx hnx => ?_) ?_
    · refine ⟨5000, rfl, by decide, by decide, for_range (lo := 0) (n := 5000) (fun i σ H' => Same H H' ∧ ∃ pn pl y4 y5, ∃ u v : Nat, ∃ x y z w' : Int, σ = [some (.int (a : Int)), some (.int (m : Int)), some (.ref pn), some (.ref pl), y4, y5] ∧ H' pn = some (.tup [.int (u : Int), .int x, .int y]) ∧ H' pl = some (.tup [.int (v : Int), .int z, .int w']) ∧ 0 < u ∧ Bez a m i u v x y z w')
        ⟨s1.trans s2, tn, tl, none, none, a, m, 1, 0, 0, 1, rfl, s2 _ _ h1, h2, a0, ⟨rfl, a1, m1, fun h => absurd h (by decide), by show (1 : Nat) < 2 ^ 1; decide, by show (0 : Nat) < 2 ^ 1; decide, by show (0 : Nat) < 2 ^ 1; decide, by show (1 : Nat) < 2 ^ 1; decide⟩⟩ ?_ ?_⟩
      · rintro i σ H3 hi ⟨S, pn, pl, y4, y5, u, v, x, y, z, w', rfl, hn, hl, u0, b⟩
        refine ⟨_, rfl, pl, _, 0, _, rfl, rfl, .inl (.inl hl), rfl, rfl, _, rfl, ?_⟩
        by_cases v0 : v = 0
        · rw [decide_eq_true (show V.int (v : Int) = V.int 0 by rw [v0]; rfl)]
          refine iteTt rfl (hnx _ _ ⟨S, pn, pl, _, _, u, x, y, rfl, hn, ?_⟩)
          have := b.g
          rw [v0, Nat.gcd_zero_right] at this
          exact this
        · rw [decide_eq_false (show ¬ V.int (v : Int) = V.int 0 from fun e => v0 (by have := V.int.inj e; omega))]
          refine iteFf rfl ?_
          have vp : 0 < v := Nat.pos_of_ne_zero v0
          have b' := bez_step b vp
          have big : ∀ {N : Nat} {c : Int}, Sz N c → N ≤ 300000 → OkMul ((u : Int) / (v : Int)) c := fun {N c} h hN => by
            have e : ((u : Int) / (v : Int)).natAbs < 2 ^ 44 := by
              rw [show (u : Int) / (v : Int) = ((u / v : Nat) : Int) from rfl, Int.natAbs_natCast]
              have := Nat.div_le_self u v
              have := b.u1
              omega
            exact mulOk (b := N + 1) e (h.up (by omega)) (by decide) (by omega) (by omega)
          refine ⟨_, rfl, pn, _, 0, _, rfl, rfl, .inl (.inl hn), rfl, _, rfl, pl, _, 0, _, rfl, rfl, .inl (.inl hl), rfl, _, _, rfl, rfl, divOk (by omega) (by have := b.v1; omega), ?_⟩
          refine ⟨_, rfl, ?_⟩
          have sv : Sz 44 (v : Int) := by
            show ((v : Int)).natAbs < 2 ^ 44
            rw [Int.natAbs_natCast]
            exact b.v1
          refine ⟨_, rfl, pn, _, 0, _, rfl, rfl, .inl (.inl hn), rfl, _, rfl, _, rfl, pl, _, 0, _, rfl, rfl, .inl (.inl hl), rfl, _, _, rfl, rfl, big sv (by decide), _, _, rfl, rfl, ?_⟩
          refine ⟨_, rfl, pn, _, 1, _, rfl, rfl, .inl (.inl hn), rfl, _, rfl, _, rfl, pl, _, 1, _, rfl, rfl, .inl (.inl hl), rfl, _, _, rfl, rfl, big b.sz (by omega), _, _, rfl, rfl, ?_⟩
          refine ⟨_, rfl, pn, _, 2, _, rfl, rfl, .inl (.inl hn), rfl, _, rfl, _, rfl, pl, _, 2, _, rfl, rfl, .inl (.inl hl), rfl, _, _, rfl, rfl, big b.sw (by omega), _, _, rfl, rfl, by show 3 ≤ sizeLine; decide, fun t nt => ?_⟩
          have em : (u : Int) - (u : Int) / (v : Int) * (v : Int) = ((u % v : Nat) : Int) := by
            have e := Nat.div_add_mod u v
            have e2 : ((v * (u / v) + u % v : Nat) : Int) = (u : Int) := by rw [e]
            rw [Int.natCast_add, Int.natCast_mul] at e2
            rw [show (u : Int) / (v : Int) = ((u / v : Nat) : Int) from rfl, Int.mul_comm]
            omega
          refine ⟨_, _, rfl, S.trans (same_upd nt), pl, t, _, _, v, u % v, z, w', _, _, rfl, (same_upd nt) _ _ hl, ?_, vp, b'⟩
          rw [upd_same]
          show some (HO.tup [V.int ((u : Int) - (u : Int) / (v : Int) * (v : Int)), _, _]) = _
          rw [em]
          rfl
      · rintro σ H3 ⟨S, pn, pl, y4, y5, u, v, x, y, z, w', rfl, hn, hl, u0, b⟩
        exact (bez_end b u0).elim
    rintro σ' H3 ⟨S, pn, pl, y4, y5, u, x, y, rfl, hn, rfl⟩
    refine ⟨_, rfl, pn, _, 0, _, rfl, rfl, .inl (.inl hn), rfl, _, _, rfl, rfl, _, rfl, ?_⟩
    rw [decide_eq_true (show ((Nat.gcd a m : Nat) : Int) ≥ 0 by omega)]
    exact iteTt rfl ⟨_, rfl, q _ x y H3 S hn⟩
/-! ### sums -/
/-- a sum of what is 0 without a window -/
theorem window {f : Int → Int} {first last : Int} {N : Nat} (inn : ∀ x, first ≤ x → x ≤ last → 0 ≤ x ∧ x < N) (out : ∀ x : Int, 0 ≤ x → x < N → ¬ (first ≤ x ∧ x ≤ last) → f x = 0) (near : first ≤ last + 1) : upTo f first last = rsum (fun i => f (i : Int)) N := by
  by_cases c : first ≤ last
  · have h1 := inn first (Int.le_refl _) c
    have h2 := inn last c (Int.le_refl _)
    obtain ⟨p, hp⟩ := Int.eq_ofNat_of_zero_le h1.1
    obtain ⟨d, hd⟩ := Int.eq_ofNat_of_zero_le (show 0 ≤ last - first + 1 by omega)
    obtain ⟨e, he⟩ := Int.eq_ofNat_of_zero_le (show 0 ≤ (N : Int) - (last + 1) by omega)
    have eN : N = p + d + e := by omega
    have z : ∀ g : Nat → Int, ∀ k : Nat, (∀ i, i < k → g i = 0) → rsum g k = 0 := fun g k hg => by
      rw [rsum_congr (g := fun _ => 0) k hg, rsum_const]
      omega
    rw [eN, rsum_more, rsum_more, z _ p fun i hi => out i (by omega) (by omega) (by omega), z _ e fun i hi => ?_]
    · unfold upTo
      rw [hd, Int.toNat_natCast, Int.zero_add, Int.add_zero]
      refine rsum_congr _ fun i _ => ?_
      congr 1
      omega
    · exact out ((p + d + i : Nat) : Int) (by omega) (by omega) (by omega)
  · rw [upTo_none (by omega), rsum_congr (g := fun _ => 0) N fun i hi => out i (by omega) (by omega) (by omega), rsum_const]
    omega
theorem pair_sum {p q : Nat} (hc : Nat.gcd p q = 1) {j : Nat} (j0 : 0 < j) (jq : j < q) : ((p : Int) * j) / q + ((p : Int) * ((q - j : Nat) : Int)) / q = p - 1 := by
  have nd : ¬ q ∣ p * j := fun h => by
    have := (Nat.Coprime.dvd_of_dvd_mul_left (k := q) (m := p) (n := j) (by unfold Nat.Coprime; rw [Nat.gcd_comm]; exact hc) h)
    exact absurd (Nat.le_of_dvd j0 this) (by omega)
  have r0 : 0 < (p * j) % q := Nat.pos_of_ne_zero fun e => nd (Nat.dvd_of_mod_eq_zero e)
  have r1 := Nat.mod_lt (p * j) (show 0 < q by omega)
  have e := Nat.div_add_mod (p * j) q
  have e1 : (p : Int) * j = (q : Int) * ((p * j / q : Nat) : Int) + ((p * j % q : Nat) : Int) := by
    rw [← Int.natCast_mul, ← Int.natCast_mul, ← Int.natCast_add, e]
  generalize p * j / q = k at e1
  generalize p * j % q = r at r0 r1 e1
  have e2 : (p : Int) * ((q - j : Nat) : Int) = (q : Int) * ((p : Int) - k - 1) + ((q : Int) - r) := by
    rw [Int.ofNat_sub (Nat.le_of_lt jq)]
    grind
  have d1 : ((p : Int) * j) / q = k := by
    rw [Int.ediv_eq_iff_of_pos (by omega), e1]
    constructor <;> grind
  have d2 : ((p : Int) * ((q - j : Nat) : Int)) / q = (p : Int) - k - 1 := by
    rw [Int.ediv_eq_iff_of_pos (by omega), e2]
    constructor <;> grind
  omega
theorem half_sum {p q : Nat} (hc : Nat.gcd p q = 1) (q0 : 0 < q) : 2 * fsum p 0 q q = ((p : Int) - 1) * ((q : Int) - 1) := by
  obtain ⟨n, rfl⟩ : ∃ n, q = n + 1 := ⟨q - 1, by omega⟩
  unfold fsum
  rw [rsum_front]
  have z : ((p : Int) * ((0 : Nat) : Int) + 0) / ((n + 1 : Nat) : Int) = 0 := by
    rw [show (p : Int) * ((0 : Nat) : Int) + 0 = 0 by omega]
    exact Int.zero_ediv _
  rw [z, Int.zero_add]
  have rv := rsum_rev (fun i => ((p : Int) * ((i + 1 : Nat) : Int) + 0) / ((n + 1 : Nat) : Int)) n
  have e : 2 * rsum (fun i => ((p : Int) * ((i + 1 : Nat) : Int) + 0) / ((n + 1 : Nat) : Int)) n = rsum (fun i => ((p : Int) * ((i + 1 : Nat) : Int) + 0) / ((n + 1 : Nat) : Int)) n + rsum (fun i => ((p : Int) * ((n - 1 - i + 1 : Nat) : Int) + 0) / ((n + 1 : Nat) : Int)) n := by
    rw [rv]
    omega
  rw [e, ← rsum_add, rsum_congr (g := fun _ => (p : Int) - 1) n fun i hi => ?_, rsum_const]
  · rw [show ((n + 1 : Nat) : Int) - 1 = (n : Int) by omega]
  · have := pair_sum hc (j := i + 1) (by omega) (by omega)
    rw [show n - 1 - i + 1 = n + 1 - (i + 1) by omega, Int.add_zero, Int.add_zero]
    exact this
end
end K29

namespace K29
open PySem PySem.Spec PyProof.Rows L2 My
local macro_rules | `(tactic| walk_at "side") => `(tactic| (first
  | assumption
  | (refine OkMod.mk ?_; omega)
  | (refine mulOkL ?_ ?_ <;> omega)
  | (refine mulOkR ?_ ?_ <;> omega)
  | (refine divOk ?_ ?_ <;> omega)))
local macro_rules | `(tactic| walk_at "rd") => `(tactic| (first
  | with_reducible refine ⟨_, rfl, ?_⟩
  | refine ⟨_, rfl, ?_⟩
  | refine ⟨_, _, rfl, rfl, ?_⟩
  | refine And.intro (by walk_at "side") ?_
  | refine ⟨_, _, rfl, asm (by assumption), ?_⟩
  | refine ⟨_, _, rfl, asm ?_⟩))
section
variable {P : Program} {w : World} {K : PySem.W.Frag} {mg : Str → Option Value} {base : Heap}

open M46
/-! ### the law's two regions -/
theorem dot_le (x y : Int) : ∀ (ws : List Int) (rs : List LineR), (∀ w ∈ ws, 0 ≤ w) → (∀ r ∈ rs, r.1 * x + r.2.1 * y ≤ r.2.2) → dotw (fun r => r.1) ws rs * x + dotw (fun r => r.2.1) ws rs * y ≤ dotw (fun r => r.2.2) ws rs
  | [], _, _, _ => by simp [dotw]
  | _ :: _, [], _, _ => by simp [dotw]
  | w :: ws, r :: rs, hw, hr => by
    have ih := dot_le x y ws rs (fun v hv => hw v (List.mem_cons_of_mem _ hv)) (fun v hv => hr v (List.mem_cons_of_mem _ hv))
    have k := Int.mul_le_mul_of_nonneg_left (hr r List.mem_cons_self) (hw w List.mem_cons_self)
    show (w * r.1 + _) * x + (w * r.2.1 + _) * y ≤ w * r.2.2 + _
    generalize dotw (fun r => r.1) ws rs = A at *
    generalize dotw (fun r => r.2.1) ws rs = B at *
    generalize dotw (fun r => r.2.2) ws rs = C at *
    grind
theorem emp_no {rs : List LineR} {ws : List Int} (E : Emp rs ws) {x y : Int} (h : ∀ r ∈ rs, r.1 * x + r.2.1 * y ≤ r.2.2) : False := by
  have k := dot_le x y ws rs E.pos h
  rw [E.a, E.b] at k
  have := E.c
  omega
theorem upTo_congr {f g : Int → Int} {first last : Int} (h : ∀ x, first ≤ x → x ≤ last → f x = g x) : upTo f first last = upTo g first last := by
  unfold upTo
  refine rsum_congr _ fun i hi => h _ (by omega) (by omega)
def rows1 (a b m many : Int) : List LineR := [(-1, 0, 0), (1, 0, many - 1), (0, -1, -1), (0 - a, m, b)]
theorem up1 {a b m many : Int} (hm : 0 < m) : linesFrom 1 0 (rows1 a b m many) = [⟨0 - a, m, b, 3⟩] := by
  simp [linesFrom, lineOf, rows1, hm]
theorem down1 {a b m many : Int} (hm : 0 < m) : linesFrom (-1) 0 (rows1 a b m many) = [⟨0, 1, -1, 2⟩] := by
  simp [linesFrom, lineOf, rows1]
  omega
theorem div_small {z m : Int} (h0 : 0 ≤ z) (h : z < m) : z / m = 0 := Int.ediv_eq_zero_of_lt h0 h
theorem count1 {a b m n : Int} {many : Nat} (ha : 0 ≤ a) (hb : 0 ≤ b) (hm : 0 < m) (c : CountIs (rows1 a b m many) n) : n = fsum a b m many := by
  rcases c with ⟨rfl, ws, em⟩ | ⟨first, last, fU, fL, inx, near, mU, mL, rfl⟩
  · unfold fsum
    rw [rsum_congr (g := fun _ => 0) many fun i hi => ?_, rsum_const]
    · omega
    · apply div_small
      · have := Int.mul_nonneg ha (Int.natCast_nonneg i)
        omega
      · apply Int.not_le.mp
        intro le
        refine emp_no em (x := (i : Int)) (y := 1) fun r hr => ?_
        simp only [rows1, List.mem_cons, List.not_mem_nil, or_false] at hr
        rcases hr with rfl | rfl | rfl | rfl
        · show (-1) * (i : Int) + 0 * 1 ≤ 0
          omega
        · show 1 * (i : Int) + 0 * 1 ≤ (many : Int) - 1
          omega
        · show 0 * (i : Int) + (-1) * 1 ≤ -1
          omega
        · show (0 - a) * (i : Int) + m * 1 ≤ b
          grind
  · have e1 : ∀ x, fU x + fL x + 1 = (a * x + b) / m := fun x => by
      have u := (mU x).1
      have l := (mL x).1
      rw [up1 hm] at u
      rw [down1 hm] at l
      obtain ⟨q, hq, e⟩ := u
      obtain ⟨r, hr, e'⟩ := l
      rw [List.mem_singleton.mp hq] at e
      rw [List.mem_singleton.mp hr] at e'
      unfold flo at e e'
      dsimp only at e e'
      rw [e, e', show b - (0 - a) * x = a * x + b by grind, show ((-1 : Int) - 0 * x) / 1 = -1 by simp]
      omega
    have in_ : ∀ x, InX (rows1 a b m many) x 1 ↔ 0 ≤ x ∧ x < many ∧ m ≤ a * x + b := fun x => by
      unfold InX
      rw [up1 hm, down1 hm]
      constructor
      · rintro ⟨h1, h2⟩
        have k1 := h1 (-1, 0, 0) (by simp [rows1]) rfl
        have k2 := h1 (1, 0, (many : Int) - 1) (by simp [rows1]) rfl
        have k3 := h2 _ (List.mem_singleton.mpr rfl) _ (List.mem_singleton.mpr rfl)
        dsimp only at k1 k2 k3
        refine ⟨by omega, by omega, ?_⟩
        grind
      · rintro ⟨h0, h1, h2⟩
        refine ⟨fun r hr z => ?_, fun q hq r hr => ?_⟩
        · simp only [rows1, List.mem_cons, List.not_mem_nil, or_false] at hr
          rcases hr with rfl | rfl | rfl | rfl
          · show (-1) * x ≤ 0 * 1
            omega
          · show 1 * x ≤ ((many : Int) - 1) * 1
            omega
          · exact absurd z (by decide)
          · have z : m = 0 := z
            omega
        · rw [List.mem_singleton.mp hq, List.mem_singleton.mp hr]
          dsimp only
          grind
    rw [upTo_congr fun x _ _ => e1 x]
    unfold fsum
    refine window (f := fun x => (a * x + b) / m) (N := many) (fun x h1 h2 => ?_) (fun x h0 h1 hn => ?_) near
    · have := (in_ x).mp ((inx x).mp ⟨h1, h2⟩)
      omega
    · have lt : a * x + b < m := by
        apply Int.not_le.mp
        intro le
        exact hn ((inx x).mpr ((in_ x).mpr ⟨h0, h1, le⟩))
      have := Int.mul_nonneg ha h0
      exact div_small (by omega) lt
def rows2 (p q : Int) : List LineR := [(-1, 0, -1), (1, 0, q - 1), (0, -1, -1), (0, 1, p - 1), (0 - p, q, 0)]
theorem up2 {p q : Int} (hq : 0 < q) : linesFrom 1 0 (rows2 p q) = [⟨0, 1, p - 1, 3⟩, ⟨0 - p, q, 0, 4⟩] := by
  simp [linesFrom, lineOf, rows2, hq]
theorem down2 {p q : Int} (hq : 0 < q) : linesFrom (-1) 0 (rows2 p q) = [⟨0, 1, -1, 2⟩] := by
  simp [linesFrom, lineOf, rows2]
  omega
theorem count2 {p q : Nat} {n : Int} (hp : 0 < p) (hq : 0 < q) (c : CountIs (rows2 p q) n) : n = fsum p 0 q q := by
  have hq' : (0 : Int) < q := by omega
  have zero : ∀ x : Int, 0 ≤ x → x < q → ¬ (1 ≤ x ∧ (2 : Int) ≤ p ∧ (q : Int) ≤ p * x) → ((p : Int) * x + 0) / q = 0 := fun x h0 h1 hn => by
    rw [Int.add_zero]
    have k := Int.mul_nonneg (Int.natCast_nonneg p) h0
    apply div_small k
    by_cases x1 : 1 ≤ x
    · by_cases p2 : (2 : Int) ≤ p
      · omega
      · have e : (p : Int) = 1 := by omega
        rw [e]
        omega
    · have e : x = 0 := by omega
      rw [e]
      omega
  rcases c with ⟨rfl, ws, em⟩ | ⟨first, last, fU, fL, inx, near, mU, mL, rfl⟩
  · unfold fsum
    rw [rsum_congr (g := fun _ => 0) q fun i hi => ?_, rsum_const]
    · omega
    · refine zero i (by omega) (by omega) fun ⟨h1, h2, h3⟩ => ?_
      refine emp_no em (x := (i : Int)) (y := 1) fun r hr => ?_
      simp only [rows2, List.mem_cons, List.not_mem_nil, or_false] at hr
      rcases hr with rfl | rfl | rfl | rfl | rfl
      · show (-1) * (i : Int) + 0 * 1 ≤ -1
        omega
      · show 1 * (i : Int) + 0 * 1 ≤ (q : Int) - 1
        omega
      · show 0 * (i : Int) + (-1) * 1 ≤ -1
        omega
      · show 0 * (i : Int) + 1 * 1 ≤ (p : Int) - 1
        omega
      · show (0 - (p : Int)) * (i : Int) + q * 1 ≤ 0
        grind
  · have in_ : ∀ x, InX (rows2 p q) x 1 ↔ 1 ≤ x ∧ x < q ∧ (2 : Int) ≤ p ∧ (q : Int) ≤ p * x := fun x => by
      unfold InX
      rw [up2 hq', down2 hq']
      constructor
      · rintro ⟨h1, h2⟩
        have k1 := h1 (-1, 0, -1) (by simp [rows2]) rfl
        have k2 := h1 (1, 0, (q : Int) - 1) (by simp [rows2]) rfl
        have k3 := h2 ⟨0, 1, (p : Int) - 1, 3⟩ (by simp) _ (List.mem_singleton.mpr rfl)
        have k4 := h2 ⟨0 - (p : Int), q, 0, 4⟩ (by simp) _ (List.mem_singleton.mpr rfl)
        dsimp only at k1 k2 k3 k4
        refine ⟨by omega, by omega, by omega, ?_⟩
        grind
      · rintro ⟨h0, h1, h2, h3⟩
        refine ⟨fun r hr z => ?_, fun qq hqq r hr => ?_⟩
        · simp only [rows2, List.mem_cons, List.not_mem_nil, or_false] at hr
          rcases hr with rfl | rfl | rfl | rfl | rfl
          · show (-1) * x ≤ (-1) * 1
            omega
          · show 1 * x ≤ ((q : Int) - 1) * 1
            omega
          · exact absurd z (by decide)
          · exact absurd (show (1 : Int) = 0 from z) (by decide)
          · have z : (q : Int) = 0 := z
            omega
        · rw [List.mem_singleton.mp hr]
          simp only [List.mem_cons, List.not_mem_nil, or_false] at hqq
          rcases hqq with rfl | rfl
          · dsimp only
            omega
          · dsimp only
            grind
    have e1 : ∀ x, first ≤ x → x ≤ last → fU x + fL x + 1 = ((p : Int) * x + 0) / q := fun x h1 h2 => by
      have w := (in_ x).mp ((inx x).mp ⟨h1, h2⟩)
      obtain ⟨u1, u2⟩ := mU x
      have l := (mL x).1
      rw [up2 hq'] at u1 u2
      rw [down2 hq'] at l
      obtain ⟨r, hr, e'⟩ := l
      rw [List.mem_singleton.mp hr] at e'
      obtain ⟨t, ht, e⟩ := u1
      have a1 := u2 ⟨0, 1, (p : Int) - 1, 3⟩ (by simp)
      have a2 := u2 ⟨0 - (p : Int), q, 0, 4⟩ (by simp)
      have f1 : flo ⟨0, 1, (p : Int) - 1, 3⟩ x = (p : Int) - 1 := by
        unfold flo
        simp
      have f2 : flo ⟨0 - (p : Int), q, 0, 4⟩ x = ((p : Int) * x + 0) / q := by
        unfold flo
        dsimp only
        congr 1
        grind
      have f3 : flo ⟨0, 1, -1, 2⟩ x = -1 := by
        unfold flo
        simp
      have le : ((p : Int) * x + 0) / q ≤ (p : Int) - 1 := by
        have : ((p : Int) * x + 0) / q < p := Int.ediv_lt_of_lt_mul hq' (by
          have := Int.mul_lt_mul_of_pos_left w.2.1 (show (0 : Int) < p by omega)
          omega)
        omega
      rw [f1] at a1
      rw [f2] at a2
      rw [f3] at e'
      simp only [List.mem_cons, List.not_mem_nil, or_false] at ht
      rcases ht with rfl | rfl
      · rw [f1] at e
        omega
      · rw [f2] at e
        omega
    rw [upTo_congr e1]
    unfold fsum
    refine window (f := fun x => ((p : Int) * x + 0) / q) (N := q) (fun x h1 h2 => ?_) (fun x h0 h1 hn => ?_) near
    · have := (in_ x).mp ((inx x).mp ⟨h1, h2⟩)
      omega
    · exact zero x h0 h1 fun ⟨c1, c2, c3⟩ => hn ((inx x).mpr ((in_ x).mpr ⟨c1, h1, c2, c3⟩))
theorem boxed1 {a b m many : Int} (hm : 0 < m) : Boxed (rows1 a b m many) := by
  refine ⟨?_, ?_, ⟨(1, 0, many - 1), by simp [rows1], rfl, by show (0 : Int) < 1; decide⟩, ⟨(-1, 0, 0), by simp [rows1], rfl, by decide⟩⟩
  · rw [up1 hm]
    exact fun e => nomatch e
  · rw [down1 hm]
    exact fun e => nomatch e
theorem boxed2 {p q : Int} (hq : 0 < q) : Boxed (rows2 p q) := by
  refine ⟨?_, ?_, ⟨(1, 0, q - 1), by simp [rows2], rfl, by show (0 : Int) < 1; decide⟩, ⟨(-1, 0, -1), by simp [rows2], rfl, by decide⟩⟩
  · rw [up2 hq]
    exact fun e => nomatch e
  · rw [down2 hq]
    exact fun e => nomatch e
end
end K29

namespace K29
open PySem PySem.Spec PyProof.Rows L2 My
local macro_rules | `(tactic| walk_at "side") => `(tactic| (first
  | assumption
  | (refine OkMod.mk ?_; omega)
  | (refine mulOkL ?_ ?_ <;> omega)
  | (refine mulOkR ?_ ?_ <;> omega)
  | (refine divOk ?_ ?_ <;> omega)))
local macro_rules | `(tactic| walk_at "rd") => `(tactic| (first
  | with_reducible refine ⟨_, rfl, ?_⟩
  | refine ⟨_, rfl, ?_⟩
  | refine ⟨_, _, rfl, rfl, ?_⟩
  | refine And.intro (by walk_at "side") ?_
  | refine ⟨_, _, rfl, asm (by assumption), ?_⟩
  | refine ⟨_, _, rfl, asm ?_⟩))
section
variable {P : Program} {w : World} {K : PySem.W.Frag} {mg : Str → Option Value} {base : Heap}

open M46
/-! ### the law -/
def spLaw (K : PySem.W.Frag) : Sp := fun vs H Q _ => ∃ (a : Addr) (ns : List Int), vs = [.ref a] ∧ SqL K H a (ns.map V.int) ∧ ns.length ≤ 63 ∧ ∀ H', Q (.bl true) H'
theorem bd_small {i : Int} (h0 : -(10 ^ 30) < i) (h1 : i < 10 ^ 30) : Bd i := by
  unfold Bd
  have : (10 : Nat) ^ 30 < 2 ^ 1000 := by decide +kernel
  omega
theorem small40 {i : Int} (h0 : -(10 ^ 30) < i) (h1 : i < 10 ^ 30) : i.natAbs < 10 ^ 40 := by omega
theorem nums1 {a b m many : Int} (h : ∀ i ∈ [a, b, m, many], -(10 ^ 20) < i ∧ i < 10 ^ 20) : ∀ n ∈ nums (rows1 a b m many), n.natAbs < 10 ^ 40 := by
  intro n hn
  have ha := h a (by simp)
  have hb := h b (by simp)
  have hm := h m (by simp)
  have hy := h many (by simp)
  simp only [nums, rows1, List.flatMap_cons, List.flatMap_nil, List.cons_append, List.nil_append, List.append_nil, List.mem_cons, List.not_mem_nil, or_false] at hn
  rcases hn with rfl | rfl | rfl | rfl | rfl | rfl | rfl | rfl | rfl | rfl | rfl | rfl <;> omega
theorem nums2 {p q : Int} (hp : -(10 ^ 20) < p ∧ p < 10 ^ 20) (hq : -(10 ^ 20) < q ∧ q < 10 ^ 20) : ∀ n ∈ nums (rows2 p q), n.natAbs < 10 ^ 40 := by
  intro n hn
  simp only [nums, rows2, List.flatMap_cons, List.flatMap_nil, List.cons_append, List.nil_append, List.append_nil, List.mem_cons, List.not_mem_nil, or_false] at hn
  rcases hn with rfl | rfl | rfl | rfl | rfl | rfl | rfl | rfl | rfl | rfl | rfl | rfl | rfl | rfl | rfl <;> omega
theorem ok_law {f f1 f2 f3 f4 f5 f6 C : Addr} {fd fd1 fd2 fd3 fd4 fd5 fd6 : FuncData} (T : Nm mg) (C__law_take : Has P w K mg base "_law_take" 2 ["draw", "many"] (spTake K) f1 fd1) (C__law_long : Has P w K mg base "_law_long" 3 ["draw", "figures_v"] (spLong K) f2 fd2) (C__law_bezout : Has P w K mg base "_law_bezout" 1 ["one", "other"] (spBez K) f3 fd3)
    (C_Region : Made P w K mg base "Region" 4 ["self", "rows"] (spRegI K C) C f4 fd4) (C_count : HasX P w K mg base "count" 15 ["region"] (spCount K C) f5 fd5) (C_total : Has P w K mg base "total" 3 ["a", "b", "m", "many"] spTotal f6 fd6)
    (F : Fun K "law" "law" s_law f fd) : FnOk P w K mg base CX0 17 f fd ["script"] (spLaw K) := by
  refine F.ok sc_law (fun vs H Q E h => ?_) (fun cdv A outer s H vs Q E hr h => ?_)
  · obtain ⟨a, ns, rfl, _⟩ := h
    rfl
  · obtain ⟨sc, ns, rfl, hS, hl, qq⟩ := h
    refine ⟨_, (pss_cons (ps_set (i := 1) sc_law.nd rfl (Or.inl rfl) (pe_lst (pa_cons (pv 0) (pa_cons pe_int pa_nil))))
    (pss_cons (ps_par3 (i := 2) (j := 3) (l := 4) (by rfl) sc_law.nd rfl rfl rfl (by decide) (by decide) (by decide) rfl rfl rfl (pa_cons (pe_callB call_absN (by rfl) T.abs (by decide +kernel) (pa_cons (pe_call C__law_long.G (hr.mono (by decide)) (by rfl) C__law_long.g C__law_long.k C__law_long.b .nil pass0 (pa_cons (pv 1) (pa_cons pe_int pa_nil))) pa_nil)) (pa_cons (pe_op op_add pe_int (pe_callB call_absN (by rfl) T.abs (by decide +kernel) (pa_cons (pe_call C__law_long.G (hr.mono (by decide)) (by rfl) C__law_long.g C__law_long.k C__law_long.b .nil pass0 (pa_cons (pv 1) (pa_cons pe_int pa_nil))) pa_nil))) (pa_cons (pe_op op_add pe_int (pe_call C__law_take.G (hr.mono (by decide)) (by rfl) C__law_take.g C__law_take.k C__law_take.b .nil pass0 (pa_cons (pv 1) (pa_cons pe_int pa_nil)))) pa_nil))) (by rfl))
    (pss_cons (ps_set (i := 5) sc_law.nd rfl (Or.inl rfl) (pe_callB call_absN (by rfl) T.abs (by decide +kernel) (pa_cons (pe_call C__law_long.G (hr.mono (by decide)) (by rfl) C__law_long.g C__law_long.k C__law_long.b .nil pass0 (pa_cons (pv 1) (pa_cons pe_int pa_nil))) pa_nil)))
    (pss_cons (ps_set (i := 6) sc_law.nd rfl (Or.inl rfl) (pe_make C_Region.M C_Region.G (hr.mono (by decide)) (by rfl) C_Region.g C_Region.b .nil pass0 (pa_cons (pe_lst (pa_cons (pe_tup (pa_cons (pe_un un_neg pe_int) (pa_cons pe_int (pa_cons pe_int pa_nil)))) (pa_cons (pe_tup (pa_cons pe_int (pa_cons pe_int (pa_cons (pe_op op_sub (pv 4) pe_int) pa_nil)))) (pa_cons (pe_tup (pa_cons pe_int (pa_cons (pe_un un_neg pe_int) (pa_cons (pe_un un_neg pe_int) pa_nil)))) (pa_cons (pe_tup (pa_cons (pe_op op_sub pe_int (pv 2)) (pa_cons (pv 3) (pa_cons (pv 5) pa_nil)))) pa_nil))))) pa_nil)))
    (pss_cons (ps_if (pt_cmpR op_ne (pe_call C_count.G (hr.mono (by decide)) (by rfl) C_count.g C_count.k C_count.b .nil passL (pa_cons (pv 6) pa_nil)) (pe_call C_total.G (hr.mono (by decide)) (by rfl) C_total.g C_total.k C_total.b .nil pass0 (pa_cons (pv 2) (pa_cons (pv 5) (pa_cons (pv 3) (pa_cons (pv 4) pa_nil))))) (nomark _))
      (pss_one (ps_ret pe_bl))
      pss_nil)
    (pss_cons (ps_par (i := 2) (j := 3) (by rfl) sc_law.nd rfl rfl (by decide) rfl rfl (pa_cons (pe_op op_add pe_int (pe_callB call_absN (by rfl) T.abs (by decide +kernel) (pa_cons (pe_call C__law_long.G (hr.mono (by decide)) (by rfl) C__law_long.g C__law_long.k C__law_long.b .nil pass0 (pa_cons (pv 1) (pa_cons pe_int pa_nil))) pa_nil))) (pa_cons (pe_op op_add pe_int (pe_callB call_absN (by rfl) T.abs (by decide +kernel) (pa_cons (pe_call C__law_long.G (hr.mono (by decide)) (by rfl) C__law_long.g C__law_long.k C__law_long.b .nil pass0 (pa_cons (pv 1) (pa_cons pe_int pa_nil))) pa_nil))) pa_nil)) (by rfl))
    (pss_cons (ps_set (i := 7) sc_law.nd rfl (Or.inl rfl) (pe_ix ix_tup (pe_call C__law_bezout.G (hr.mono (by decide)) (by rfl) C__law_bezout.g C__law_bezout.k C__law_bezout.b .nil pass0 (pa_cons (pv 2) (pa_cons (pv 3) pa_nil))) pe_int (fun _ _ => rfl)))
    (pss_cons (ps_par (i := 8) (j := 9) (by rfl) sc_law.nd rfl rfl (by decide) rfl rfl (pa_cons (pe_op op_fdivA (pv 2) (pv 7)) (pa_cons (pe_op op_fdivA (pv 3) (pv 7)) pa_nil)) (by rfl))
    (pss_cons (ps_if (pt_cmpR op_ne (pe_op op_add (pe_call C_total.G (hr.mono (by decide)) (by rfl) C_total.g C_total.k C_total.b .nil pass0 (pa_cons (pv 8) (pa_cons pe_int (pa_cons (pv 9) (pa_cons (pv 9) pa_nil))))) (pe_call C_total.G (hr.mono (by decide)) (by rfl) C_total.g C_total.k C_total.b .nil pass0 (pa_cons (pv 9) (pa_cons pe_int (pa_cons (pv 8) (pa_cons (pv 8) pa_nil)))))) (pe_op op_mulA (pe_op op_sub (pv 8) pe_int) (pe_op op_sub (pv 9) pe_int)) (nomark _))
      (pss_one (ps_ret pe_bl))
      pss_nil)
    (pss_cons (ps_if (pt_cmpR op_ne (pe_op op_mulA pe_int (pe_call C_total.G (hr.mono (by decide)) (by rfl) C_total.g C_total.k C_total.b .nil pass0 (pa_cons (pv 8) (pa_cons pe_int (pa_cons (pv 9) (pa_cons (pv 9) pa_nil)))))) (pe_op op_mulA (pe_op op_sub (pv 8) pe_int) (pe_op op_sub (pv 9) pe_int)) (nomark _))
      (pss_one (ps_ret pe_bl))
      pss_nil)
    (pss_cons (ps_set (i := 10) sc_law.nd rfl (Or.inl rfl) (pe_make C_Region.M C_Region.G (hr.mono (by decide)) (by rfl) C_Region.g C_Region.b .nil pass0 (pa_cons (pe_lst (pa_cons (pe_tup (pa_cons (pe_un un_neg pe_int) (pa_cons pe_int (pa_cons (pe_un un_neg pe_int) pa_nil)))) (pa_cons (pe_tup (pa_cons pe_int (pa_cons pe_int (pa_cons (pe_op op_sub (pv 9) pe_int) pa_nil)))) (pa_cons (pe_tup (pa_cons pe_int (pa_cons (pe_un un_neg pe_int) (pa_cons (pe_un un_neg pe_int) pa_nil)))) (pa_cons (pe_tup (pa_cons pe_int (pa_cons pe_int (pa_cons (pe_op op_sub (pv 8) pe_int) pa_nil)))) (pa_cons (pe_tup (pa_cons (pe_op op_sub pe_int (pv 8)) (pa_cons (pv 9) (pa_cons pe_int pa_nil)))) pa_nil)))))) pa_nil)))
    (pss_one (ps_ret (pe_cmpR op_eq (pe_call C_count.G (hr.mono (by decide)) (by rfl) C_count.g C_count.k C_count.b .nil passL (pa_cons (pv 10) pa_nil)) (pe_call C_total.G (hr.mono (by decide)) (by rfl) C_total.g C_total.k C_total.b .nil pass0 (pa_cons (pv 8) (pa_cons pe_int (pa_cons (pv 9) (pa_cons (pv 9) pa_nil))))) (nomark _))))))))))))))), ?_⟩
    refine ⟨_, rfl, (by show 2 ≤ sizeLine; decide), fun dr nd => ?_⟩
    have D0 : DrawAt K (upd H dr (.lst [.ref sc, .int 0])) dr sc ns := ⟨0, upd_same, (same_upd nd).seq hS, hl⟩
    clear hS nd
    revert D0
    generalize upd H dr (.lst [.ref sc, .int 0]) = H0
    intro D0
    -- a, m, many, b
    refine ⟨_, rfl, dr, sc, 3, ns, rfl, D0, by decide, by decide, fun a0 H1 ha K1 D1 => ⟨a0, rfl, ?_⟩⟩
    refine ⟨_, rfl, dr, sc, 3, ns, rfl, D1, by decide, by decide, fun m0 H2 hm K2 D2 => ⟨m0, rfl, _, _, rfl, rfl, ?_⟩⟩
    refine ⟨_, rfl, dr, sc, 400, ns, rfl, D2, by decide, fun t0 H3 t00 t01 K3 D3 => ⟨_, _, rfl, rfl, ?_⟩⟩
    refine ⟨_, _, _, rfl, ?_⟩
    refine ⟨_, rfl, dr, sc, 3, ns, rfl, D3, by decide, by decide, fun b0 H4 hb K4 D4 => ⟨b0, rfl, ?_⟩⟩
    obtain ⟨many, hmany⟩ := Int.eq_ofNat_of_zero_le (show 0 ≤ 1 + t0 by omega)
    have ha : a0.natAbs < 1000 := ha
    have hm : m0.natAbs < 1000 := hm
    have hb : b0.natAbs < 1000 := hb
    dsimp only
    rw [hmany]
    obtain ⟨a, ea⟩ : ∃ z : Int, z = (a0.natAbs : Int) := ⟨_, rfl⟩
    obtain ⟨m, em⟩ : ∃ z : Int, z = 1 + (m0.natAbs : Int) := ⟨_, rfl⟩
    obtain ⟨b, eb⟩ : ∃ z : Int, z = (b0.natAbs : Int) := ⟨_, rfl⟩
    rw [← ea, ← em, ← eb]
    have a1 : 0 ≤ a ∧ a < 1000 := by omega
    have m1 : 0 < m ∧ m ≤ 1000 := by omega
    have b1 : 0 ≤ b ∧ b < 1000 := by omega
    have y1 : 1 ≤ many ∧ many ≤ 400 := by omega
    clear ha hm hb ea em eb hmany t00 t01 D0 D1 D2 D3 K1 K2 K3 K4
    -- the region under the line
    refine ⟨_, rfl, by show 3 ≤ sizeLine; decide, fun p1 n1 => ?_⟩
    have s1 := same_upd (o := .tup [.int (-1), .int 0, .int 0]) n1
    have h1 : upd H4 p1 (.tup [.int (-1), .int 0, .int 0]) p1 = _ := upd_same
    generalize upd H4 p1 (.tup [.int (-1), .int 0, .int 0]) = H5 at *
    refine ⟨_, rfl, _, _, rfl, rfl, by show 3 ≤ sizeLine; decide, fun p2 n2 => ?_⟩
    have s2 := same_upd (o := .tup [.int 1, .int 0, .int ((many : Int) - 1)]) n2
    have h2 : upd H5 p2 (.tup [.int 1, .int 0, .int ((many : Int) - 1)]) p2 = _ := upd_same
    generalize upd H5 p2 (.tup [.int 1, .int 0, .int ((many : Int) - 1)]) = H6 at *
    refine ⟨_, rfl, _, rfl, by show 3 ≤ sizeLine; decide, fun p3 n3 => ?_⟩
    have s3 := same_upd (o := .tup [.int 0, .int (-1), .int (-1)]) n3
    have h3 : upd H6 p3 (.tup [.int 0, .int (-1), .int (-1)]) p3 = _ := upd_same
    generalize upd H6 p3 (.tup [.int 0, .int (-1), .int (-1)]) = H7 at *
    refine ⟨_, rfl, _, _, rfl, rfl, _, rfl, _, rfl, by show 3 ≤ sizeLine; decide, fun p4 n4 => ?_⟩
    have s4 := same_upd (o := .tup [.int (0 - a), .int m, .int b]) n4
    have h4 : upd H7 p4 (.tup [.int (0 - a), .int m, .int b]) p4 = _ := upd_same
    generalize upd H7 p4 (.tup [.int (0 - a), .int m, .int b]) = H8 at *
    refine ⟨by show 4 ≤ sizeLine; decide, fun L nL => ?_⟩
    have s5 := same_upd (o := .lst [.ref p1, .ref p2, .ref p3, .ref p4]) nL
    have h5 : upd H8 L (.lst [.ref p1, .ref p2, .ref p3, .ref p4]) L = _ := upd_same
    generalize upd H8 L (.lst [.ref p1, .ref p2, .ref p3, .ref p4]) = H9 at *
    have hrs : RowsV K H9 [.ref p1, .ref p2, .ref p3, .ref p4] (rows1 a b m many) :=
      .cons ⟨p1, rfl, .inl (.inl (s5 _ _ (s4 _ _ (s3 _ _ (s2 _ _ h1)))))⟩ (.cons ⟨p2, rfl, .inl (.inl (s5 _ _ (s4 _ _ (s3 _ _ h2))))⟩ (.cons ⟨p3, rfl, .inl (.inl (s5 _ _ (s4 _ _ h3)))⟩ (.cons ⟨p4, rfl, .inl (.inl (s5 _ _ h4))⟩ .nil)))
    have D9 := D4.same (s1.trans (s2.trans (s3.trans (s4.trans s5))))
    clear s1 s2 s3 s4 s5 h1 h2 h3 h4 D4 n1 n2 n3 n4 nL
    refine fun x dx nx nd ne => ?_
    have S2 : Same H9 (upd (upd H9 dx (.own x)) x (.ins C dx [])) := same_make nx nd ne (Keep.refl x _)
    refine ⟨x, dx, L, _, _, rfl, upd_same, S2.seq (.inl (.inl h5)), hrs.same S2, fun H10 k10 reg => ⟨rfl, ?_⟩⟩
    have s10 := same_make nx nd ne k10
    have D10 := D9.same s10
    clear S2 nx nd ne k10 s10 D9 hrs h5
    refine ⟨_, rfl, x, _, rfl, reg, by show 4 ≤ 40; decide, nums1 (fun i hi => ?_), boxed1 m1.1, fun H11 n s11 c => ?_⟩
    · simp only [List.mem_cons, List.not_mem_nil, or_false] at hi
      rcases hi with rfl | rfl | rfl | rfl <;> omega
    have D11 := D10.same s11
    refine ⟨_, rfl, _, rfl, _, rfl, _, rfl, a, b, m, many, rfl, bd_small (by omega) (by omega), bd_small (by omega) (by omega), bd_small (by omega) (by omega), bd_small (by omega) (by omega), m1.1, by omega, fun H12 s12 => ?_⟩
    have D12 := D11.same s12
    rw [count1 a1.1 b1.1 m1.1 c, Int.toNat_natCast]
    refine ⟨rfl, _, rfl, ?_⟩
    rw [decide_eq_true rfl]
    refine iteF ?_
    clear reg c D10 D11 s11 s12 a1 m1 b1 y1
    -- a, m
    refine ⟨_, rfl, dr, sc, 12, ns, rfl, D12, by decide, by decide, fun a0 H1 ha K1 D1 => ⟨a0, rfl, _, _, rfl, rfl, ?_⟩⟩
    refine ⟨_, rfl, dr, sc, 12, ns, rfl, D1, by decide, by decide, fun m0 H2 hm K2 D2 => ⟨m0, rfl, _, _, rfl, rfl, ?_⟩⟩
    refine ⟨_, _, rfl, ?_⟩
    have ha : a0.natAbs < 10 ^ 12 := ha
    have hm : m0.natAbs < 10 ^ 12 := hm
    dsimp only
    obtain ⟨A', eA⟩ : ∃ z : Nat, z = 1 + a0.natAbs := ⟨_, rfl⟩
    obtain ⟨M', eM⟩ : ∃ z : Nat, z = 1 + m0.natAbs := ⟨_, rfl⟩
    rw [show (1 : Int) + (a0.natAbs : Int) = (A' : Int) by omega, show (1 : Int) + (m0.natAbs : Int) = (M' : Int) by omega]
    have A1 : 0 < A' ∧ A' ≤ 10 ^ 12 := by omega
    have M1 : 0 < M' ∧ M' ≤ 10 ^ 12 := by omega
    clear ha hm eA eM D12 D1 K1 K2
    refine ⟨_, rfl, _, rfl, A', M', rfl, A1.1, M1.1, by omega, by omega, fun t xx yy H3 s3 ht => ⟨t, _, 0, _, rfl, rfl, .inl (.inl ht), rfl, ?_⟩⟩
    have D3 := D2.same s3
    have g0 : 0 < Nat.gcd A' M' := Nat.gcd_pos_of_pos_left _ A1.1
    have gA : Nat.gcd A' M' ≤ A' := Nat.gcd_le_left _ A1.1
    have p0 : 0 < A' / Nat.gcd A' M' := Nat.div_pos gA g0
    have q0 : 0 < M' / Nat.gcd A' M' := Nat.div_pos (Nat.gcd_le_right _ M1.1) g0
    have cop : Nat.gcd (A' / Nat.gcd A' M') (M' / Nat.gcd A' M') = 1 := Nat.coprime_div_gcd_div_gcd g0
    have pA := Nat.div_le_self A' (Nat.gcd A' M')
    have qM := Nat.div_le_self M' (Nat.gcd A' M')
    refine ⟨_, rfl, _, rfl, _, _, rfl, rfl, divOk (by omega) (by omega), ?_⟩
    refine ⟨_, rfl, _, rfl, _, _, rfl, rfl, divOk (by omega) (by omega), ?_⟩
    refine ⟨_, _, rfl, ?_⟩
    dsimp only
    rw [show (A' : Int) / ((Nat.gcd A' M' : Nat) : Int) = ((A' / Nat.gcd A' M' : Nat) : Int) from rfl, show (M' : Int) / ((Nat.gcd A' M' : Nat) : Int) = ((M' / Nat.gcd A' M' : Nat) : Int) from rfl]
    generalize A' / Nat.gcd A' M' = p at *
    generalize M' / Nat.gcd A' M' = q at *
    clear ht s3 D2
    have bp : Bd (p : Int) := bd_small (by omega) (by omega)
    have bq : Bd (q : Int) := bd_small (by omega) (by omega)
    have bz : Bd 0 := bd_small (by decide) (by decide)
    have hs1 := half_sum cop q0
    have hs2 := half_sum (p := q) (q := p) (by rw [Nat.gcd_comm]; exact cop) p0
    have mu : OkMul ((p : Int) - 1) ((q : Int) - 1) := mulOkL (by omega) (by omega)
    -- both sums
    refine ⟨_, rfl, _, rfl, _, rfl, p, 0, q, q, rfl, bp, bz, bq, bq, by omega, by omega, fun H4 s4 => ?_⟩
    refine ⟨_, rfl, _, rfl, _, rfl, q, 0, p, p, rfl, bq, bz, bp, bp, by omega, by omega, fun H5 s5 => ?_⟩
    refine ⟨_, _, rfl, rfl, _, rfl, _, _, rfl, rfl, _, rfl, _, _, rfl, rfl, _, _, rfl, rfl, mu, rfl, _, rfl, ?_⟩
    rw [Int.toNat_natCast, Int.toNat_natCast, decide_eq_true (show V.int (fsum p 0 q q + fsum q 0 p p) = V.int (((p : Int) - 1) * ((q : Int) - 1)) by
      congr 1
      rw [Int.mul_comm ((q : Int) - 1)] at hs2
      omega)]
    refine iteF ?_
    have D5 := D3.same (s4.trans s5)
    refine ⟨_, rfl, _, rfl, _, rfl, p, 0, q, q, rfl, bp, bz, bq, bq, by omega, by omega, fun H6 s6 => ?_⟩
    refine ⟨_, _, rfl, rfl, mulOkL (by decide) (by decide), _, rfl, _, _, rfl, rfl, _, rfl, _, _, rfl, rfl, _, _, rfl, rfl, mu, rfl, _, rfl, ?_⟩
    rw [Int.toNat_natCast, decide_eq_true (show V.int (2 * fsum p 0 q q) = V.int (((p : Int) - 1) * ((q : Int) - 1)) by rw [hs1])]
    refine iteF ?_
    have D6 := D5.same s6
    clear hs1 hs2 mu D3 D5 s4 s5 s6
    -- the box
    refine ⟨_, rfl, _, rfl, by show 3 ≤ sizeLine; decide, fun p1 n1 => ?_⟩
    have s1 := same_upd (o := .tup [.int (-1), .int 0, .int (-1)]) n1
    have h1 : upd H6 p1 (.tup [.int (-1), .int 0, .int (-1)]) p1 = _ := upd_same
    generalize upd H6 p1 (.tup [.int (-1), .int 0, .int (-1)]) = H7 at *
    refine ⟨_, rfl, _, _, rfl, rfl, by show 3 ≤ sizeLine; decide, fun p2 n2 => ?_⟩
    have s2 := same_upd (o := .tup [.int 1, .int 0, .int ((q : Int) - 1)]) n2
    have h2 : upd H7 p2 (.tup [.int 1, .int 0, .int ((q : Int) - 1)]) p2 = _ := upd_same
    generalize upd H7 p2 (.tup [.int 1, .int 0, .int ((q : Int) - 1)]) = H8 at *
    refine ⟨_, rfl, _, rfl, by show 3 ≤ sizeLine; decide, fun p3 n3 => ?_⟩
    have s3 := same_upd (o := .tup [.int 0, .int (-1), .int (-1)]) n3
    have h3 : upd H8 p3 (.tup [.int 0, .int (-1), .int (-1)]) p3 = _ := upd_same
    generalize upd H8 p3 (.tup [.int 0, .int (-1), .int (-1)]) = H9 at *
    refine ⟨_, rfl, _, _, rfl, rfl, by show 3 ≤ sizeLine; decide, fun p4 n4 => ?_⟩
    have s4 := same_upd (o := .tup [.int 0, .int 1, .int ((p : Int) - 1)]) n4
    have h4 : upd H9 p4 (.tup [.int 0, .int 1, .int ((p : Int) - 1)]) p4 = _ := upd_same
    generalize upd H9 p4 (.tup [.int 0, .int 1, .int ((p : Int) - 1)]) = H10 at *
    refine ⟨_, rfl, _, _, rfl, rfl, _, rfl, by show 3 ≤ sizeLine; decide, fun p5 n5 => ?_⟩
    have s5 := same_upd (o := .tup [.int (0 - (p : Int)), .int (q : Int), .int 0]) n5
    have h5 : upd H10 p5 (.tup [.int (0 - (p : Int)), .int (q : Int), .int 0]) p5 = _ := upd_same
    generalize upd H10 p5 (.tup [.int (0 - (p : Int)), .int (q : Int), .int 0]) = H11 at *
    refine ⟨by show 5 ≤ sizeLine; decide, fun L nL => ?_⟩
    have s6 := same_upd (o := .lst [.ref p1, .ref p2, .ref p3, .ref p4, .ref p5]) nL
    have h6 : upd H11 L (.lst [.ref p1, .ref p2, .ref p3, .ref p4, .ref p5]) L = _ := upd_same
    generalize upd H11 L (.lst [.ref p1, .ref p2, .ref p3, .ref p4, .ref p5]) = H12 at *
    have hrs : RowsV K H12 [.ref p1, .ref p2, .ref p3, .ref p4, .ref p5] (rows2 p q) :=
      .cons ⟨p1, rfl, .inl (.inl (s6 _ _ (s5 _ _ (s4 _ _ (s3 _ _ (s2 _ _ h1))))))⟩ (.cons ⟨p2, rfl, .inl (.inl (s6 _ _ (s5 _ _ (s4 _ _ (s3 _ _ h2)))))⟩ (.cons ⟨p3, rfl, .inl (.inl (s6 _ _ (s5 _ _ (s4 _ _ h3))))⟩ (.cons ⟨p4, rfl, .inl (.inl (s6 _ _ (s5 _ _ h4)))⟩ (.cons ⟨p5, rfl, .inl (.inl (s6 _ _ h5))⟩ .nil))))
    clear s1 s2 s3 s4 s5 s6 h1 h2 h3 h4 h5 D6 n1 n2 n3 n4 n5 nL
    refine fun x dx nx nd ne => ?_
    have S2 : Same H12 (upd (upd H12 dx (.own x)) x (.ins C dx [])) := same_make nx nd ne (Keep.refl x _)
    refine ⟨x, dx, L, _, _, rfl, upd_same, S2.seq (.inl (.inl h6)), hrs.same S2, fun H13 k13 reg => ⟨rfl, ?_⟩⟩
    refine ⟨_, rfl, x, _, rfl, reg, by show 5 ≤ 40; decide, nums2 (by omega) (by omega), boxed2 (by omega), fun H14 n s14 c => ?_⟩
    refine ⟨_, rfl, _, rfl, _, rfl, p, 0, q, q, rfl, bp, bz, bq, bq, by omega, by omega, fun H15 s15 => ⟨rfl, ?_⟩⟩
    rw [count2 p0 q0 c, Int.toNat_natCast, decide_eq_true rfl]
    exact qq _
end
end K29

namespace K29
open PySem PySem.Spec PyProof.Rows L2 My
/-! ### what the top has written -/
open PySem.W PySem.Calls PySem.HandSPX in
theorem all_mk {l : PySem.W.OpenLaw} {w : World} {K : PySem.W.Frag} {h : Heap} {mg : Str → Option Value} {fa C_Region_ C_Outline_ C_TooLarge_ : Addr} (X : K.In h) (G : h.Ns mainGlobals mg) (hfa : mg "law" = some (.ref fa))
    {f_is_line_row : Addr} {od_is_line_row an_is_line_row : Option Addr} {sl_is_line_row : Array (Option Value)} {oc_is_line_row kV_is_line_row dc_is_line_row pm_is_line_row cd_is_line_row ct_is_line_row : Value}
    (a_is_line_row : PySem.W.nsIn K mainGlobals "is_line_row" = some (some (.ref f_is_line_row)))
    (l_is_line_row : K.lookup f_is_line_row = some ⟨oc_is_line_row, od_is_line_row, .func (PySem.W.fnOf "is_line_row" "is_line_row" (defArgs s_is_line_row) (defBody s_is_line_row) (defScope s_is_line_row) .none kV_is_line_row dc_is_line_row pm_is_line_row an_is_line_row cd_is_line_row ct_is_line_row), sl_is_line_row⟩)
    (c_is_line_row : PySem.W.codeIn K cd_is_line_row "is_line_row" = true)
    (k_is_line_row : PySem.W.keepIn K (.ref f_is_line_row) = true)
    {f_line_rows : Addr} {od_line_rows an_line_rows : Option Addr} {sl_line_rows : Array (Option Value)} {oc_line_rows kV_line_rows dc_line_rows pm_line_rows cd_line_rows ct_line_rows : Value}
    (a_line_rows : PySem.W.nsIn K mainGlobals "line_rows" = some (some (.ref f_line_rows)))
    (l_line_rows : K.lookup f_line_rows = some ⟨oc_line_rows, od_line_rows, .func (PySem.W.fnOf "line_rows" "line_rows" (defArgs s_line_rows) (defBody s_line_rows) (defScope s_line_rows) .none kV_line_rows dc_line_rows pm_line_rows an_line_rows cd_line_rows ct_line_rows), sl_line_rows⟩)
    (c_line_rows : PySem.W.codeIn K cd_line_rows "line_rows" = true)
    (k_line_rows : PySem.W.keepIn K (.ref f_line_rows) = true)
    {f__law_number : Addr} {od__law_number an__law_number : Option Addr} {sl__law_number : Array (Option Value)} {oc__law_number kV__law_number dc__law_number pm__law_number cd__law_number ct__law_number : Value}
    (a__law_number : PySem.W.nsIn K mainGlobals "_law_number" = some (some (.ref f__law_number)))
    (l__law_number : K.lookup f__law_number = some ⟨oc__law_number, od__law_number, .func (PySem.W.fnOf "_law_number" "_law_number" (defArgs s__law_number) (defBody s__law_number) (defScope s__law_number) .none kV__law_number dc__law_number pm__law_number an__law_number cd__law_number ct__law_number), sl__law_number⟩)
    (c__law_number : PySem.W.codeIn K cd__law_number "_law_number" = true)
    (k__law_number : PySem.W.keepIn K (.ref f__law_number) = true)
    {f__law_take : Addr} {od__law_take an__law_take : Option Addr} {sl__law_take : Array (Option Value)} {oc__law_take kV__law_take dc__law_take pm__law_take cd__law_take ct__law_take : Value}
    (a__law_take : PySem.W.nsIn K mainGlobals "_law_take" = some (some (.ref f__law_take)))
    (l__law_take : K.lookup f__law_take = some ⟨oc__law_take, od__law_take, .func (PySem.W.fnOf "_law_take" "_law_take" (defArgs s__law_take) (defBody s__law_take) (defScope s__law_take) .none kV__law_take dc__law_take pm__law_take an__law_take cd__law_take ct__law_take), sl__law_take⟩)
    (c__law_take : PySem.W.codeIn K cd__law_take "_law_take" = true)
    (k__law_take : PySem.W.keepIn K (.ref f__law_take) = true)
    {f__law_long : Addr} {od__law_long an__law_long : Option Addr} {sl__law_long : Array (Option Value)} {oc__law_long kV__law_long dc__law_long pm__law_long cd__law_long ct__law_long : Value}
    (a__law_long : PySem.W.nsIn K mainGlobals "_law_long" = some (some (.ref f__law_long)))
    (l__law_long : K.lookup f__law_long = some ⟨oc__law_long, od__law_long, .func (PySem.W.fnOf "_law_long" "_law_long" (defArgs s__law_long) (defBody s__law_long) (defScope s__law_long) .none kV__law_long dc__law_long pm__law_long an__law_long cd__law_long ct__law_long), sl__law_long⟩)
    (c__law_long : PySem.W.codeIn K cd__law_long "_law_long" = true)
    (k__law_long : PySem.W.keepIn K (.ref f__law_long) = true)
    {f__law_bezout : Addr} {od__law_bezout an__law_bezout : Option Addr} {sl__law_bezout : Array (Option Value)} {oc__law_bezout kV__law_bezout dc__law_bezout pm__law_bezout cd__law_bezout ct__law_bezout : Value}
    (a__law_bezout : PySem.W.nsIn K mainGlobals "_law_bezout" = some (some (.ref f__law_bezout)))
    (l__law_bezout : K.lookup f__law_bezout = some ⟨oc__law_bezout, od__law_bezout, .func (PySem.W.fnOf "_law_bezout" "_law_bezout" (defArgs s__law_bezout) (defBody s__law_bezout) (defScope s__law_bezout) .none kV__law_bezout dc__law_bezout pm__law_bezout an__law_bezout cd__law_bezout ct__law_bezout), sl__law_bezout⟩)
    (c__law_bezout : PySem.W.codeIn K cd__law_bezout "_law_bezout" = true)
    (k__law_bezout : PySem.W.keepIn K (.ref f__law_bezout) = true)
    {f_law : Addr} {od_law an_law : Option Addr} {sl_law : Array (Option Value)} {oc_law kV_law dc_law pm_law cd_law ct_law : Value}
    (a_law : PySem.W.nsIn K mainGlobals "law" = some (some (.ref f_law)))
    (l_law : K.lookup f_law = some ⟨oc_law, od_law, .func (PySem.W.fnOf "law" "law" (defArgs s_law) (defBody s_law) (defScope s_law) .none kV_law dc_law pm_law an_law cd_law ct_law), sl_law⟩)
    (c_law : PySem.W.codeIn K cd_law "law" = true)
    (k_law : PySem.W.keepIn K (.ref f_law) = true)
    {f_is_number : Addr} {od_is_number an_is_number : Option Addr} {sl_is_number : Array (Option Value)} {oc_is_number kV_is_number dc_is_number pm_is_number cd_is_number ct_is_number : Value}
    (a_is_number : PySem.W.nsIn K mainGlobals "is_number" = some (some (.ref f_is_number)))
    (l_is_number : K.lookup f_is_number = some ⟨oc_is_number, od_is_number, .func (PySem.W.fnOf "is_number" "is_number" (defArgs s_is_number) (defBody s_is_number) (defScope s_is_number) .none kV_is_number dc_is_number pm_is_number an_is_number cd_is_number ct_is_number), sl_is_number⟩)
    (c_is_number : PySem.W.codeIn K cd_is_number "is_number" = true)
    (k_is_number : PySem.W.keepIn K (.ref f_is_number) = true)
    {f_check_numbers : Addr} {od_check_numbers an_check_numbers : Option Addr} {sl_check_numbers : Array (Option Value)} {oc_check_numbers kV_check_numbers dc_check_numbers pm_check_numbers cd_check_numbers ct_check_numbers : Value}
    (a_check_numbers : PySem.W.nsIn K mainGlobals "check_numbers" = some (some (.ref f_check_numbers)))
    (l_check_numbers : K.lookup f_check_numbers = some ⟨oc_check_numbers, od_check_numbers, .func (PySem.W.fnOf "check_numbers" "check_numbers" (defArgs s_check_numbers) (defBody s_check_numbers) (defScope s_check_numbers) .none kV_check_numbers dc_check_numbers pm_check_numbers an_check_numbers cd_check_numbers ct_check_numbers), sl_check_numbers⟩)
    (c_check_numbers : PySem.W.codeIn K cd_check_numbers "check_numbers" = true)
    (k_check_numbers : PySem.W.keepIn K (.ref f_check_numbers) = true)
    {f_check_from : Addr} {od_check_from an_check_from : Option Addr} {sl_check_from : Array (Option Value)} {oc_check_from kV_check_from dc_check_from pm_check_from cd_check_from ct_check_from : Value}
    (a_check_from : PySem.W.nsIn K mainGlobals "check_from" = some (some (.ref f_check_from)))
    (l_check_from : K.lookup f_check_from = some ⟨oc_check_from, od_check_from, .func (PySem.W.fnOf "check_from" "check_from" (defArgs s_check_from) (defBody s_check_from) (defScope s_check_from) .none kV_check_from dc_check_from pm_check_from an_check_from cd_check_from ct_check_from), sl_check_from⟩)
    (c_check_from : PySem.W.codeIn K cd_check_from "check_from" = true)
    (k_check_from : PySem.W.keepIn K (.ref f_check_from) = true)
    {f_power : Addr} {od_power an_power : Option Addr} {sl_power : Array (Option Value)} {oc_power kV_power dc_power pm_power cd_power ct_power : Value}
    (a_power : PySem.W.nsIn K mainGlobals "power" = some (some (.ref f_power)))
    (l_power : K.lookup f_power = some ⟨oc_power, od_power, .func (PySem.W.fnOf "power" "power" (defArgs s_power) (defBody s_power) (defScope s_power) .none kV_power dc_power pm_power an_power cd_power ct_power), sl_power⟩)
    (c_power : PySem.W.codeIn K cd_power "power" = true)
    (k_power : PySem.W.keepIn K (.ref f_power) = true)
    {f_figures : Addr} {od_figures an_figures : Option Addr} {sl_figures : Array (Option Value)} {oc_figures kV_figures dc_figures pm_figures cd_figures ct_figures : Value}
    (a_figures : PySem.W.nsIn K mainGlobals "figures" = some (some (.ref f_figures)))
    (l_figures : K.lookup f_figures = some ⟨oc_figures, od_figures, .func (PySem.W.fnOf "figures" "figures" (defArgs s_figures) (defBody s_figures) (defScope s_figures) .none kV_figures dc_figures pm_figures an_figures cd_figures ct_figures), sl_figures⟩)
    (c_figures : PySem.W.codeIn K cd_figures "figures" = true)
    (k_figures : PySem.W.keepIn K (.ref f_figures) = true)
    {f_check_size : Addr} {od_check_size an_check_size : Option Addr} {sl_check_size : Array (Option Value)} {oc_check_size kV_check_size dc_check_size pm_check_size cd_check_size ct_check_size : Value}
    (a_check_size : PySem.W.nsIn K mainGlobals "check_size" = some (some (.ref f_check_size)))
    (l_check_size : K.lookup f_check_size = some ⟨oc_check_size, od_check_size, .func (PySem.W.fnOf "check_size" "check_size" (defArgs s_check_size) (defBody s_check_size) (defScope s_check_size) .none kV_check_size dc_check_size pm_check_size an_check_size cd_check_size ct_check_size), sl_check_size⟩)
    (c_check_size : PySem.W.codeIn K cd_check_size "check_size" = true)
    (k_check_size : PySem.W.keepIn K (.ref f_check_size) = true)
    {f_check_figures : Addr} {od_check_figures an_check_figures : Option Addr} {sl_check_figures : Array (Option Value)} {oc_check_figures kV_check_figures dc_check_figures pm_check_figures cd_check_figures ct_check_figures : Value}
    (a_check_figures : PySem.W.nsIn K mainGlobals "check_figures" = some (some (.ref f_check_figures)))
    (l_check_figures : K.lookup f_check_figures = some ⟨oc_check_figures, od_check_figures, .func (PySem.W.fnOf "check_figures" "check_figures" (defArgs s_check_figures) (defBody s_check_figures) (defScope s_check_figures) .none kV_check_figures dc_check_figures pm_check_figures an_check_figures cd_check_figures ct_check_figures), sl_check_figures⟩)
    (c_check_figures : PySem.W.codeIn K cd_check_figures "check_figures" = true)
    (k_check_figures : PySem.W.keepIn K (.ref f_check_figures) = true)
    {f_below : Addr} {od_below an_below : Option Addr} {sl_below : Array (Option Value)} {oc_below kV_below dc_below pm_below cd_below ct_below : Value}
    (a_below : PySem.W.nsIn K mainGlobals "below" = some (some (.ref f_below)))
    (l_below : K.lookup f_below = some ⟨oc_below, od_below, .func (PySem.W.fnOf "below" "below" (defArgs s_below) (defBody s_below) (defScope s_below) .none kV_below dc_below pm_below an_below cd_below ct_below), sl_below⟩)
    (c_below : PySem.W.codeIn K cd_below "below" = true)
    (k_below : PySem.W.keepIn K (.ref f_below) = true)
    {f_floor_of : Addr} {od_floor_of an_floor_of : Option Addr} {sl_floor_of : Array (Option Value)} {oc_floor_of kV_floor_of dc_floor_of pm_floor_of cd_floor_of ct_floor_of : Value}
    (a_floor_of : PySem.W.nsIn K mainGlobals "floor_of" = some (some (.ref f_floor_of)))
    (l_floor_of : K.lookup f_floor_of = some ⟨oc_floor_of, od_floor_of, .func (PySem.W.fnOf "floor_of" "floor_of" (defArgs s_floor_of) (defBody s_floor_of) (defScope s_floor_of) .none kV_floor_of dc_floor_of pm_floor_of an_floor_of cd_floor_of ct_floor_of), sl_floor_of⟩)
    (c_floor_of : PySem.W.codeIn K cd_floor_of "floor_of" = true)
    (k_floor_of : PySem.W.keepIn K (.ref f_floor_of) = true)
    {f_ceil_of : Addr} {od_ceil_of an_ceil_of : Option Addr} {sl_ceil_of : Array (Option Value)} {oc_ceil_of kV_ceil_of dc_ceil_of pm_ceil_of cd_ceil_of ct_ceil_of : Value}
    (a_ceil_of : PySem.W.nsIn K mainGlobals "ceil_of" = some (some (.ref f_ceil_of)))
    (l_ceil_of : K.lookup f_ceil_of = some ⟨oc_ceil_of, od_ceil_of, .func (PySem.W.fnOf "ceil_of" "ceil_of" (defArgs s_ceil_of) (defBody s_ceil_of) (defScope s_ceil_of) .none kV_ceil_of dc_ceil_of pm_ceil_of an_ceil_of cd_ceil_of ct_ceil_of), sl_ceil_of⟩)
    (c_ceil_of : PySem.W.codeIn K cd_ceil_of "ceil_of" = true)
    (k_ceil_of : PySem.W.keepIn K (.ref f_ceil_of) = true)
    {f_parallel : Addr} {od_parallel an_parallel : Option Addr} {sl_parallel : Array (Option Value)} {oc_parallel kV_parallel dc_parallel pm_parallel cd_parallel ct_parallel : Value}
    (a_parallel : PySem.W.nsIn K mainGlobals "parallel" = some (some (.ref f_parallel)))
    (l_parallel : K.lookup f_parallel = some ⟨oc_parallel, od_parallel, .func (PySem.W.fnOf "parallel" "parallel" (defArgs s_parallel) (defBody s_parallel) (defScope s_parallel) .none kV_parallel dc_parallel pm_parallel an_parallel cd_parallel ct_parallel), sl_parallel⟩)
    (c_parallel : PySem.W.codeIn K cd_parallel "parallel" = true)
    (k_parallel : PySem.W.keepIn K (.ref f_parallel) = true)
    {f_crossing : Addr} {od_crossing an_crossing : Option Addr} {sl_crossing : Array (Option Value)} {oc_crossing kV_crossing dc_crossing pm_crossing cd_crossing ct_crossing : Value}
    (a_crossing : PySem.W.nsIn K mainGlobals "crossing" = some (some (.ref f_crossing)))
    (l_crossing : K.lookup f_crossing = some ⟨oc_crossing, od_crossing, .func (PySem.W.fnOf "crossing" "crossing" (defArgs s_crossing) (defBody s_crossing) (defScope s_crossing) .none kV_crossing dc_crossing pm_crossing an_crossing cd_crossing ct_crossing), sl_crossing⟩)
    (c_crossing : PySem.W.codeIn K cd_crossing "crossing" = true)
    (k_crossing : PySem.W.keepIn K (.ref f_crossing) = true)
    {f_comes_first : Addr} {od_comes_first an_comes_first : Option Addr} {sl_comes_first : Array (Option Value)} {oc_comes_first kV_comes_first dc_comes_first pm_comes_first cd_comes_first ct_comes_first : Value}
    (a_comes_first : PySem.W.nsIn K mainGlobals "comes_first" = some (some (.ref f_comes_first)))
    (l_comes_first : K.lookup f_comes_first = some ⟨oc_comes_first, od_comes_first, .func (PySem.W.fnOf "comes_first" "comes_first" (defArgs s_comes_first) (defBody s_comes_first) (defScope s_comes_first) .none kV_comes_first dc_comes_first pm_comes_first an_comes_first cd_comes_first ct_comes_first), sl_comes_first⟩)
    (c_comes_first : PySem.W.codeIn K cd_comes_first "comes_first" = true)
    (k_comes_first : PySem.W.keepIn K (.ref f_comes_first) = true)
    {f_by_slope : Addr} {od_by_slope an_by_slope : Option Addr} {sl_by_slope : Array (Option Value)} {oc_by_slope kV_by_slope dc_by_slope pm_by_slope cd_by_slope ct_by_slope : Value}
    (a_by_slope : PySem.W.nsIn K mainGlobals "by_slope" = some (some (.ref f_by_slope)))
    (l_by_slope : K.lookup f_by_slope = some ⟨oc_by_slope, od_by_slope, .func (PySem.W.fnOf "by_slope" "by_slope" (defArgs s_by_slope) (defBody s_by_slope) (defScope s_by_slope) .none kV_by_slope dc_by_slope pm_by_slope an_by_slope cd_by_slope ct_by_slope), sl_by_slope⟩)
    (c_by_slope : PySem.W.codeIn K cd_by_slope "by_slope" = true)
    (k_by_slope : PySem.W.keepIn K (.ref f_by_slope) = true)
    {f_tightest : Addr} {od_tightest an_tightest : Option Addr} {sl_tightest : Array (Option Value)} {oc_tightest kV_tightest dc_tightest pm_tightest cd_tightest ct_tightest : Value}
    (a_tightest : PySem.W.nsIn K mainGlobals "tightest" = some (some (.ref f_tightest)))
    (l_tightest : K.lookup f_tightest = some ⟨oc_tightest, od_tightest, .func (PySem.W.fnOf "tightest" "tightest" (defArgs s_tightest) (defBody s_tightest) (defScope s_tightest) .none kV_tightest dc_tightest pm_tightest an_tightest cd_tightest ct_tightest), sl_tightest⟩)
    (c_tightest : PySem.W.codeIn K cd_tightest "tightest" = true)
    (k_tightest : PySem.W.keepIn K (.ref f_tightest) = true)
    {f_tight_pairs : Addr} {od_tight_pairs an_tight_pairs : Option Addr} {sl_tight_pairs : Array (Option Value)} {oc_tight_pairs kV_tight_pairs dc_tight_pairs pm_tight_pairs cd_tight_pairs ct_tight_pairs : Value}
    (a_tight_pairs : PySem.W.nsIn K mainGlobals "tight_pairs" = some (some (.ref f_tight_pairs)))
    (l_tight_pairs : K.lookup f_tight_pairs = some ⟨oc_tight_pairs, od_tight_pairs, .func (PySem.W.fnOf "tight_pairs" "tight_pairs" (defArgs s_tight_pairs) (defBody s_tight_pairs) (defScope s_tight_pairs) .none kV_tight_pairs dc_tight_pairs pm_tight_pairs an_tight_pairs cd_tight_pairs ct_tight_pairs), sl_tight_pairs⟩)
    (c_tight_pairs : PySem.W.codeIn K cd_tight_pairs "tight_pairs" = true)
    (k_tight_pairs : PySem.W.keepIn K (.ref f_tight_pairs) = true)
    {f_weights_of : Addr} {od_weights_of an_weights_of : Option Addr} {sl_weights_of : Array (Option Value)} {oc_weights_of kV_weights_of dc_weights_of pm_weights_of cd_weights_of ct_weights_of : Value}
    (a_weights_of : PySem.W.nsIn K mainGlobals "weights_of" = some (some (.ref f_weights_of)))
    (l_weights_of : K.lookup f_weights_of = some ⟨oc_weights_of, od_weights_of, .func (PySem.W.fnOf "weights_of" "weights_of" (defArgs s_weights_of) (defBody s_weights_of) (defScope s_weights_of) .none kV_weights_of dc_weights_of pm_weights_of an_weights_of cd_weights_of ct_weights_of), sl_weights_of⟩)
    (c_weights_of : PySem.W.codeIn K cd_weights_of "weights_of" = true)
    (k_weights_of : PySem.W.keepIn K (.ref f_weights_of) = true)
    {f_empty_three : Addr} {od_empty_three an_empty_three : Option Addr} {sl_empty_three : Array (Option Value)} {oc_empty_three kV_empty_three dc_empty_three pm_empty_three cd_empty_three ct_empty_three : Value}
    (a_empty_three : PySem.W.nsIn K mainGlobals "empty_three" = some (some (.ref f_empty_three)))
    (l_empty_three : K.lookup f_empty_three = some ⟨oc_empty_three, od_empty_three, .func (PySem.W.fnOf "empty_three" "empty_three" (defArgs s_empty_three) (defBody s_empty_three) (defScope s_empty_three) .none kV_empty_three dc_empty_three pm_empty_three an_empty_three cd_empty_three ct_empty_three), sl_empty_three⟩)
    (c_empty_three : PySem.W.codeIn K cd_empty_three "empty_three" = true)
    (k_empty_three : PySem.W.keepIn K (.ref f_empty_three) = true)
    {f_chain_total : Addr} {od_chain_total an_chain_total : Option Addr} {sl_chain_total : Array (Option Value)} {oc_chain_total kV_chain_total dc_chain_total pm_chain_total cd_chain_total ct_chain_total : Value}
    (a_chain_total : PySem.W.nsIn K mainGlobals "chain_total" = some (some (.ref f_chain_total)))
    (l_chain_total : K.lookup f_chain_total = some ⟨oc_chain_total, od_chain_total, .func (PySem.W.fnOf "chain_total" "chain_total" (defArgs s_chain_total) (defBody s_chain_total) (defScope s_chain_total) .none kV_chain_total dc_chain_total pm_chain_total an_chain_total cd_chain_total ct_chain_total), sl_chain_total⟩)
    (c_chain_total : PySem.W.codeIn K cd_chain_total "chain_total" = true)
    (k_chain_total : PySem.W.keepIn K (.ref f_chain_total) = true)
    {f_total : Addr} {od_total an_total : Option Addr} {sl_total : Array (Option Value)} {oc_total kV_total dc_total pm_total cd_total ct_total : Value}
    (a_total : PySem.W.nsIn K mainGlobals "total" = some (some (.ref f_total)))
    (l_total : K.lookup f_total = some ⟨oc_total, od_total, .func (PySem.W.fnOf "total" "total" (defArgs s_total) (defBody s_total) (defScope s_total) .none kV_total dc_total pm_total an_total cd_total ct_total), sl_total⟩)
    (c_total : PySem.W.codeIn K cd_total "total" = true)
    (k_total : PySem.W.keepIn K (.ref f_total) = true)
    {f_count_of : Addr} {od_count_of an_count_of : Option Addr} {sl_count_of : Array (Option Value)} {oc_count_of kV_count_of dc_count_of pm_count_of cd_count_of ct_count_of : Value}
    (a_count_of : PySem.W.nsIn K mainGlobals "count_of" = some (some (.ref f_count_of)))
    (l_count_of : K.lookup f_count_of = some ⟨oc_count_of, od_count_of, .func (PySem.W.fnOf "count_of" "count_of" (defArgs s_count_of) (defBody s_count_of) (defScope s_count_of) .none kV_count_of dc_count_of pm_count_of an_count_of cd_count_of ct_count_of), sl_count_of⟩)
    (c_count_of : PySem.W.codeIn K cd_count_of "count_of" = true)
    (k_count_of : PySem.W.keepIn K (.ref f_count_of) = true)
    {f_count : Addr} {od_count an_count : Option Addr} {sl_count : Array (Option Value)} {oc_count kV_count dc_count pm_count cd_count ct_count : Value}
    (a_count : PySem.W.nsIn K mainGlobals "count" = some (some (.ref f_count)))
    (l_count : K.lookup f_count = some ⟨oc_count, od_count, .func (PySem.W.fnOf "count" "count" (defArgs s_count) (defBody s_count) (defScope s_count) .none kV_count dc_count pm_count an_count cd_count ct_count), sl_count⟩)
    (c_count : PySem.W.codeIn K cd_count "count" = true)
    (k_count : PySem.W.keepIn K (.ref f_count) = true)
    {f_decide : Addr} {od_decide an_decide : Option Addr} {sl_decide : Array (Option Value)} {oc_decide kV_decide dc_decide pm_decide cd_decide ct_decide : Value}
    (a_decide : PySem.W.nsIn K mainGlobals "decide" = some (some (.ref f_decide)))
    (l_decide : K.lookup f_decide = some ⟨oc_decide, od_decide, .func (PySem.W.fnOf "decide" "decide" (defArgs s_decide) (defBody s_decide) (defScope s_decide) .none kV_decide dc_decide pm_decide an_decide cd_decide ct_decide), sl_decide⟩)
    (c_decide : PySem.W.codeIn K cd_decide "decide" = true)
    (k_decide : PySem.W.keepIn K (.ref f_decide) = true)
    (aC_Region : PySem.W.nsIn K mainGlobals "Region" = some (some (.ref C_Region_)))
    (aC_Outline : PySem.W.nsIn K mainGlobals "Outline" = some (some (.ref C_Outline_)))
    {f_Region___init__ : Addr} {od_Region___init__ an_Region___init__ : Option Addr} {sl_Region___init__ : Array (Option Value)} {oc_Region___init__ kV_Region___init__ dc_Region___init__ pm_Region___init__ cd_Region___init__ ct_Region___init__ : Value}
    (a_Region___init__ : PySem.W.findIn K (.ref C_Region_) "__init__" = some (some (.ref f_Region___init__)))
    (i_Region___init__ : PySem.W.isFn K (.ref f_Region___init__) = true)
    (l_Region___init__ : K.lookup f_Region___init__ = some ⟨oc_Region___init__, od_Region___init__, .func (PySem.W.fnOf "__init__" "Region.__init__" (defArgs s_Region___init__) (defBody s_Region___init__) (defScope s_Region___init__) .none kV_Region___init__ dc_Region___init__ pm_Region___init__ an_Region___init__ cd_Region___init__ ct_Region___init__), sl_Region___init__⟩)
    (c_Region___init__ : PySem.W.codeIn K cd_Region___init__ "Region.__init__" = true)
    (k_Region___init__ : PySem.W.keepIn K (.ref f_Region___init__) = true)
    {f_Outline___init__ : Addr} {od_Outline___init__ an_Outline___init__ : Option Addr} {sl_Outline___init__ : Array (Option Value)} {oc_Outline___init__ kV_Outline___init__ dc_Outline___init__ pm_Outline___init__ cd_Outline___init__ ct_Outline___init__ : Value}
    (a_Outline___init__ : PySem.W.findIn K (.ref C_Outline_) "__init__" = some (some (.ref f_Outline___init__)))
    (i_Outline___init__ : PySem.W.isFn K (.ref f_Outline___init__) = true)
    (l_Outline___init__ : K.lookup f_Outline___init__ = some ⟨oc_Outline___init__, od_Outline___init__, .func (PySem.W.fnOf "__init__" "Outline.__init__" (defArgs s_Outline___init__) (defBody s_Outline___init__) (defScope s_Outline___init__) .none kV_Outline___init__ dc_Outline___init__ pm_Outline___init__ an_Outline___init__ cd_Outline___init__ ct_Outline___init__), sl_Outline___init__⟩)
    (c_Outline___init__ : PySem.W.codeIn K cd_Outline___init__ "Outline.__init__" = true)
    (k_Outline___init__ : PySem.W.keepIn K (.ref f_Outline___init__) = true)
    {f_Outline__bound : Addr} {od_Outline__bound an_Outline__bound : Option Addr} {sl_Outline__bound : Array (Option Value)} {oc_Outline__bound kV_Outline__bound dc_Outline__bound pm_Outline__bound cd_Outline__bound ct_Outline__bound : Value}
    (a_Outline__bound : PySem.W.findIn K (.ref C_Outline_) "_bound" = some (some (.ref f_Outline__bound)))
    (i_Outline__bound : PySem.W.isFn K (.ref f_Outline__bound) = true)
    (l_Outline__bound : K.lookup f_Outline__bound = some ⟨oc_Outline__bound, od_Outline__bound, .func (PySem.W.fnOf "_bound" "Outline._bound" (defArgs s_Outline__bound) (defBody s_Outline__bound) (defScope s_Outline__bound) .none kV_Outline__bound dc_Outline__bound pm_Outline__bound an_Outline__bound cd_Outline__bound ct_Outline__bound), sl_Outline__bound⟩)
    (c_Outline__bound : PySem.W.codeIn K cd_Outline__bound "Outline._bound" = true)
    (k_Outline__bound : PySem.W.keepIn K (.ref f_Outline__bound) = true)
    {f_Outline__clash : Addr} {od_Outline__clash an_Outline__clash : Option Addr} {sl_Outline__clash : Array (Option Value)} {oc_Outline__clash kV_Outline__clash dc_Outline__clash pm_Outline__clash cd_Outline__clash ct_Outline__clash : Value}
    (a_Outline__clash : PySem.W.findIn K (.ref C_Outline_) "_clash" = some (some (.ref f_Outline__clash)))
    (i_Outline__clash : PySem.W.isFn K (.ref f_Outline__clash) = true)
    (l_Outline__clash : K.lookup f_Outline__clash = some ⟨oc_Outline__clash, od_Outline__clash, .func (PySem.W.fnOf "_clash" "Outline._clash" (defArgs s_Outline__clash) (defBody s_Outline__clash) (defScope s_Outline__clash) .none kV_Outline__clash dc_Outline__clash pm_Outline__clash an_Outline__clash cd_Outline__clash ct_Outline__clash), sl_Outline__clash⟩)
    (c_Outline__clash : PySem.W.codeIn K cd_Outline__clash "Outline._clash" = true)
    (k_Outline__clash : PySem.W.keepIn K (.ref f_Outline__clash) = true)
    {f_Outline_is_bounded : Addr} {od_Outline_is_bounded an_Outline_is_bounded : Option Addr} {sl_Outline_is_bounded : Array (Option Value)} {oc_Outline_is_bounded kV_Outline_is_bounded dc_Outline_is_bounded pm_Outline_is_bounded cd_Outline_is_bounded ct_Outline_is_bounded : Value}
    (a_Outline_is_bounded : PySem.W.findIn K (.ref C_Outline_) "is_bounded" = some (some (.ref f_Outline_is_bounded)))
    (i_Outline_is_bounded : PySem.W.isFn K (.ref f_Outline_is_bounded) = true)
    (l_Outline_is_bounded : K.lookup f_Outline_is_bounded = some ⟨oc_Outline_is_bounded, od_Outline_is_bounded, .func (PySem.W.fnOf "is_bounded" "Outline.is_bounded" (defArgs s_Outline_is_bounded) (defBody s_Outline_is_bounded) (defScope s_Outline_is_bounded) .none kV_Outline_is_bounded dc_Outline_is_bounded pm_Outline_is_bounded an_Outline_is_bounded cd_Outline_is_bounded ct_Outline_is_bounded), sl_Outline_is_bounded⟩)
    (c_Outline_is_bounded : PySem.W.codeIn K cd_Outline_is_bounded "Outline.is_bounded" = true)
    (k_Outline_is_bounded : PySem.W.keepIn K (.ref f_Outline_is_bounded) = true)
    {f_Outline_whole_ends : Addr} {od_Outline_whole_ends an_Outline_whole_ends : Option Addr} {sl_Outline_whole_ends : Array (Option Value)} {oc_Outline_whole_ends kV_Outline_whole_ends dc_Outline_whole_ends pm_Outline_whole_ends cd_Outline_whole_ends ct_Outline_whole_ends : Value}
    (a_Outline_whole_ends : PySem.W.findIn K (.ref C_Outline_) "whole_ends" = some (some (.ref f_Outline_whole_ends)))
    (i_Outline_whole_ends : PySem.W.isFn K (.ref f_Outline_whole_ends) = true)
    (l_Outline_whole_ends : K.lookup f_Outline_whole_ends = some ⟨oc_Outline_whole_ends, od_Outline_whole_ends, .func (PySem.W.fnOf "whole_ends" "Outline.whole_ends" (defArgs s_Outline_whole_ends) (defBody s_Outline_whole_ends) (defScope s_Outline_whole_ends) .none kV_Outline_whole_ends dc_Outline_whole_ends pm_Outline_whole_ends an_Outline_whole_ends cd_Outline_whole_ends ct_Outline_whole_ends), sl_Outline_whole_ends⟩)
    (c_Outline_whole_ends : PySem.W.codeIn K cd_Outline_whole_ends "Outline.whole_ends" = true)
    (k_Outline_whole_ends : PySem.W.keepIn K (.ref f_Outline_whole_ends) = true)
    (pg_Region : PySem.W.plainGet K C_Region_ Str.empty = true)
    (hd_Region : PySem.W.hasDictIn K C_Region_ = true)
    (po_Region : PySem.W.plainOver K C_Region_ = true)
    (sa_Region : PySem.W.findIn K (.ref C_Region_) "__setattr__" = some (some (.builtin "object.__setattr__")))
    (mk_Region : PySem.W.makesIn K C_Region_ = true)
    (kc_Region : PySem.W.keepIn K (.ref C_Region_) = true)
    (n_Region_rows : PySem.W.findIn K (.ref C_Region_) "rows" = some none)
    (pg_Outline : PySem.W.plainGet K C_Outline_ Str.empty = true)
    (hd_Outline : PySem.W.hasDictIn K C_Outline_ = true)
    (po_Outline : PySem.W.plainOver K C_Outline_ = true)
    (sa_Outline : PySem.W.findIn K (.ref C_Outline_) "__setattr__" = some (some (.builtin "object.__setattr__")))
    (mk_Outline : PySem.W.makesIn K C_Outline_ = true)
    (kc_Outline : PySem.W.keepIn K (.ref C_Outline_) = true)
    (n_Outline_uppers : PySem.W.findIn K (.ref C_Outline_) "uppers" = some none)
    (n_Outline_lowers : PySem.W.findIn K (.ref C_Outline_) "lowers" = some none)
    (n_Outline_low : PySem.W.findIn K (.ref C_Outline_) "low" = some none)
    (n_Outline_low_parts : PySem.W.findIn K (.ref C_Outline_) "low_parts" = some none)
    (n_Outline_high : PySem.W.findIn K (.ref C_Outline_) "high" = some none)
    (n_Outline_high_parts : PySem.W.findIn K (.ref C_Outline_) "high_parts" = some none)
    (n_Outline_weights : PySem.W.findIn K (.ref C_Outline_) "weights" = some none)
    {nmB_TooLarge qB_TooLarge : Str} {NB_TooLarge fI_TooLarge cda_TooLarge cc_TooLarge : Addr} {bsB_TooLarge bmB_TooLarge : List Value} {snB_TooLarge : List Str} {subB_TooLarge : List Value} {abB_TooLarge : Bool} {colB_TooLarge : Option Bool} {ddB_TooLarge : Option Addr} {m0_TooLarge m1_TooLarge m2_TooLarge m3_TooLarge m5_TooLarge : Option Value}
    (aB_TooLarge : PySem.W.nsIn K mainGlobals "TooLarge" = some (some (.ref C_TooLarge_)))
    (xB_TooLarge : K.lookup C_TooLarge_ = some (excClassObj nmB_TooLarge qB_TooLarge C_TooLarge_ NB_TooLarge bsB_TooLarge bmB_TooLarge true snB_TooLarge subB_TooLarge abB_TooLarge colB_TooLarge ddB_TooLarge m0_TooLarge m1_TooLarge m2_TooLarge m3_TooLarge m5_TooLarge "ValueError.__new__"))
    (rB_TooLarge : refsVE bmB_TooLarge = true)
    (saB_TooLarge : PySem.W.findIn K (.ref C_TooLarge_) "__setattr__" = some (some (.builtin "object.__setattr__")))
    (gaB_TooLarge : PySem.W.findIn K (.ref C_TooLarge_) "__getattribute__" = some (some (.builtin "BaseException.__getattribute__")))
    (ggB_TooLarge : PySem.W.findIn K (.ref C_TooLarge_) "__getattr__" = some none)
    (nB_TooLarge : PySem.W.findIn K (.ref C_TooLarge_) "number" = some none)
    (iB_TooLarge : PySem.W.findIn K (.ref C_TooLarge_) "__init__" = some (some (.ref fI_TooLarge)))
    {qualB_TooLarge txtB_TooLarge : Str} {nkB_TooLarge : Nat} {ocB_TooLarge : Value} {odB_TooLarge : Option Addr} {docB_TooLarge pmB_TooLarge : Value} {anB_TooLarge : Option Addr} {ctB_TooLarge : Value} {oslB_TooLarge : Array (Option Value)} {w1_TooLarge w2_TooLarge w3_TooLarge w4_TooLarge w5_TooLarge w6_TooLarge w7_TooLarge w8_TooLarge w9_TooLarge u1_TooLarge u2_TooLarge u3_TooLarge : Pos}
    (fnB_TooLarge : K.lookup fI_TooLarge = some ⟨ocB_TooLarge, odB_TooLarge, .func (ksFn "__init__" qualB_TooLarge (Xc.prm "number" w1_TooLarge w2_TooLarge) (Xc.bdy "number" txtB_TooLarge nkB_TooLarge w3_TooLarge w4_TooLarge w5_TooLarge w6_TooLarge w7_TooLarge w8_TooLarge w9_TooLarge u1_TooLarge u2_TooLarge u3_TooLarge) (Xc.scp "number") .none .none docB_TooLarge pmB_TooLarge anB_TooLarge (.ref cda_TooLarge) ctB_TooLarge cc_TooLarge), oslB_TooLarge⟩)
    (cdB_TooLarge : PySem.W.codeIn K (.ref cda_TooLarge) qualB_TooLarge = true)
    (rwB_TooLarge : (w5_TooLarge.endLine == w7_TooLarge.line) = true)
    {clB_TooLarge : Value} {cldB_TooLarge : Option Addr} {cslB_TooLarge : Array (Option Value)}
    (ceB_TooLarge : K.lookup cc_TooLarge = some ⟨clB_TooLarge, cldB_TooLarge, .cell (some (.ref C_TooLarge_)), cslB_TooLarge⟩)
    {cclB_TooLarge : Value} {cddB_TooLarge : Option Addr} {vsB_TooLarge : Array Value} {ccsB_TooLarge : Array (Option Value)} {fileB_TooLarge : Str} {tfB_TooLarge : Tok}
    (coB_TooLarge : K.lookup cda_TooLarge = some ⟨cclB_TooLarge, cddB_TooLarge, .fields vsB_TooLarge, ccsB_TooLarge⟩)
    (vsB_TooLarge : vsB_TooLarge[2]? = some (.str fileB_TooLarge tfB_TooLarge))
    (fiB_TooLarge : ((l.prog.main.file : Str) == fileB_TooLarge) = true)
    (tI_TooLarge : PySem.W.typeIn K (.ref fI_TooLarge) = some (.type "function"))
    (kB_TooLarge : PySem.W.keepIn K (.ref C_TooLarge_) = true)
    (exB_TooLarge : PySem.W.subIn K (.ref C_TooLarge_) (.type "BaseException") = some true)
    (veB_TooLarge : PySem.W.subIn K (.ref C_TooLarge_) (.type "ValueError") = some true)
    (tyB_TooLarge : PySem.W.typeIn K (.ref C_TooLarge_) = some (.type "type"))
    (hdB_TooLarge : PySem.W.hasDictIn K C_TooLarge_ = true)
    (sB_TooLarge : PySem.W.subIn K (.ref C_TooLarge_) (.ref C_TooLarge_) = some true)
    (mB_TooLarge : PySem.W.mroIn K C_TooLarge_ (.ref C_TooLarge_) = some true)
    (suB_TooLarge : ks_superIn K C_TooLarge_ C_TooLarge_ "__init__" = some (some (.builtin "ValueError.__init__")))
    (xiB_TooLarge : excInitIn K C_TooLarge_ Xc.veT "ValueError.__new__" = true)
    (opq : PySem.W.nsIn K cStatics "thirdparty.any" = some none)
    (nos : PySem.W.nsIn K mainGlobals "super" = some none)
    (topB : (l.prog.main.scope.names.lookup ("super" : Str)).isSome = false)
    (y_gcd : PySem.W.nsIn K mainGlobals "gcd" = some (some (.builtin "math.gcd")))
    (z_len : PySem.W.nsIn K mainGlobals "len" = some none)
    (z_range : PySem.W.nsIn K mainGlobals "range" = some none)
    (z_int : PySem.W.nsIn K mainGlobals "int" = some none)
    (z_bool : PySem.W.nsIn K mainGlobals "bool" = some none)
    (z_isinstance : PySem.W.nsIn K mainGlobals "isinstance" = some none)
    (z_tuple : PySem.W.nsIn K mainGlobals "tuple" = some none)
    (z_list : PySem.W.nsIn K mainGlobals "list" = some none)
    (z_enumerate : PySem.W.nsIn K mainGlobals "enumerate" = some none)
    (z_all : PySem.W.nsIn K mainGlobals "all" = some none)
    (z_abs : PySem.W.nsIn K mainGlobals "abs" = some none)
    (z_min : PySem.W.nsIn K mainGlobals "min" = some none)
    (z_max : PySem.W.nsIn K mainGlobals "max" = some none)
    (z_sum : PySem.W.nsIn K mainGlobals "sum" = some none)
    (z_zip : PySem.W.nsIn K mainGlobals "zip" = some none)
    (z_ValueError : PySem.W.nsIn K mainGlobals "ValueError" = some none)
    {t_MOST_ROWS : Tok}
    (z_MOST_ROWS : PySem.W.nsIn K mainGlobals "MOST_ROWS" = some (some (.int 40 t_MOST_ROWS)))
    {t_MOST_FIGURES : Tok}
    (z_MOST_FIGURES : PySem.W.nsIn K mainGlobals "MOST_FIGURES" = some (some (.int 40 t_MOST_FIGURES)))
    : ∃ fd : FuncData, (∀ (s : Shared) (v : Value), BindsTo s fd ⟨[v], []⟩ [("script", v)]) ∧ ∀ base : Heap, K.In base → base.Ns mainGlobals mg → FnOk l.prog w K mg base CX0 17 fa fd ["script"] (spLaw K) := by
  have e := hfa.symm.trans (PySem.W.mg_of X G a_law)
  cases e
  have F_is_line_row := fun_mk (st := s_is_line_row) l_is_line_row c_is_line_row k_is_line_row
  have b_is_line_row := F_is_line_row.binds (ps := ["row"]) fun _ _ _ _ _ _ us hl => match us, hl with | [_], _ => rfl
  have g_is_line_row := PySem.W.mg_of X G a_is_line_row
  have F_line_rows := fun_mk (st := s_line_rows) l_line_rows c_line_rows k_line_rows
  have b_line_rows := F_line_rows.binds (ps := ["rows"]) fun _ _ _ _ _ _ us hl => match us, hl with | [_], _ => rfl
  have g_line_rows := PySem.W.mg_of X G a_line_rows
  have F__law_number := fun_mk (st := s__law_number) l__law_number c__law_number k__law_number
  have b__law_number := F__law_number.binds (ps := ["script", "index"]) fun _ _ _ _ _ _ us hl => match us, hl with | [_, _], _ => rfl
  have g__law_number := PySem.W.mg_of X G a__law_number
  have F__law_take := fun_mk (st := s__law_take) l__law_take c__law_take k__law_take
  have b__law_take := F__law_take.binds (ps := ["draw", "many"]) fun _ _ _ _ _ _ us hl => match us, hl with | [_, _], _ => rfl
  have g__law_take := PySem.W.mg_of X G a__law_take
  have F__law_long := fun_mk (st := s__law_long) l__law_long c__law_long k__law_long
  have b__law_long := F__law_long.binds (ps := ["draw", "figures_v"]) fun _ _ _ _ _ _ us hl => match us, hl with | [_, _], _ => rfl
  have g__law_long := PySem.W.mg_of X G a__law_long
  have F__law_bezout := fun_mk (st := s__law_bezout) l__law_bezout c__law_bezout k__law_bezout
  have b__law_bezout := F__law_bezout.binds (ps := ["one", "other"]) fun _ _ _ _ _ _ us hl => match us, hl with | [_, _], _ => rfl
  have g__law_bezout := PySem.W.mg_of X G a__law_bezout
  have F_law := fun_mk (st := s_law) l_law c_law k_law
  have F_is_number := fun_mk (st := s_is_number) l_is_number c_is_number k_is_number
  have b_is_number := F_is_number.binds (ps := ["value"]) fun _ _ _ _ _ _ us hl => match us, hl with | [_], _ => rfl
  have g_is_number := PySem.W.mg_of X G a_is_number
  have F_check_numbers := fun_mk (st := s_check_numbers) l_check_numbers c_check_numbers k_check_numbers
  have b_check_numbers := F_check_numbers.binds (ps := ["values"]) fun _ _ _ _ _ _ us hl => match us, hl with | [_], _ => rfl
  have g_check_numbers := PySem.W.mg_of X G a_check_numbers
  have F_check_from := fun_mk (st := s_check_from) l_check_from c_check_from k_check_from
  have b_check_from := F_check_from.binds (ps := ["least", "value"]) fun _ _ _ _ _ _ us hl => match us, hl with | [_, _], _ => rfl
  have g_check_from := PySem.W.mg_of X G a_check_from
  have F_power := fun_mk (st := s_power) l_power c_power k_power
  have b_power := F_power.binds (ps := ["base", "exponent"]) fun _ _ _ _ _ _ us hl => match us, hl with | [_, _], _ => rfl
  have g_power := PySem.W.mg_of X G a_power
  have F_figures := fun_mk (st := s_figures) l_figures c_figures k_figures
  have b_figures := F_figures.binds (ps := ["number"]) fun _ _ _ _ _ _ us hl => match us, hl with | [_], _ => rfl
  have g_figures := PySem.W.mg_of X G a_figures
  have F_check_size := fun_mk (st := s_check_size) l_check_size c_check_size k_check_size
  have b_check_size := F_check_size.binds (ps := ["rows", "others", "most_rows", "most_figures"]) fun _ _ _ _ _ _ us hl => match us, hl with | [_, _, _, _], _ => rfl
  have g_check_size := PySem.W.mg_of X G a_check_size
  have F_check_figures := fun_mk (st := s_check_figures) l_check_figures c_check_figures k_check_figures
  have b_check_figures := F_check_figures.binds (ps := ["numbers", "most"]) fun _ _ _ _ _ _ us hl => match us, hl with | [_, _], _ => rfl
  have g_check_figures := PySem.W.mg_of X G a_check_figures
  have F_below := fun_mk (st := s_below) l_below c_below k_below
  have b_below := F_below.binds (ps := ["one", "other"]) fun _ _ _ _ _ _ us hl => match us, hl with | [_, _], _ => rfl
  have g_below := PySem.W.mg_of X G a_below
  have F_floor_of := fun_mk (st := s_floor_of) l_floor_of c_floor_of k_floor_of
  have b_floor_of := F_floor_of.binds (ps := ["fraction"]) fun _ _ _ _ _ _ us hl => match us, hl with | [_], _ => rfl
  have g_floor_of := PySem.W.mg_of X G a_floor_of
  have F_ceil_of := fun_mk (st := s_ceil_of) l_ceil_of c_ceil_of k_ceil_of
  have b_ceil_of := F_ceil_of.binds (ps := ["fraction"]) fun _ _ _ _ _ _ us hl => match us, hl with | [_], _ => rfl
  have g_ceil_of := PySem.W.mg_of X G a_ceil_of
  have F_parallel := fun_mk (st := s_parallel) l_parallel c_parallel k_parallel
  have b_parallel := F_parallel.binds (ps := ["one", "other"]) fun _ _ _ _ _ _ us hl => match us, hl with | [_, _], _ => rfl
  have g_parallel := PySem.W.mg_of X G a_parallel
  have F_crossing := fun_mk (st := s_crossing) l_crossing c_crossing k_crossing
  have b_crossing := F_crossing.binds (ps := ["one", "other"]) fun _ _ _ _ _ _ us hl => match us, hl with | [_, _], _ => rfl
  have g_crossing := PySem.W.mg_of X G a_crossing
  have F_comes_first := fun_mk (st := s_comes_first) l_comes_first c_comes_first k_comes_first
  have b_comes_first := F_comes_first.binds (ps := ["one", "other"]) fun _ _ _ _ _ _ us hl => match us, hl with | [_, _], _ => rfl
  have g_comes_first := PySem.W.mg_of X G a_comes_first
  have F_by_slope := fun_mk (st := s_by_slope) l_by_slope c_by_slope k_by_slope
  have b_by_slope := F_by_slope.binds (ps := ["lines"]) fun _ _ _ _ _ _ us hl => match us, hl with | [_], _ => rfl
  have g_by_slope := PySem.W.mg_of X G a_by_slope
  have F_tightest := fun_mk (st := s_tightest) l_tightest c_tightest k_tightest
  have b_tightest := F_tightest.binds (ps := ["lines"]) fun _ _ _ _ _ _ us hl => match us, hl with | [_], _ => rfl
  have g_tightest := PySem.W.mg_of X G a_tightest
  have F_tight_pairs := fun_mk (st := s_tight_pairs) l_tight_pairs c_tight_pairs k_tight_pairs
  have b_tight_pairs := F_tight_pairs.binds (ps := ["uppers", "lowers"]) fun _ _ _ _ _ _ us hl => match us, hl with | [_, _], _ => rfl
  have g_tight_pairs := PySem.W.mg_of X G a_tight_pairs
  have F_weights_of := fun_mk (st := s_weights_of) l_weights_of c_weights_of k_weights_of
  have b_weights_of := F_weights_of.binds (ps := ["many", "parts"]) fun _ _ _ _ _ _ us hl => match us, hl with | [_, _], _ => rfl
  have g_weights_of := PySem.W.mg_of X G a_weights_of
  have F_empty_three := fun_mk (st := s_empty_three) l_empty_three c_empty_three k_empty_three
  have b_empty_three := F_empty_three.binds (ps := ["rows", "numbers"]) fun _ _ _ _ _ _ us hl => match us, hl with | [_, _], _ => rfl
  have g_empty_three := PySem.W.mg_of X G a_empty_three
  have F_chain_total := fun_mk (st := s_chain_total) l_chain_total c_chain_total k_chain_total
  have b_chain_total := F_chain_total.binds (ps := ["chain", "first", "last"]) fun _ _ _ _ _ _ us hl => match us, hl with | [_, _, _], _ => rfl
  have g_chain_total := PySem.W.mg_of X G a_chain_total
  have F_total := fun_mk (st := s_total) l_total c_total k_total
  have b_total := F_total.binds (ps := ["a", "b", "m", "many"]) fun _ _ _ _ _ _ us hl => match us, hl with | [_, _, _, _], _ => rfl
  have g_total := PySem.W.mg_of X G a_total
  have F_count_of := fun_mk (st := s_count_of) l_count_of c_count_of k_count_of
  have b_count_of := F_count_of.binds (ps := ["rows"]) fun _ _ _ _ _ _ us hl => match us, hl with | [_], _ => rfl
  have g_count_of := PySem.W.mg_of X G a_count_of
  have F_count := fun_mk (st := s_count) l_count c_count k_count
  have b_count := F_count.binds (ps := ["region"]) fun _ _ _ _ _ _ us hl => match us, hl with | [_], _ => rfl
  have g_count := PySem.W.mg_of X G a_count
  have F_decide := fun_mk (st := s_decide) l_decide c_decide k_decide
  have b_decide := F_decide.binds (ps := ["rows"]) fun _ _ _ _ _ _ us hl => match us, hl with | [_], _ => rfl
  have g_decide := PySem.W.mg_of X G a_decide
  have F_Region___init__ := fun_mk (st := s_Region___init__) l_Region___init__ c_Region___init__ k_Region___init__
  have b_Region___init__ := F_Region___init__.binds (ps := ["self", "rows"]) fun _ _ _ _ _ _ us hl => match us, hl with | [_, _], _ => rfl
  have F_Outline___init__ := fun_mk (st := s_Outline___init__) l_Outline___init__ c_Outline___init__ k_Outline___init__
  have b_Outline___init__ := F_Outline___init__.binds (ps := ["self", "rows"]) fun _ _ _ _ _ _ us hl => match us, hl with | [_, _], _ => rfl
  have F_Outline__bound := fun_mk (st := s_Outline__bound) l_Outline__bound c_Outline__bound k_Outline__bound
  have b_Outline__bound := F_Outline__bound.binds (ps := ["self", "rows", "a", "c", "parts"]) fun _ _ _ _ _ _ us hl => match us, hl with | [_, _, _, _, _], _ => rfl
  have F_Outline__clash := fun_mk (st := s_Outline__clash) l_Outline__clash c_Outline__clash k_Outline__clash
  have b_Outline__clash := F_Outline__clash.binds (ps := ["self", "rows"]) fun _ _ _ _ _ _ us hl => match us, hl with | [_, _], _ => rfl
  have F_Outline_is_bounded := fun_mk (st := s_Outline_is_bounded) l_Outline_is_bounded c_Outline_is_bounded k_Outline_is_bounded
  have b_Outline_is_bounded := F_Outline_is_bounded.binds (ps := ["self"]) fun _ _ _ _ _ _ us hl => match us, hl with | [_], _ => rfl
  have F_Outline_whole_ends := fun_mk (st := s_Outline_whole_ends) l_Outline_whole_ends c_Outline_whole_ends k_Outline_whole_ends
  have b_Outline_whole_ends := F_Outline_whole_ends.binds (ps := ["self"]) fun _ _ _ _ _ _ us hl => match us, hl with | [_], _ => rfl
  have cl_Region : Cls K C_Region_ := ⟨pg_Region, hd_Region, po_Region, sa_Region⟩
  have g_Region := PySem.W.mg_of X G aC_Region
  have cl_Outline : Cls K C_Outline_ := ⟨pg_Outline, hd_Outline, po_Outline, sa_Outline⟩
  have g_Outline := PySem.W.mg_of X G aC_Outline
  have T : Nm mg := { len := PySem.W.mg_none_of X G z_len, range := PySem.W.mg_none_of X G z_range, int := PySem.W.mg_none_of X G z_int, bool := PySem.W.mg_none_of X G z_bool, isinstance := PySem.W.mg_none_of X G z_isinstance, tuple := PySem.W.mg_none_of X G z_tuple, list := PySem.W.mg_none_of X G z_list, enumerate := PySem.W.mg_none_of X G z_enumerate, all := PySem.W.mg_none_of X G z_all, abs := PySem.W.mg_none_of X G z_abs, min := PySem.W.mg_none_of X G z_min, max := PySem.W.mg_none_of X G z_max, sum := PySem.W.mg_none_of X G z_sum, zip := PySem.W.mg_none_of X G z_zip, valueError := PySem.W.mg_none_of X G z_ValueError, MOST_ROWS := ⟨_, PySem.W.mg_of X G z_MOST_ROWS⟩, MOST_FIGURES := ⟨_, PySem.W.mg_of X G z_MOST_FIGURES⟩, gcd := PySem.W.mg_of X G y_gcd }
  have B_TooLarge : Xc.Own l.prog K mg "TooLarge" "number" C_TooLarge_ fI_TooLarge cda_TooLarge cc_TooLarge :=
    { gC := PySem.W.mg_of X G aB_TooLarge, cls := ⟨_, _, _, _, _, _, _, _, _, _, _, _, _, _, _, xB_TooLarge, rB_TooLarge⟩, sa := saB_TooLarge, ga := gaB_TooLarge, gg := ggB_TooLarge, noN := nB_TooLarge, iC := iB_TooLarge, tC := tI_TooLarge, kC := kB_TooLarge, exC := exB_TooLarge, veC := veB_TooLarge, tyC := tyB_TooLarge, hdC := hdB_TooLarge, te := PySem.W.exm_ref exB_TooLarge hdB_TooLarge tyB_TooLarge sB_TooLarge, mro := mB_TooLarge, sup := suB_TooLarge, xin := xiB_TooLarge, opq := opq, nos := nos, cell := ⟨_, _, _, ceB_TooLarge⟩, code := ⟨_, _, _, _, _, _, coB_TooLarge, vsB_TooLarge, fiB_TooLarge⟩, fn := ⟨_, _, _, _, _, _, _, _, _, _, _, _, _, _, _, _, _, _, _, _, _, _, fnB_TooLarge, cdB_TooLarge, rwB_TooLarge⟩, top := topB }
  refine ⟨PySem.W.fnOf "law" "law" (defArgs s_law) (defBody s_law) (defScope s_law) .none kV_law dc_law pm_law an_law cd_law ct_law, fun s v => .of_eq rfl, fun base _ _ => ?_⟩
  have RO : OutC K C_Outline_ := ⟨cl_Outline, n_Outline_uppers, n_Outline_lowers, n_Outline_low, n_Outline_low_parts, n_Outline_high, n_Outline_high_parts, n_Outline_weights⟩
  have RR : RegC K C_Region_ := ⟨cl_Region, n_Region_rows⟩
  have C_is_number : Has l.prog w K mg base "is_number" 1 ["value"] spIsN _ _ := ⟨ok_is_number T F_is_number, g_is_number, F_is_number.kp, b_is_number⟩
  have C_check_numbers : Has l.prog w K mg base "check_numbers" 2 ["values"] (spCheckNums K) _ _ := ⟨ok_check_numbers T C_is_number F_check_numbers, g_check_numbers, F_check_numbers.kp, b_check_numbers⟩
  have C_check_from : Has l.prog w K mg base "check_from" 2 ["least", "value"] spCheckFrom _ _ := ⟨ok_check_from T C_is_number F_check_from, g_check_from, F_check_from.kp, b_check_from⟩
  have C_power : Has l.prog w K mg base "power" 1 ["base", "exponent"] spPow _ _ := ⟨ok_power F_power, g_power, F_power.kp, b_power⟩
  have C_figures : Has l.prog w K mg base "figures" 2 ["number"] spFigures _ _ := ⟨ok_figures T C_power F_figures, g_figures, F_figures.kp, b_figures⟩
  have C_check_figures : HasX l.prog w K mg base "check_figures" 3 ["numbers", "most"] (spCheckFigs K C_TooLarge_) _ _ := ⟨ok_check_figures T B_TooLarge C_figures F_check_figures, g_check_figures, F_check_figures.kp, b_check_figures⟩
  have C_check_size : HasX l.prog w K mg base "check_size" 4 ["rows", "others", "most_rows", "most_figures"] (spCheckSize K C_TooLarge_) _ _ := ⟨ok_check_size T B_TooLarge C_check_figures F_check_size, g_check_size, F_check_size.kp, b_check_size⟩
  have C_below : Has l.prog w K mg base "below" 1 ["one", "other"] (spBelow K) _ _ := ⟨ok_below F_below, g_below, F_below.kp, b_below⟩
  have C_floor_of : Has l.prog w K mg base "floor_of" 1 ["fraction"] (spFloor K fun p q => p / q) _ _ := ⟨ok_floor_of F_floor_of, g_floor_of, F_floor_of.kp, b_floor_of⟩
  have C_ceil_of : Has l.prog w K mg base "ceil_of" 1 ["fraction"] (spFloor K fun p q => -(-p / q)) _ _ := ⟨ok_ceil_of F_ceil_of, g_ceil_of, F_ceil_of.kp, b_ceil_of⟩
  have C_parallel : Has l.prog w K mg base "parallel" 1 ["one", "other"] (spPar K) _ _ := ⟨ok_parallel F_parallel, g_parallel, F_parallel.kp, b_parallel⟩
  have C_crossing : Has l.prog w K mg base "crossing" 1 ["one", "other"] (spCross K) _ _ := ⟨ok_crossing F_crossing, g_crossing, F_crossing.kp, b_crossing⟩
  have C_comes_first : Has l.prog w K mg base "comes_first" 1 ["one", "other"] (spFirst K) _ _ := ⟨ok_comes_first F_comes_first, g_comes_first, F_comes_first.kp, b_comes_first⟩
  have C_by_slope : Has l.prog w K mg base "by_slope" 10 ["lines"] (spSlope K 8) _ _ := ⟨ok_by_slope T C_comes_first F_by_slope g_by_slope b_by_slope 8, g_by_slope, F_by_slope.kp, b_by_slope⟩
  have C_tightest : Has l.prog w K mg base "tightest" 11 ["lines"] (spTight K) _ _ := ⟨ok_tightest T C_by_slope C_parallel C_crossing C_below F_tightest, g_tightest, F_tightest.kp, b_tightest⟩
  have C_tight_pairs : Has l.prog w K mg base "tight_pairs" 2 ["uppers", "lowers"] (spPairs K) _ _ := ⟨ok_tight_pairs T C_below F_tight_pairs, g_tight_pairs, F_tight_pairs.kp, b_tight_pairs⟩
  have C_weights_of : Has l.prog w K mg base "weights_of" 1 ["many", "parts"] (spWeights K) _ _ := ⟨ok_weights_of T F_weights_of, g_weights_of, F_weights_of.kp, b_weights_of⟩
  have C_empty_three : Has l.prog w K mg base "empty_three" 1 ["rows", "numbers"] (spThree K) _ _ := ⟨ok_empty_three T F_empty_three, g_empty_three, F_empty_three.kp, b_empty_three⟩
  have C_Outline__bound : Mth l.prog w K mg base C_Outline_ "_bound" 2 ["self", "rows", "a", "c", "parts"] (spBoundO K C_Outline_) _ _ := ⟨cl_Outline, ⟨a_Outline__bound, i_Outline__bound, k_Outline__bound⟩, ok_bound T RO C_below C_weights_of F_Outline__bound, b_Outline__bound⟩
  have C_Outline__clash : Mth l.prog w K mg base C_Outline_ "_clash" 2 ["self", "rows"] (spClash K C_Outline_) _ _ := ⟨cl_Outline, ⟨a_Outline__clash, i_Outline__clash, k_Outline__clash⟩, ok_clash T RO C_weights_of C_empty_three F_Outline__clash, b_Outline__clash⟩
  have C_Outline : Made l.prog w K mg base "Outline" 12 ["self", "rows"] (spOutI K C_Outline_) C_Outline_ _ _ := ⟨⟨mk_Outline, a_Outline___init__, i_Outline___init__, kc_Outline⟩, ok_outline T RO C_tightest C_tight_pairs C_below C_Outline__bound C_Outline__clash F_Outline___init__, g_Outline, b_Outline___init__⟩
  have C_Outline_is_bounded : Mth l.prog w K mg base C_Outline_ "is_bounded" 1 ["self"] (spIsB K C_Outline_) _ _ := ⟨cl_Outline, ⟨a_Outline_is_bounded, i_Outline_is_bounded, k_Outline_is_bounded⟩, ok_is_bounded T RO F_Outline_is_bounded, b_Outline_is_bounded⟩
  have C_Outline_whole_ends : Mth l.prog w K mg base C_Outline_ "whole_ends" 2 ["self"] (spEnds K C_Outline_) _ _ := ⟨cl_Outline, ⟨a_Outline_whole_ends, i_Outline_whole_ends, k_Outline_whole_ends⟩, ok_whole_ends T RO C_ceil_of C_floor_of F_Outline_whole_ends, b_Outline_whole_ends⟩
  have C_total : Has l.prog w K mg base "total" 3 ["a", "b", "m", "many"] spTotal _ _ := ⟨ok_total C_check_numbers C_check_from F_total, g_total, F_total.kp, b_total⟩
  have C_chain_total : Has l.prog w K mg base "chain_total" 4 ["chain", "first", "last"] (spChainT K) _ _ := ⟨ok_chain_total T C_ceil_of C_total F_chain_total, g_chain_total, F_chain_total.kp, b_chain_total⟩
  have C_decide : Has l.prog w K mg base "decide" 1 ["rows"] spNever _ _ := ⟨never_ok, g_decide, F_decide.kp, b_decide⟩
  have C_count_of : Has l.prog w K mg base "count_of" 14 ["rows"] (spCountOf K) _ _ := ⟨ok_count_of T RO C_Outline C_Outline_is_bounded C_decide C_Outline_whole_ends C_chain_total F_count_of, g_count_of, F_count_of.kp, b_count_of⟩
  have C_is_line_row : Has l.prog w K mg base "is_line_row" 2 ["row"] (spRow K) _ _ := ⟨ok_is_line_row T C_is_number F_is_line_row, g_is_line_row, F_is_line_row.kp, b_is_line_row⟩
  have C_line_rows : Has l.prog w K mg base "line_rows" 3 ["rows"] (spLineRows K) _ _ := ⟨ok_line_rows T C_is_line_row F_line_rows, g_line_rows, F_line_rows.kp, b_line_rows⟩
  have C_Region : Made l.prog w K mg base "Region" 4 ["self", "rows"] (spRegI K C_Region_) C_Region_ _ _ := ⟨⟨mk_Region, a_Region___init__, i_Region___init__, kc_Region⟩, ok_RegI RR C_line_rows F_Region___init__, g_Region, b_Region___init__⟩
  have C_count : HasX l.prog w K mg base "count" 15 ["region"] (spCount K C_Region_) _ _ := ⟨ok_count T RR C_check_size C_count_of F_count, g_count, F_count.kp, b_count⟩
  have C__law_number : Has l.prog w K mg base "_law_number" 1 ["script", "index"] (spNumber K) _ _ := ⟨ok__law_number T F__law_number, g__law_number, F__law_number.kp, b__law_number⟩
  have C__law_take : Has l.prog w K mg base "_law_take" 2 ["draw", "many"] (spTake K) _ _ := ⟨ok__law_take T C__law_number F__law_take, g__law_take, F__law_take.kp, b__law_take⟩
  have C__law_long : Has l.prog w K mg base "_law_long" 3 ["draw", "figures_v"] (spLong K) _ _ := ⟨ok__law_long T C__law_take F__law_long, g__law_long, F__law_long.kp, b__law_long⟩
  have C__law_bezout : Has l.prog w K mg base "_law_bezout" 1 ["one", "other"] (spBez K) _ _ := ⟨ok_bezout T F__law_bezout, g__law_bezout, F__law_bezout.kp, b__law_bezout⟩
  exact ok_law T C__law_take C__law_long C__law_bezout C_Region C_count C_total F_law
end K29
open PySem PySem.W PyProof.Rows
set_option maxHeartbeats 0 in
theorem PySem.Challenge.cw_pointorstrip_k29_points_under_lines_holds : PySem.Challenge.rw_pointorstrip_k29_points_under_lines.Holds := by
  w_on; o_law; k_head; (case hw => w_witness2)
  k_fill
  refine L2.walk_of (l := PySem.Challenge.rw_pointorstrip_k29_points_under_lines) (n := 63) (k := 17) (x := "script") (CX := fun _ => L2.CX0) (sp := fun w => K29.spLaw _) rfl (by decide) rfl ⟨rfl, by decide, by decide⟩ (fun w h Y => PySem.W.kIn_of Y) ?F (fun _ _ a ns hl _ hS => ⟨a, ns, rfl, hS, hl, fun _ => rfl⟩) (fun _ _ _ _ _ h => h)
  case F =>
    intro w mg fa h KX G hmg
    refine' K29.all_mk KX G hmg ?a_is_line_row ?l_is_line_row ?c_is_line_row ?k_is_line_row ?a_line_rows ?l_line_rows ?c_line_rows ?k_line_rows ?a__law_number ?l__law_number ?c__law_number ?k__law_number ?a__law_take ?l__law_take ?c__law_take ?k__law_take ?a__law_long ?l__law_long ?c__law_long ?k__law_long ?a__law_bezout ?l__law_bezout ?c__law_bezout ?k__law_bezout ?a_law ?l_law ?c_law ?k_law ?a_is_number ?l_is_number ?c_is_number ?k_is_number ?a_check_numbers ?l_check_numbers ?c_check_numbers ?k_check_numbers ?a_check_from ?l_check_from ?c_check_from ?k_check_from ?a_power ?l_power ?c_power ?k_power ?a_figures ?l_figures ?c_figures ?k_figures ?a_check_size ?l_check_size ?c_check_size ?k_check_size ?a_check_figures ?l_check_figures ?c_check_figures ?k_check_figures ?a_below ?l_below ?c_below ?k_below ?a_floor_of ?l_floor_of ?c_floor_of ?k_floor_of ?a_ceil_of ?l_ceil_of ?c_ceil_of ?k_ceil_of ?a_parallel ?l_parallel ?c_parallel ?k_parallel ?a_crossing ?l_crossing ?c_crossing ?k_crossing ?a_comes_first ?l_comes_first ?c_comes_first ?k_comes_first ?a_by_slope ?l_by_slope ?c_by_slope ?k_by_slope ?a_tightest ?l_tightest ?c_tightest ?k_tightest ?a_tight_pairs ?l_tight_pairs ?c_tight_pairs ?k_tight_pairs ?a_weights_of ?l_weights_of ?c_weights_of ?k_weights_of ?a_empty_three ?l_empty_three ?c_empty_three ?k_empty_three ?a_chain_total ?l_chain_total ?c_chain_total ?k_chain_total ?a_total ?l_total ?c_total ?k_total ?a_count_of ?l_count_of ?c_count_of ?k_count_of ?a_count ?l_count ?c_count ?k_count ?a_decide ?l_decide ?c_decide ?k_decide ?aC_Region ?aC_Outline ?a_Region___init__ ?i_Region___init__ ?l_Region___init__ ?c_Region___init__ ?k_Region___init__ ?a_Outline___init__ ?i_Outline___init__ ?l_Outline___init__ ?c_Outline___init__ ?k_Outline___init__ ?a_Outline__bound ?i_Outline__bound ?l_Outline__bound ?c_Outline__bound ?k_Outline__bound ?a_Outline__clash ?i_Outline__clash ?l_Outline__clash ?c_Outline__clash ?k_Outline__clash ?a_Outline_is_bounded ?i_Outline_is_bounded ?l_Outline_is_bounded ?c_Outline_is_bounded ?k_Outline_is_bounded ?a_Outline_whole_ends ?i_Outline_whole_ends ?l_Outline_whole_ends ?c_Outline_whole_ends ?k_Outline_whole_ends ?pg_Region ?hd_Region ?po_Region ?sa_Region ?mk_Region ?kc_Region ?n_Region_rows ?pg_Outline ?hd_Outline ?po_Outline ?sa_Outline ?mk_Outline ?kc_Outline ?n_Outline_uppers ?n_Outline_lowers ?n_Outline_low ?n_Outline_low_parts ?n_Outline_high ?n_Outline_high_parts ?n_Outline_weights ?aB_TooLarge ?xB_TooLarge ?rB_TooLarge ?saB_TooLarge ?gaB_TooLarge ?ggB_TooLarge ?nB_TooLarge ?iB_TooLarge ?fnB_TooLarge ?cdB_TooLarge ?rwB_TooLarge ?ceB_TooLarge ?coB_TooLarge ?vsB_TooLarge ?fiB_TooLarge ?tI_TooLarge ?kB_TooLarge ?exB_TooLarge ?veB_TooLarge ?tyB_TooLarge ?hdB_TooLarge ?sB_TooLarge ?mB_TooLarge ?suB_TooLarge ?xiB_TooLarge ?opq ?nos ?topB ?y_gcd ?z_len ?z_range ?z_int ?z_bool ?z_isinstance ?z_tuple ?z_list ?z_enumerate ?z_all ?z_abs ?z_min ?z_max ?z_sum ?z_zip ?z_ValueError ?z_MOST_ROWS ?z_MOST_FIGURES
    (case a_is_line_row => k_is)
    (case l_is_line_row => k_is)
    (case c_is_line_row => k_is)
    (case k_is_line_row => k_is)
    (case a_line_rows => k_is)
    (case l_line_rows => k_is)
    (case c_line_rows => k_is)
    (case k_line_rows => k_is)
    (case a__law_number => k_is)
    (case l__law_number => k_is)
    (case c__law_number => k_is)
    (case k__law_number => k_is)
    (case a__law_take => k_is)
    (case l__law_take => k_is)
    (case c__law_take => k_is)
    (case k__law_take => k_is)
    (case a__law_long => k_is)
    (case l__law_long => k_is)
    (case c__law_long => k_is)
    (case k__law_long => k_is)
    (case a__law_bezout => k_is)
    (case l__law_bezout => k_is)
    (case c__law_bezout => k_is)
    (case k__law_bezout => k_is)
    (case a_law => k_is)
    (case l_law => k_is)
    (case c_law => k_is)
    (case k_law => k_is)
    (case a_is_number => k_is)
    (case l_is_number => k_is)
    (case c_is_number => k_is)
    (case k_is_number => k_is)
    (case a_check_numbers => k_is)
    (case l_check_numbers => k_is)
    (case c_check_numbers => k_is)
    (case k_check_numbers => k_is)
    (case a_check_from => k_is)
    (case l_check_from => k_is)
    (case c_check_from => k_is)
    (case k_check_from => k_is)
    (case a_power => k_is)
    (case l_power => k_is)
    (case c_power => k_is)
    (case k_power => k_is)
    (case a_figures => k_is)
    (case l_figures => k_is)
    (case c_figures => k_is)
    (case k_figures => k_is)
    (case a_check_size => k_is)
    (case l_check_size => k_is)
    (case c_check_size => k_is)
    (case k_check_size => k_is)
    (case a_check_figures => k_is)
    (case l_check_figures => k_is)
    (case c_check_figures => k_is)
    (case k_check_figures => k_is)
    (case a_below => k_is)
    (case l_below => k_is)
    (case c_below => k_is)
    (case k_below => k_is)
    (case a_floor_of => k_is)
    (case l_floor_of => k_is)
    (case c_floor_of => k_is)
    (case k_floor_of => k_is)
    (case a_ceil_of => k_is)
    (case l_ceil_of => k_is)
    (case c_ceil_of => k_is)
    (case k_ceil_of => k_is)
    (case a_parallel => k_is)
    (case l_parallel => k_is)
    (case c_parallel => k_is)
    (case k_parallel => k_is)
    (case a_crossing => k_is)
    (case l_crossing => k_is)
    (case c_crossing => k_is)
    (case k_crossing => k_is)
    (case a_comes_first => k_is)
    (case l_comes_first => k_is)
    (case c_comes_first => k_is)
    (case k_comes_first => k_is)
    (case a_by_slope => k_is)
    (case l_by_slope => k_is)
    (case c_by_slope => k_is)
    (case k_by_slope => k_is)
    (case a_tightest => k_is)
    (case l_tightest => k_is)
    (case c_tightest => k_is)
    (case k_tightest => k_is)
    (case a_tight_pairs => k_is)
    (case l_tight_pairs => k_is)
    (case c_tight_pairs => k_is)
    (case k_tight_pairs => k_is)
    (case a_weights_of => k_is)
    (case l_weights_of => k_is)
    (case c_weights_of => k_is)
    (case k_weights_of => k_is)
    (case a_empty_three => k_is)
    (case l_empty_three => k_is)
    (case c_empty_three => k_is)
    (case k_empty_three => k_is)
    (case a_chain_total => k_is)
    (case l_chain_total => k_is)
    (case c_chain_total => k_is)
    (case k_chain_total => k_is)
    (case a_total => k_is)
    (case l_total => k_is)
    (case c_total => k_is)
    (case k_total => k_is)
    (case a_count_of => k_is)
    (case l_count_of => k_is)
    (case c_count_of => k_is)
    (case k_count_of => k_is)
    (case a_count => k_is)
    (case l_count => k_is)
    (case c_count => k_is)
    (case k_count => k_is)
    (case a_decide => k_is)
    (case l_decide => k_is)
    (case c_decide => k_is)
    (case k_decide => k_is)
    (case aC_Region => k_is)
    (case aC_Outline => k_is)
    (case a_Region___init__ => k_is)
    (case i_Region___init__ => k_is)
    (case l_Region___init__ => k_is)
    (case c_Region___init__ => k_is)
    (case k_Region___init__ => k_is)
    (case a_Outline___init__ => k_is)
    (case i_Outline___init__ => k_is)
    (case l_Outline___init__ => k_is)
    (case c_Outline___init__ => k_is)
    (case k_Outline___init__ => k_is)
    (case a_Outline__bound => k_is)
    (case i_Outline__bound => k_is)
    (case l_Outline__bound => k_is)
    (case c_Outline__bound => k_is)
    (case k_Outline__bound => k_is)
    (case a_Outline__clash => k_is)
    (case i_Outline__clash => k_is)
    (case l_Outline__clash => k_is)
    (case c_Outline__clash => k_is)
    (case k_Outline__clash => k_is)
    (case a_Outline_is_bounded => k_is)
    (case i_Outline_is_bounded => k_is)
    (case l_Outline_is_bounded => k_is)
    (case c_Outline_is_bounded => k_is)
    (case k_Outline_is_bounded => k_is)
    (case a_Outline_whole_ends => k_is)
    (case i_Outline_whole_ends => k_is)
    (case l_Outline_whole_ends => k_is)
    (case c_Outline_whole_ends => k_is)
    (case k_Outline_whole_ends => k_is)
    (case pg_Region => k_is)
    (case hd_Region => k_is)
    (case po_Region => k_is)
    (case sa_Region => k_is)
    (case mk_Region => k_is)
    (case kc_Region => k_is)
    (case n_Region_rows => k_is)
    (case pg_Outline => k_is)
    (case hd_Outline => k_is)
    (case po_Outline => k_is)
    (case sa_Outline => k_is)
    (case mk_Outline => k_is)
    (case kc_Outline => k_is)
    (case n_Outline_uppers => k_is)
    (case n_Outline_lowers => k_is)
    (case n_Outline_low => k_is)
    (case n_Outline_low_parts => k_is)
    (case n_Outline_high => k_is)
    (case n_Outline_high_parts => k_is)
    (case n_Outline_weights => k_is)
    (case aB_TooLarge => k_is)
    (case xB_TooLarge => k_is)
    (case rB_TooLarge => first | rfl | decide +kernel)
    (case saB_TooLarge => k_is)
    (case gaB_TooLarge => k_is)
    (case ggB_TooLarge => k_is)
    (case nB_TooLarge => k_is)
    (case iB_TooLarge => k_is)
    (case fnB_TooLarge => k_is)
    (case cdB_TooLarge => k_is)
    (case rwB_TooLarge => first | rfl | decide)
    (case ceB_TooLarge => k_is)
    (case coB_TooLarge => k_is)
    (case vsB_TooLarge => first | rfl | k_is)
    (case fiB_TooLarge => first | rfl | decide +kernel)
    (case tI_TooLarge => k_is)
    (case kB_TooLarge => k_is)
    (case exB_TooLarge => k_is)
    (case veB_TooLarge => k_is)
    (case tyB_TooLarge => k_is)
    (case hdB_TooLarge => k_is)
    (case sB_TooLarge => first | rfl | k_is)
    (case mB_TooLarge => k_is)
    (case suB_TooLarge => ks_is)
    (case xiB_TooLarge => kernel_rfl)
    (case opq => k_is)
    (case nos => k_is)
    (case topB => first | rfl | decide +kernel)
    (case y_gcd => k_is)
    (case z_len => k_is)
    (case z_range => k_is)
    (case z_int => k_is)
    (case z_bool => k_is)
    (case z_isinstance => k_is)
    (case z_tuple => k_is)
    (case z_list => k_is)
    (case z_enumerate => k_is)
    (case z_all => k_is)
    (case z_abs => k_is)
    (case z_min => k_is)
    (case z_max => k_is)
    (case z_sum => k_is)
    (case z_zip => k_is)
    (case z_ValueError => k_is)
    (case z_MOST_ROWS => k_is)
    (case z_MOST_FIGURES => k_is)
