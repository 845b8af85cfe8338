import PyProof.Rows.All
import Wide.All
import OpenK.AllK
import Wide.FinOn
import KE.KExcSuper
import HandS.Base
import HandS.Call
import HandS.Exc
import HandS.ExcSuper
import HandS.ExcInit
import HandS.Words
import HandS.HeadWalk
import HandS.CallRecv
import KE.KExcIs
import HandS.List
import HandS.IsInst
import HandS.WordsExc
import HandS.Defaults
import HandS.ForMost
import HandS.Head0
import HandS.Head1
import HandS.Head2
import HandS.HeadEnd
import HandS.HeadHook1
import HandS.HeadHook2
import HandS.Walk
import HandS.ExcValue
import HandS.ExcBuiltin
import PySem.Challenge.RW_reslot_k19_exceptions
set_option Elab.async false
set_option linter.all false
set_option maxRecDepth 100000
set_option maxHeartbeats 4000000
set_option autoImplicit false
/-! own exceptions: class X(S): def __init__(self, f): super().__init__('..'); self.f = f -/
namespace PySem
namespace EsX
open PySem.W PySem.Calls PyProof.Rows PySem.HandSPX
/-! ### the text of such an __init__ -/
def iA (F : Str) (p1 p2 : Pos) : Arguments := { posonlyargs := [], args := [{ arg := "self", annotation := none, pos := p1 }, { arg := F, annotation := none, pos := p2 }], vararg := none, kwonlyargs := [], kw_defaults := [], kwarg := none, defaults := [] }
structure Ps where
  p0 : Pos
  p1 : Pos
  p2 : Pos
  p3 : Pos
  p4 : Pos
  p5 : Pos
  p6 : Pos
  p7 : Pos
  p8 : Pos
  p9 : Pos
def iB (F msg : Str) (q : Ps) : List Stmt :=
  [.Expr (.Call (.Attribute (.Call (.Name "super" q.p0) [] [] q.p1) "__init__" q.p2) [.Constant (.str msg) 0 q.p3] [] q.p4) q.p5,
   .Assign [.Attribute (.Name "self" q.p6) F q.p7] (.Name F q.p8) q.p9]
def iS (F : Str) : Scope := { kind := .function, names := [(PySem.Str.ofString "self", .local), (F, .local), (PySem.Str.ofString "__class__", .free), (PySem.Str.ofString "super", .globalImplicit)], isGenerator := false, isCoroutine := false, more := [] }
/-- what the written part says of the class X at C, its __init__ at fI, its cell at cc -/
structure ExTxt (P : Program) (K : Frag) (X F : Str) (C : Addr) : Prop where
  cls : ∃ nm q N bs bm sn sub ab col dd k0 k1 k2 k3 k5, K.lookup C = some (excClassObj nm q C N bs bm true sn sub ab col dd k0 k1 k2 k3 k5 "ValueError.__new__") ∧ refsVE bm = true ∧ alongIn K "__init__" bm = some (some (.builtin "ValueError.__init__"))
  sa : findIn K (.ref C) "__setattr__" = some (some (.builtin "object.__setattr__"))
  ga : findIn K (.ref C) "__getattribute__" = some (some (.builtin "BaseException.__getattribute__"))
  gg : findIn K (.ref C) "__getattr__" = some none
  noN : findIn K (.ref C) F = some none
  kC : keepIn K (.ref C) = true
  exC : subIn K (.ref C) (.type "BaseException") = some true
  veC : subIn K (.ref C) (.type "ValueError") = some true
  tyC : typeIn K (.ref C) = some (.type "type")
  hdC : hasDictIn K C = true
  opq : nsIn K cStatics "thirdparty.any" = some none
  noS : nsIn K mainGlobals "super" = some none
  top : (P.main.scope.names.lookup ("super" : Str)).isSome = false
  fn : ∃ (fI : Addr) (qual msg : Str) (oc : Value) (od : Option Addr) (doc pm : Value) (an : Option Addr) (cda : Addr) (ct : Value) (osl : Array (Option Value)) (p1 p2 : Pos) (ps : Ps) (cc : Addr) (ccl : Value) (ccd : Option Addr) (ccs : Array (Option Value)) (vs : Array Value) (kcl : Value) (kcd : Option Addr) (kcs : Array (Option Value)) (tf : Tok),
    findIn K (.ref C) "__init__" = some (some (.ref fI)) ∧ typeIn K (.ref fI) = some (.type "function") ∧
    K.lookup fI = some ⟨oc, od, .func (ksFn "__init__" qual (iA F p1 p2) (iB F msg ps) (iS F) .none .none doc pm an (.ref cda) ct cc), osl⟩ ∧ codeIn K (.ref cda) qual = true ∧
    K.lookup cc = some ⟨ccl, ccd, .cell (some (.ref C)), ccs⟩ ∧ K.lookup cda = some ⟨kcl, kcd, .fields vs, kcs⟩ ∧ vs[2]? = some (.str P.main.file tf) ∧ (ps.p2.endLine == ps.p4.line) = true
  bnd : ∀ (qual : Str) (p1 p2 : Pos) (body : List Stmt) (doc pm : Value) (an : Option Addr) (cdv ct : Value) (cc : Addr) (u v : Value), bindArgs (ksFn "__init__" qual (iA F p1 p2) body (iS F) .none .none doc pm an cdv ct cc) ⟨[u, v], []⟩ = pure [(("self" : Str), u), (F, v)]
  bndK : ∀ (qual : Str) (p1 p2 : Pos) (body : List Stmt) (doc pm : Value) (an : Option Addr) (cdv ct : Value) (cc : Addr) (u v : Value), bindArgs (ksFn "__init__" qual (iA F p1 p2) body (iS F) .none .none doc pm an cdv ct cc) ⟨[u], [(F, v)]⟩ = pure [(("self" : Str), u), (F, v)]
  fne : (F == ("self" : Str)) = false ∧ (F == ("__class__" : Str)) = false ∧ (F == ("super" : Str)) = false ∧ (F == ("__debug__" : Str)) = false ∧ (("self" : Str) == F) = false ∧ (("__class__" : Str) == F) = false ∧ (("super" : Str) == F) = false

theorem bwc_attr : (Value.type "method-wrapper" != Value.type "method") = true := by decide
section
variable {prog : Program} {w : World} {A : Around} {E : Value → Shared → Prop} {h : Heap} {g : Array GenState} {d : Drawn} {t : Nat} {os : OsState}
variable {nm q : Str} {C N : Addr} {bs bm : List Value} {hdct : Bool} {sn : List Str} {sub : List Value} {ab : Bool} {col : Option Bool} {dd : Option Addr} {k0 k1 k2 k3 k5 : Option Value}
/-- super().__init__'s wrapper, called -/
theorem call_mw {u e t0 : Addr} {rest : List Value} {Q : Value → Shared → Prop}
    (hC : h.get? C = some (excClassObj nm q C N bs bm hdct sn sub ab col dd k0 k1 k2 k3 k5 "ValueError.__new__")) (he : h.get? e = some (HandSPX.excO C t0)) (hu : h.get? u = some (kxs_mw "ValueError.__init__" e)) (hrest : rest.length ≤ sizeLine)
    (hq : ∀ h' t1, (∀ b o, b ≠ e → h.get? b = some o → h'.get? b = some o) → h'.get? e = some (HandSPX.excO C t1) → Q .none ⟨h', g, d, t, os⟩) :
    wpAny (model prog w) A (call (.ref u) rest) Q E ⟨h, g, d, t, os⟩ := by
  refine wpAny_call (codeAny_of_tree ?_)
  show wpAny _ A.in1 (callAny (.ref u) ⟨rest, []⟩) _ _ _
  simp only [callAny]
  refine wpAny_bind (wpAny_load hu ?_)
  simp only [kxs_mw, show (Value.type "method-wrapper" == Value.type "method" || Value.type "method-wrapper" == Value.type "builtin_function_or_method" || Value.type "method-wrapper" == Value.type "method-wrapper") = true by decide, if_true]
  refine KFB.if_so (by decide) ?_
  refine wpAny_bind (ESX.check_bound F.excBase_ValueError hC he rfl ?_)
  refine wpAny_bind (wpAny_pure (wpAny_pure ?_))
  refine ⟨Code.quiet_builtin _ (by decide +kernel), codeAny_builtin F.excBase_ValueError.initEntry ?_⟩
  rw [Around.under_plainId F.excBase_ValueError.init.plain _]
  wp_walk
  refine hq _ h.objs.size (fun b o hb ho => ?_) ?_
  · rw [Heap.get?_update_other _ _ (Ne.symm hb)]
    exact Heap.get?_push_of_some _ ho
  · rw [Heap.get?_update_self _ (Heap.get?_push_of_some _ he) rfl]
    rfl
end
end EsX
end PySem
namespace PySem
namespace EsX
open PySem.W PySem.Calls PyProof.Rows PySem.HandSPX
/-- what __init__ leaves of a fresh exception at x -/
structure InitEnd (h h' : Heap) (x C dx t1 : Addr) (F : Str) (v : Value) : Prop where
  keep : ∀ b o, b ≠ x → h.get? b = some o → h'.get? b = some o
  obj : h'.get? x = some { cls := .ref C, dict := some dx, data := .fields #[.ref t1, .none, .none, .none, .bool false, .none] }
  dbig : h.objs.size ≤ dx
  dne : dx ≠ x
  ns : h'.Ns1 dx (fun y => if y = F then some v else none)
theorem lk_self (F : Str) (x v : Value) (hF : (("self" : Str) == F) = false) : ((([("self", x), (F, v)] : List (Str × Value)).reverse).lookup ("self" : Str)) = some x := by
  show (match ("self" : Str) == F with | true => some v | false => (match ("self" : Str) == ("self" : Str) with | true => some x | false => none)) = some x
  rw [hF]
  rfl
theorem lk_f (F : Str) (x v : Value) : ((([("self", x), (F, v)] : List (Str × Value)).reverse).lookup F) = some v := by
  show (match F == F with | true => some v | false => _) = some v
  rw [show (F == F) = true from beq_self_eq_true F]
theorem sc_self (F : Str) : (iS F).names.lookup ("self" : Str) = some .local := rfl
theorem sc_f {F : Str} (h : (F == ("self" : Str)) = false) : (iS F).names.lookup F = some .local := by
  show (match F == ("self" : Str) with | true => some NameKind.local | false => (match F == F with | true => some NameKind.local | false => _)) = some NameKind.local
  rw [h, show (F == F) = true from beq_self_eq_true F]
theorem sc_cls {F : Str} (h : (("__class__" : Str) == F) = false) : (iS F).names.lookup ("__class__" : Str) = some .free := by
  show (match ("__class__" : Str) == ("self" : Str) with | true => some NameKind.local | false => (match ("__class__" : Str) == F with | true => some NameKind.local | false => some NameKind.free)) = some NameKind.free
  rw [h]
  rfl
theorem sc_super {F : Str} (h : (("super" : Str) == F) = false) : (iS F).names.lookup ("super" : Str) = some .globalImplicit := by
  show (match ("super" : Str) == ("self" : Str) with | true => some NameKind.local | false => (match ("super" : Str) == F with | true => some NameKind.local | false => some NameKind.globalImplicit)) = some NameKind.globalImplicit
  rw [h]
  rfl
theorem mro_drop {C : Addr} (bm : List Value) : ((Value.ref C :: bm).dropWhile (· != .ref C)).drop 1 = bm := by
  simp [List.dropWhile_cons]
section
variable {prog : Program} {w : World} {A : Around} {E : Value → Shared → Prop} {R : Result → Shared → Prop} {s : Shared} {K : Frag} {mg mb : Str → Option Value} {X F : Str} {C : Addr}
theorem clsIn_of {nm q : Str} {N : Addr} {bs bm : List Value} {sn : List Str} {sub : List Value} {ab : Bool} {col : Option Bool} {dd : Option Addr} {k0 k1 k2 k3 k5 : Option Value}
    (hC : K.lookup C = some (excClassObj nm q C N bs bm true sn sub ab col dd k0 k1 k2 k3 k5 "ValueError.__new__")) :
    clsIn K C = some { name := nm, bases := bs, mro := .ref C :: bm, ns := N, qualname := q, hasDict := true, slotNames := sn, subclasses := sub, abstract := ab, collection := col, hasDel := false } := by
  unfold clsIn; rw [hC] <;> rfl
theorem es_init (T : ExTxt prog K X F C) {fI : Addr} {qual msg : Str} {oc : Value} {od : Option Addr} {doc pm : Value} {an : Option Addr} {cda : Addr} {ct : Value} {osl : Array (Option Value)} {p1 p2 : Pos} {ps : Ps} {cc : Addr} {ccl : Value} {ccd : Option Addr} {ccs : Array (Option Value)} {vs : Array Value} {kcl : Value} {kcd : Option Addr} {kcs : Array (Option Value)} {tf : Tok}
    (lf : K.lookup fI = some ⟨oc, od, .func (ksFn "__init__" qual (iA F p1 p2) (iB F msg ps) (iS F) .none .none doc pm an (.ref cda) ct cc), osl⟩) (hcd : codeIn K (.ref cda) qual = true)
    (lc : K.lookup cc = some ⟨ccl, ccd, .cell (some (.ref C)), ccs⟩) (lk : K.lookup cda = some ⟨kcl, kcd, .fields vs, kcs⟩) (hv2 : vs[2]? = some (.str prog.main.file tf))
    {x t0 : Addr} {v : Value} {a : Args} (hbd : ∀ (qual : Str) (p1 p2 : Pos) (body : List Stmt) (doc pm : Value) (an : Option Addr) (cdv ct : Value) (cc : Addr), bindArgs (ksFn "__init__" qual (iA F p1 p2) body (iS F) .none .none doc pm an cdv ct cc) a = pure [(("self" : Str), .ref x), (F, v)]) (hps : (ps.p2.endLine == ps.p4.line) = true) (KX : K.In s.heap) (G : s.heap.Ns mainGlobals mg) (B : s.heap.Ns builtinsNs mb) (hmb : mb "super" = some (.type "super")) (hlim : s.heap.NoLimit) (hx : s.heap.get? x = some (excO C t0)) (hnx : K.lookup x = none) (hroom : A.depth < recursionLimit)
    (hq : ∀ h' tk dx t1, InitEnd s.heap h' x C dx t1 F v → R (.ok (.ret .none)) { s with heap := h', toks := tk }) :
    codeAny (model prog w) A (.call (.ref fI) a) R s := by
  obtain ⟨nm, q, N, bs, bm, sn, sub, ab, col, dd, k0, k1, k2, k3, k5, hC, hbm, hal⟩ := T.cls
  obtain ⟨n1, n2, n3, n4, n5, n6, n7⟩ := T.fne
  have hcl := clsIn_of hC
  have ls := sc_self F
  have lF := sc_f n1
  have lcl := sc_cls n6
  have lsu := sc_super n7
  refine ks_codeAny_call_defAt (fd := ksFn "__init__" qual (iA F p1 p2) (iB F msg ps) (iS F) .none .none doc pm an (.ref cda) ct cc) (body := iB F msg ps) (binds := [("self", .ref x), (F, v)]) hroom (KX _ _ lf) rfl hlim (codeRec_of KX hcd) rfl ?hb ?hce ?hlo (fun h₁ hns hk₁ => ?_)
  case hb =>
    exact BindsTo.of_eq (hbd _ _ _ _ _ _ _ _ _ _)
  case hce =>
    intro y hy
    have hy' : y ∈ [(PySem.Str.ofString "self", NameKind.local), (F, NameKind.local), (PySem.Str.ofString "__class__", NameKind.free), (PySem.Str.ofString "super", NameKind.globalImplicit)] := hy
    simp only [List.mem_cons, List.not_mem_nil, or_false] at hy'
    rcases hy' with rfl | rfl | rfl | rfl <;> exact fun z => by cases z
  case hlo =>
    intro y hy
    simp only [List.mem_cons, List.not_mem_nil, or_false] at hy
    rcases hy with rfl | rfl
    · exact ls
    · exact lF
  have X₁ : K.In h₁ := KX.keeps hk₁
  have hx₁ := hk₁ _ _ hx
  have hD₁ := X₁ _ _ hC
  have hsx : s.heap.objs.size ≠ x := Nat.ne_of_gt (Heap.lt_size hx)
  obtain ⟨hp, g, dr, tk, os⟩ := s
  show wpAt _ _ _ (execs (iB F msg ps) (ksEnv qual (iS F) hp.objs.size fI (.ref cda) cc)) _ _ _
  unfold iB
  refine ks_wpAt_execs_cons (ks_wpAt_Expr_any (ks_wpAt_MethodCall (pl := ?pl) ?_ ?he) ?hi ?hs)
  case hi => rfl
  case hs => rfl
  case pl => exact L2.plainOf (.Call (.Name "super" ps.p0) [] [] ps.p1) (ksEnv qual (iS F) hp.objs.size fI (.ref cda) cc)
  case he =>
    rw [arm_eval_Call]
    refine congrArg _ (funext fun ov => congrArg _ (funext fun _ => ?_))
    exact L2.mcall_line (by rfl) hps
  refine ks_wpAt_super_base (env := ksEnv qual (iS F) hp.objs.size fI (.ref cda) cc) lsu lcl (attr := "__init__") (by decide) rfl (X₁ _ _ lf) rfl rfl rfl (X₁ _ _ lk) rfl hv2 (by simp) T.top ?_
  have G₁ : h₁.Ns mainGlobals mg := G.keeps hk₁
  have B₁ : h₁.Ns builtinsNs mb := B.keeps hk₁
  have sup : mg "super" = none := mg_none_of KX G T.noS
  refine ks_loadName_global rfl lsu (loadGlobal_builtin (env := ksEnv qual (iS F) hp.objs.size fI (.ref cda) cc) G₁ sup B₁ hmb ⟨rfl, ?_⟩)
  refine wpAny_loadName_free rfl lcl rfl ⟨_, X₁ _ _ lc, rfl⟩ ?_
  refine wpAny_loadName_local rfl ls hns (lk_self F _ _ n5) ?_
  refine ks_wpAny_isType_cls hD₁ rfl ⟨rfl, ?_⟩
  have msub : mroIn K C (.ref C) = some true := by
    unfold mroIn
    rw [hcl]
    simp
  refine ks_wpAny_call_super hD₁ rfl hx₁ rfl (fun c e => by cases e) (looks_mroIn X₁ msub) (fun h₂ e₂ kp₂ => ?_)
  have X₂ : K.In h₂ := X₁.keeps kp₂
  have hx₂ := kp₂ _ _ hx₁
  have I₂ : PySem.W.InstAt h₂ x (excO C t0) C none := ⟨hx₂, rfl, rfl, trivial⟩
  have hxC : x ≠ C := ks_ne X₂ I₂ hcl
  have hI₂ : Looks (model prog w) h₂ (isInstance (.ref x) (.type "ValueError")) true := I₂.type.andThen (looks_subIn X₂ T.veC)
  refine kxs_getMethod kxs_ValueError e₂ (looks_opaque X₂ T.opq) (l₀ := .ref C :: bm) ?_ (mro_drop bm) X₂ hal hI₂ hxC (by decide) ?_
  · exact ((looks_clsIn X₂ hcl).andThen .now)
  have hu₃ : (h₂.push (kxs_mw "ValueError.__init__" x)).get? h₂.objs.size = some (kxs_mw "ValueError.__init__" x) := Heap.get?_push_at rfl rfl
  refine kxs_callWith (i := "ValueError.__init__") (x := x) rfl (evalArgs_plain ?_)
  show wpAny _ _ (spliced ((false, eval (.Constant (.str msg) 0 ps.p3) (ksEnv qual (iS F) hp.objs.size fI (.ref cda) cc)) :: backTo ps.p4 (starEach [] (ksEnv qual (iS F) hp.objs.size fI (.ref cda) cc)))) _ _ _
  refine Calls.spliced_cons (wpAny_Constant_str (Calls.spliced_nil ⟨hu₃, ?_⟩))
  have X₃ : K.In (h₂.push (kxs_mw "ValueError.__init__" x)) := X₂.keeps fun b o e => Heap.get?_push_of_some _ e
  have hx₃ : (h₂.push (kxs_mw "ValueError.__init__" x)).get? x = some (excO C t0) := Heap.get?_push_of_some _ hx₂
  refine call_mw (X₃ _ _ hC) hx₃ hu₃ (by show 1 ≤ sizeLine; rw [sizeLine_eq]; omega) (fun h₄ t1 kp₄ hx₄ => ?_)
  refine wpAt_of_wpAny ?_
  have kp14 : ∀ b o, b ≠ x → h₁.get? b = some o → h₄.get? b = some o := fun b o hb e => kp₄ b o hb (Heap.get?_push_of_some _ (kp₂ b o e))
  have X₄ : K.In h₄ := fun b o e => kp14 b o (fun z => by rw [z, hnx] at e; cases e) (X₁ b o e)
  have hns₄ : h₄.Ns hp.objs.size (fun y => ([(("self" : Str), Value.ref x), (F, v)] : List (Str × Value)).reverse.lookup y) := by
    obtain ⟨o, es, ep, ho, hr⟩ := hns
    exact ⟨o, es, ep, kp14 _ _ hsx ho, hr⟩
  refine wpAny_execs_cons (plainObj_wpAny_Assign_Attribute ?_ ?hs2)
  case hs2 => rfl
  refine wpAny_Name (wpAny_loadName_local rfl lF hns₄ (lk_f F _ _) ?_) n4
  refine wpAny_Name (wpAny_loadName_local rfl ls hns₄ (lk_self F _ _ n5) ?_) (by decide)
  refine set_plain X₄ (ox := excO C t1) (od := none) ⟨hx₄, rfl, rfl, trivial⟩ T.sa ?_
  refine exc_osa X₄ hx₄ hcl (show refsVE (.ref C :: bm) = true from hbm) rfl T.noN (fun h₅ tk₅ dx k₅ dn dne hx₅ hn₅ => ?_)
  have kb : ∀ b o, b ≠ x → hp.get? b = some o → h₄.get? b = some o := fun b o hb e => kp14 b o hb (hk₁ b o e)
  have zz : hp.objs.size < h₄.objs.size := hns₄.lt
  exact wpAny_execs_nil (hq h₅ tk₅ dx t1 ⟨fun b o hb e => k₅ b o hb (kb b o hb e), hx₅, Nat.le_of_lt (Nat.lt_of_lt_of_le zz dn), dne, hn₅⟩)
end
end EsX
end PySem
namespace PySem
namespace EsX
open PySem.W PySem.Calls PyProof.Rows PySem.HandSPX
section
variable {M : Model} {A : Around} {E : Value → Shared → Prop} {h : Heap} {g : Array GenState} {d : Drawn} {t : Nat} {os : OsState}
variable {nm q : Str} {C N : Addr} {bs bm bmB : List Value} {hdct : Bool} {sn : List Str} {sub : List Value} {ab : Bool} {col : Option Bool} {dd : Option Addr} {k0 k1 k2 k3 k5 : Option Value} {B newId initId : String}
theorem check_new_kw (F : ExcBaseFacts B newId initId bmB) (hT : ∀ X : String, bm.contains (.type X) = bmB.contains (.type X)) {f : Str} {v : Value} {Q : Unit → Shared → Prop}
    (hC : h.get? C = some (excClassObj nm q C N bs bm hdct sn sub ab col dd k0 k1 k2 k3 k5 newId)) (hq : Q () ⟨h, g, d, t, os⟩) : wpAny M A (checkBuiltinCall newId ⟨[.ref C], [(f, v)]⟩) Q E ⟨h, g, d, t, os⟩ := by
  have hcont : (Value.ref C :: bm).contains (.type B) = true := by rw [List.contains_cons, hT, F.hasB, Bool.or_true]
  have hstar := F.noStar
  simp only [checkBuiltinCall, F.newKind, F.newSplit, F.newRow]
  repeat (first | refine wpAny_loadPart_at hC ?_ | (refine wpAny_isSubtype_exc hC ?_; rw [hcont]) | refine wpAny_staticBase_exc hC ?_ | refine wpAny_madeBy_exc hC ?_ | simp only [bne_self_eq_false, Bool.false_eq_true, if_false] | wp_step)
  exact hq
end
section
variable {prog : Program} {w : World} {A : Around} {E : Value → Shared → Prop} {R : Result → Shared → Prop} {h : Heap} {g : Array GenState} {d : Drawn} {t : Nat} {os : OsState}
variable {nm q : Str} {C N : Addr} {bs bm bmB : List Value} {hdct : Bool} {sn : List Str} {sub : List Value} {ab : Bool} {col : Option Bool} {dd : Option Addr} {k0 k1 k2 k3 k5 : Option Value} {B newId initId : String} {f : Str} {v : Value}
theorem new_kw (F : ExcBaseFacts B newId initId bmB) (hT : ∀ X : String, bm.contains (.type X) = bmB.contains (.type X))
    (hC : h.get? C = some (excClassObj nm q C N bs bm hdct sn sub ab col dd k0 k1 k2 k3 k5 newId))
    (hq : R (.ok (.ret (.ref (h.objs.size + 1)))) ⟨(h.push { cls := .type "tuple", data := .seq #[] }).push
      { cls := .ref C, data := .fields #[.ref h.objs.size, .none, .none, .none, .bool false, .none] }, g, d, t, os⟩) :
    codeAny (model prog w) A (.builtin newId ⟨[.ref C], [(f, v)]⟩) R ⟨h, g, d, t, os⟩ := by
  have hends := F.ends
  have hcB : (Value.ref C :: bm).contains (.type B) = true := by rw [List.contains_cons, hT, F.hasB, Bool.or_true]
  have hcA : (Value.ref C :: bm).contains (.type "AttributeError") = false := by rw [List.contains_cons, hT, F.noAttr]; rfl
  have hcN : (Value.ref C :: bm).contains (.type "NameError") = false := by rw [List.contains_cons, hT, F.noName]; rfl
  refine codeAny_builtinAt F.entry ?_
  unfold Builtin.«BaseException.__new__»
  refine wpAt_bind ?_
  show wpAt _ _ _ (stack >>= _) _ _ _
  refine wpAt_bind (wpAt_stack fun p below => wpAt_of_wpAny ?_)
  wp_walk
  refine wpAt_of_wpAny ?_
  rw [F.owner]
  repeat (first | with_reducible refine wpAny_madeHere_exc F.canon hC ?_ | with_reducible refine wpAny_loadPart_at hC ?_ | (with_reducible refine wpAny_isSubtype_exc hC ?_; first | rw [hcB] | rw [hcA] | rw [hcN]) | wp_step)
  show R _ _
  rw [Heap.size_push]
  exact hq
theorem type_call_kw (F : ExcBaseFacts B newId initId bmB) (hT : ∀ X : String, bm.contains (.type X) = bmB.contains (.type X)) {fI : Addr} {Q : Fin → Shared → Prop}
    (hC : h.get? C = some (excClassObj nm q C N bs bm hdct sn sub ab col dd k0 k1 k2 k3 k5 newId))
    (hi : W.Looks (model prog w) h (typeLookup (.ref C) "__init__") (some (.ref fI))) (hb : ∀ self, W.Looks (model prog w) h (bindSpecial (.ref fI) self) (.ref fI, [self]))
    (hq : codeAny (model prog w) A (.call (.ref fI) ⟨[.ref (h.objs.size + 1)], [(f, v)]⟩)
      (fun r s' => match r with | .ok (.ret v) => v = .none ∧ Q (.done (.ret (.ref (h.objs.size + 1)))) s' | .ok _ => False | .error e => E e s')
      ⟨(h.push (W.kdv_tup [])).push (excO C h.objs.size), g, d, t, os⟩) :
    wpAny (model prog w) A (Builtin.«type.__call__» ⟨[.ref C], [(f, v)]⟩) Q E ⟨h, g, d, t, os⟩ := by
  repeat (first | with_reducible refine wpAny_loadPart_at hC ?_ | with_reducible refine wpAny_madeBy_exc hC ?_ | wp_step)
  refine codeAny_call_builtin_code (Code.quiet_builtin _ F.quiet) (check_new_kw F hT hC ?_)
  refine new_kw F hT hC ?_
  show wpAny _ _ _ _ _ _
  have k : ∀ b o, h.get? b = some o → ((h.push (W.kdv_tup [])).push (excO C h.objs.size)).get? b = some o := fun b o e => Heap.get?_push_of_some _ (Heap.get?_push_of_some _ e)
  have hC₁ := k _ _ hC
  have hget : ((h.push (W.kdv_tup [])).push (excO C h.objs.size)).get? (h.objs.size + 1) = some (excO C h.objs.size) := by heap_get
  have hcC : (Value.ref C :: bm).contains (.ref C) = true := by simp
  have i1 := hi.keeps k
  have b1 := (hb (.ref (h.objs.size + 1))).keeps k
  unfold isInstance
  repeat (first | with_reducible refine wpAny_loadPart_at hget ?_ | (with_reducible refine wpAny_isSubtype_exc hC₁ ?_; rw [hcC]) | wp_step)
  show wpAny _ _ (typeLookup (.ref C) _) _ _ _
  refine i1.at ?_
  refine wpAny_holding (wpAny_bind (b1.at ?_))
  refine wpAny_bind (wpAny_call (codeAny_mono hq fun r s' z => ?_))
  rcases r with e | (v | _ | _ | _) <;> first | exact z | exact z.elim | skip
  obtain ⟨rfl, z⟩ := z
  first
    | exact wpAny_pure (wpAny_pure z)
    | (wp_walk; exact z)
theorem call_kw (F : ExcBaseFacts B newId initId bmB) (hT : ∀ X : String, bm.contains (.type X) = bmB.contains (.type X)) {fI : Addr}
    (hC : h.get? C = some (excClassObj nm q C N bs bm hdct sn sub ab col dd k0 k1 k2 k3 k5 newId))
    (hi : W.Looks (model prog w) h (typeLookup (.ref C) "__init__") (some (.ref fI))) (hb : ∀ self, W.Looks (model prog w) h (bindSpecial (.ref fI) self) (.ref fI, [self]))
    (hq : codeAny (model prog w) (A.under (.builtin "type.__call__" ⟨[.ref C], [(f, v)]⟩)) (.call (.ref fI) ⟨[.ref (h.objs.size + 1)], [(f, v)]⟩) (W.InitBack (h.objs.size + 1) R)
      ⟨(h.push (W.kdv_tup [])).push (excO C h.objs.size), g, d, t, os⟩) :
    codeAny (model prog w) A (.call (.ref C) ⟨[], [(f, v)]⟩) R ⟨h, g, d, t, os⟩ := by
  have f1 := tc_lookup
  have f2 := tc_bind (.ref C)
  have hTy : (⟨h, g, d, t, os⟩ : Shared).TypeIs (.ref C) "type" := ⟨_, hC, rfl⟩
  refine codeAny_of_tree ?_
  show wpAny _ _ (callAny (.ref C) _) _ _ _
  repeat (any_goals (first | assumption | with_reducible refine wpAny_loadPart_at hC ?_ | wp_step))
  refine ⟨rfl, ?_⟩
  refine codeAny_call_builtin_at (Code.quiet_builtin _ (by decide +kernel)) entry_typeCall (wpAny_check_type_call_sub hC (type_call_kw F hT hC hi hb ?_))
  refine codeAny_mono hq fun r s' z => ?_
  rcases r with e | (v | _ | _ | _) <;> exact z
/-- a made exception: at e, of the class at C, its own dict at d holds F = v -/
structure Made (h h' : Heap) (e C d : Addr) (F : Str) (v : Value) : Prop where
  keep : ∀ b o, h.get? b = some o → h'.get? b = some o
  new : h.objs.size ≤ e
  obj : ∃ t1 : Addr, h'.get? e = some ({ cls := .ref C, dict := some d, data := .fields #[.ref t1, .none, .none, .none, .bool false, .none] } : Obj)
  dbig : h.objs.size ≤ d
  dne : d ≠ e
  ns : h'.Ns1 d (fun y => if y = F then some v else none)
theorem es_made {X F : Str} {K : Frag} {mg mb : Str → Option Value} (T : ExTxt prog K X F C) {u : Value} (KX : K.In h) (G : h.Ns mainGlobals mg) (B : h.Ns builtinsNs mb) (hmb : mb "super" = some (.type "super")) (hlim : h.NoLimit) (hroom : A.depth + 1 < recursionLimit)
    {a : Args} (ha : a = ⟨[u], []⟩ ∨ a = ⟨[], [(F, u)]⟩)
    (hq : ∀ h' tk e dx, Made h h' e C dx F u → R (.ok (.ret (.ref e))) ⟨h', g, d, tk, os⟩) :
    codeAny (model prog w) A (.call (.ref C) a) R ⟨h, g, d, t, os⟩ := by
  obtain ⟨nm, q, N, bs, bm, sn, sub, ab, col, dd, k0, k1, k2, k3, k5, hC, hbm, hal⟩ := T.cls
  obtain ⟨fI, qual, msg, oc, od, doc, pm, an, cda, ct, osl, p1, p2, ps, cc, ccl, ccd, ccs, vs, kcl, kcd, kcs, tf, iC, tC, lf, hcd, lc, lk, hv2, hps⟩ := T.fn
  have main : ∀ (r : List Value) (kw : List (Str × Value)) (A' : Around), A'.depth < recursionLimit → (∀ (qual : Str) (p1 p2 : Pos) (body : List Stmt) (doc pm : Value) (an : Option Addr) (cdv ct : Value) (cc : Addr), bindArgs (ksFn "__init__" qual (iA F p1 p2) body (iS F) .none .none doc pm an cdv ct cc) ⟨.ref (h.objs.size + 1) :: r, kw⟩ = pure [(("self" : Str), .ref (h.objs.size + 1)), (F, u)]) →
      codeAny (model prog w) A' (.call (.ref fI) ⟨.ref (h.objs.size + 1) :: r, kw⟩) (W.InitBack (h.objs.size + 1) R) ⟨(h.push (W.kdv_tup r)).push (excO C h.objs.size), g, d, t, os⟩ := by
    intro r kw A' hA hbd
    have k : ∀ b o, h.get? b = some o → ((h.push (kdv_tup r)).push (excO C h.objs.size)).get? b = some o := fun b o e => Heap.get?_push_of_some _ (Heap.get?_push_of_some _ e)
    have hget : ((h.push (kdv_tup r)).push (excO C h.objs.size)).get? (h.objs.size + 1) = some (excO C h.objs.size) := by heap_get
    have hnx : K.lookup (h.objs.size + 1) = none := by
      cases e : K.lookup (h.objs.size + 1) with
      | none => rfl
      | some o =>
        have z : h.get? (h.objs.size + 1) = some o := KX _ _ e
        exact absurd (Nat.lt_of_succ_lt (Heap.lt_size z)) (Nat.lt_irrefl _)
    refine es_init (s := ⟨(h.push (kdv_tup r)).push (excO C h.objs.size), g, d, t, os⟩) T lf hcd lc lk hv2 hbd hps (KX.keeps k) (G.keeps k) (B.keeps k) hmb (hlim.keeps k) hget hnx hA fun h' tk' dx t1 ⟨k', hx, dn, dne, hns⟩ => ?_
    have old : ∀ b o, h.get? b = some o → h'.get? b = some o := fun b o e => k' b o (Nat.ne_of_lt (Nat.lt_succ_of_lt (Heap.lt_size e))) (k b o e)
    have z : h.objs.size + 1 + 1 ≤ dx := by
      first
        | (simpa only [Heap.size_push] using dn)
        | exact dn
        | (have q := dn; rw [Heap.size_push, Heap.size_push] at q; exact q)
    exact ⟨rfl, hq h' tk' (h.objs.size + 1) dx ⟨old, Nat.le_succ _, ⟨_, hx⟩, Nat.le_trans (Nat.le_trans (Nat.le_succ _) (Nat.le_succ _)) z, dne, hns⟩⟩
  rcases ha with rfl | rfl
  · exact call_own PySem.F.excBase_ValueError (fun X => refsVE_contains X bm hbm) (KX _ _ hC) (looks_findIn KX iC) (fun self => bind_fn KX self tC) (by show 1 ≤ sizeLine; rw [sizeLine_eq]; omega) (main [u] [] _ hroom (fun _ _ _ _ _ _ _ _ _ _ => T.bnd _ _ _ _ _ _ _ _ _ _ _ _))
  · exact call_kw PySem.F.excBase_ValueError (fun X => refsVE_contains X bm hbm) (KX _ _ hC) (looks_findIn KX iC) (fun self => bind_fn KX self tC) (main [] [(F, u)] _ hroom (fun _ _ _ _ _ _ _ _ _ _ => T.bndK _ _ _ _ _ _ _ _ _ _ _ _))
end
end EsX
end PySem
namespace L2
open PySem PySem.Spec PyProof.Rows PySem.EsX
theorem relO_one {F : Str} {v : V} {v' : Value} (r : RelV v v') (f : Str) : RelO (List.lookup f [(F, v)]) (if f = F then some v' else none) := by
  by_cases hw : f = F
  · subst hw
    rw [if_pos rfl]
    have q : List.lookup f [(f, v)] = some v := by simp [List.lookup]
    rw [q]
    exact r
  · rw [if_neg hw]
    have qw : (f == F) = false := by simpa using hw
    have q2 : List.lookup f [(F, v)] = none := by simp [List.lookup, qw]
    rw [q2]
    trivial
theorem boot_super : bootBuiltins "super" = some (.type "super") := by decide +kernel
section
variable {X : Cx} {C : Addr} {x F : Str}
/-- C(e), to be raised -/
def tMkX (C : Addr) (F : Str) (ta : TA) : St → Hp → XK → Prop := fun σ H Q => ta σ H fun vs H1 => ∃ v, vs = [v] ∧ ∀ d, H1 d = none → Q (.ref C) (some d) (upd H1 d (.xd [(F, v)]))
theorem pmk_x {a : Expr} {ta : TA} {p pos : Pos} {k : Nat} (T : ExTxt X.prog X.K x F C) (gC : X.mg x = some (.ref C)) (hr : Room k X.A) (ha : PA X [a] ta) (hg : Gl X x := by rfl) (hdb : (x == ("__debug__" : Str)) = false := by decide)
    (he : starEach (a :: []) X.env = (false, eval a X.env) :: starEach [] X.env := by rfl) (hpl : (backTo pos (starEach [] X.env)).any (·.1) = false := by rfl) :
    PMk X (.Call (.Name x p) [a] [] pos) (tMkX C F ta) := by
  intro pins s σ H Q I h
  refine wpAny_Call_Name_kw (ld_glob I hg gC ?_ hdb)
  refine PySem.W.callWith_K (h₀ := X.base) I.ok.mod.kin T.kC (thn (ha.run pos pins s σ H _ I h) fun us s1 hh => ?_) he hpl
  obtain ⟨vs, H1, I1, r1, v, ev, q1⟩ := hh
  subst ev
  refine ⟨I1.kIn, ?_⟩
  cases r1 with
  | cons rv rn =>
    rename_i v' us'
    cases rn
    show wpAny _ _ (call (.ref C) [v']) _ _ _
    have hlim := I1.nolimit
    obtain ⟨mb, hb, hbb⟩ := I1.mod.blt
    have G := I1.mod.glob.keeps I1.bk
    have B := hb.keeps I1.bk
    obtain ⟨hp, g, dr, tk, os⟩ := s1
    refine wpAny_call (es_made T I1.kIn G B ((hbb _ (by decide)).trans boot_super) hlim (by have := hr.dp; omega) (.inl rfl) fun h' tk' e d M => ?_)
    show MkP X pins σ Q (.ref e) ⟨h', g, dr, tk', os⟩
    obtain ⟨t1, hoe⟩ := M.obj
    have hns := M.ns
    obtain ⟨G', g1, g2⟩ := restrict h' fun b => decide (b ≠ e)
    have gk : ∀ b, b ≠ e → G'.get? b = h'.get? b := fun b hb => g1 b (decide_eq_true hb)
    have ge : G'.get? e = none := g2 e (by simp)
    have old : ∀ b o, hp.get? b = some o → G'.get? b = some o := fun b o q => (gk b (Nat.ne_of_lt (Nat.lt_of_lt_of_le (Heap.lt_size q) M.new))).trans (M.keep b o q)
    have ob : ObjOk X.prog X.w (upd H1 d (.xd [(F, v)])) G' d (.xd [(F, v)]) :=
      ⟨_, hns.at (fun o q => (gk d M.dne).trans q), fun f => relO_one rv f⟩
    have J : Inv X pins σ (upd H1 d (.xd [(F, v)])) ⟨G', g, dr, tk', os⟩ := I1.laid (t' := tk') old M.dbig ob
    refine ⟨e, _, _, ⟨G', g, dr, tk', os⟩, _, .ref C, some d, rfl, J, fun b o q => ?_, ge, hoe, ⟨rfl, rfl⟩, rfl, rfl, ?_, rfl, I1.bare, raises_own T.exC T.tyC, q1 d (I1.hok.fresh M.dbig)⟩
    · by_cases hb : b = e
      · have q' : G'.get? b = some o := q
        rw [hb, ge] at q'; cases q'
      · exact (gk b hb).symm.trans q
    · rw [upd_ne (Ne.symm M.dne)]
      exact I1.hok.fresh M.new
/-- raise C(e) -/
def tRaiseX (C : Addr) (F : Str) (W : WX) (ta : TA) : TS := fun _ σ H => tMkX C F ta σ H fun cls d H' => W cls d σ H'
theorem ps_raiseX {a : Expr} {ta : TA} {W : WX} {p pos pos2 : Pos} {k : Nat} (hc : X.calm = true) (T : ExTxt X.prog X.K x F C) (gC : X.mg x = some (.ref C)) (hr : Room k X.A) (tk : Takes X W) (ha : PA X [a] ta) (hg : Gl X x := by rfl) (hdb : (x == ("__debug__" : Str)) = false := by decide)
    (he : starEach (a :: []) X.env = (false, eval a X.env) :: starEach [] X.env := by rfl) (hpl : (backTo pos (starEach [] X.env)).any (·.1) = false := by rfl) :
    PS X (.Raise (some (.Call (.Name x p) [a] [] pos)) none pos2) (tRaiseX C F W ta) := ps_raise hc tk (pmk_x T gC hr ha hg hdb he hpl)
/-! ### as a value -/
/-- the exception at e, of the class at C, its own dict at d with F = v -/
def ExV (H : Hp) (e C d : Addr) (F : Str) (v : V) : Prop := H e = some (exo e C (some d)) ∧ H d = some (exd d [(F, v)])
def tMkV (C : Addr) (F : Str) (ta : TA) : TE := fun σ H Q => ta σ H fun vs H1 => ∃ v, vs = [v] ∧ ∀ e d, H1 e = none → H1 d = none → e ≠ d → Q (.ref e) (upd (upd H1 d (exd d [(F, v)])) e (exo e C (some d)))
theorem made_inv {pins : List (Addr × Obj)} {σ : St} {H1 : Hp} {hp h' : Heap} {g : Array GenState} {dr : Drawn} {tk tk' : Nat} {os : OsState} {e d : Addr} {v : V} {v' : Value} (I1 : Inv X pins σ H1 ⟨hp, g, dr, tk, os⟩) (M : Made hp h' e C d F v') (rv : RelV v v') :
    Inv X pins σ (upd (upd H1 d (exd d [(F, v)])) e (exo e C (some d))) ⟨h', g, dr, tk', os⟩ := by
  obtain ⟨t1, hoe⟩ := M.obj
  have hns := M.ns
  -- first the dict, over the heap without e
  obtain ⟨G', g1, g2⟩ := restrict h' fun b => decide (b ≠ e)
  have gk : ∀ b, b ≠ e → G'.get? b = h'.get? b := fun b hb => g1 b (decide_eq_true hb)
  have ge : G'.get? e = none := g2 e (by simp)
  have old : ∀ b o, hp.get? b = some o → G'.get? b = some o := fun b o q => (gk b (Nat.ne_of_lt (Nat.lt_of_lt_of_le (Heap.lt_size q) M.new))).trans (M.keep b o q)
  have J : Inv X pins σ (upd H1 d (exd d [(F, v)])) ⟨G', g, dr, tk', os⟩ := I1.laid (t' := tk') old M.dbig (exd_ok (hns.at (fun o q => (gk d M.dne).trans q)) fun f => relO_one rv f)
  have nE : upd H1 d (exd d [(F, v)]) e = none := by
    rw [upd_ne (Ne.symm M.dne)]
    exact I1.hok.fresh M.new
  have kk : ∀ b u, G'.get? b = some u → h'.get? b = some u := fun b u q => by
    by_cases hb : b = e
    · rw [hb, ge] at q; cases q
    · exact (gk b hb).symm.trans q
  exact J.un (t' := tk') (h' := h') (H' := upd (upd H1 d (exd d [(F, v)])) e (exo e C (some d)))
    { keep := fun b u q _ _ _ => kk b u q
      slot := fun b u q _ _ _ => ⟨u.slots, kk b u q⟩
      free := fun b u q n _ => by rw [upd_ne (fun z => by rw [z, ge] at q; cases q)]; exact n
      there := fun b u q _ => ⟨u, kk b u q⟩
      tups := fun b xs q => by rw [upd_ne (ne_of_none q nE)]; exact q
      frzs := fun b u xs q => by rw [upd_ne (ne_of_none q nE)]; exact q
      tbls := fun b ps q => ⟨#[], by rw [upd_ne (ne_of_none q nE), q]; simp⟩ }
    fun b u q => by
      by_cases hb : b = e
      · subst hb
        rw [upd_same] at q
        cases q
        exact exo_ok hoe
      · rw [upd_ne hb] at q
        exact (J.hok b u q).stay (fun c v _ q => kk c v q) (fun c q => by rw [upd_ne (ne_of_none q nE)]; exact q) fun c xs q => by rw [upd_ne (ne_of_none q nE)]; exact q
theorem pe_exV {a : Expr} {ta : TA} {p pos : Pos} {k : Nat} (T : ExTxt X.prog X.K x F C) (gC : X.mg x = some (.ref C)) (hr : Room k X.A) (ha : PA X [a] ta) (hg : Gl X x := by rfl) (hdb : (x == ("__debug__" : Str)) = false := by decide)
    (he : starEach (a :: []) X.env = (false, eval a X.env) :: starEach [] X.env := by rfl) (hpl : (backTo pos (starEach [] X.env)).any (·.1) = false := by rfl) :
    PE X (.Call (.Name x p) [a] [] pos) (tMkV C F ta) := by
  refine ⟨fun pins s σ H Q I h => ?_⟩
  refine wpAny_Call_Name_kw (ld_glob I hg gC ?_ hdb)
  refine PySem.W.callWith_K (h₀ := X.base) I.ok.mod.kin T.kC (thn (ha.run pos pins s σ H _ I h) fun us s1 hh => ?_) he hpl
  obtain ⟨vs, H1, I1, r1, v, ev, q1⟩ := hh
  subst ev
  refine ⟨I1.kIn, ?_⟩
  cases r1 with
  | cons rv rn =>
    rename_i v' us'
    cases rn
    show wpAny _ _ (call (.ref C) [v']) _ _ _
    have hlim := I1.nolimit
    obtain ⟨mb, hb, hbb⟩ := I1.mod.blt
    have G := I1.mod.glob.keeps I1.bk
    have B := hb.keeps I1.bk
    obtain ⟨hp, g, dr, tk, os⟩ := s1
    refine wpAny_call (es_made T I1.kIn G B ((hbb _ (by decide)).trans boot_super) hlim (by have := hr.dp; omega) (.inl rfl) fun h' tk' e d M => ?_)
    exact ⟨.ref e, _, made_inv I1 M rv, rfl, q1 e d (I1.hok.fresh M.new) (I1.hok.fresh M.dbig) (Ne.symm M.dne)⟩
/-- C(f=e) -/
theorem pe_exVk {a : Expr} {ta : TE} {p pos kpos : Pos} {k : Nat} (T : ExTxt X.prog X.K x F C) (gC : X.mg x = some (.ref C)) (hr : Room k X.A) (ha : PE X a ta) (hg : Gl X x := by rfl) (hdb : (x == ("__debug__" : Str)) = false := by decide)
    (hall : (backToKw pos (keywordEach [⟨some F, a, kpos⟩] X.env)).all (·.1.isSome) = true := by rfl) (hks : (backToKw pos (keywordEach [⟨some F, a, kpos⟩] X.env)).filterMap (·.1) = [F] := by rfl)
    (hpl : ((backTo pos (starEach [] X.env)).any (·.1) || (backToKw pos (keywordEach [⟨some F, a, kpos⟩] X.env)).any (·.1.isNone)) = false := by rfl) :
    PE X (.Call (.Name x p) [] [⟨some F, a, kpos⟩] pos) (tMkV C F (tCons ta tNil)) := by
  refine ⟨fun pins s σ H Q I h => ?_⟩
  refine wpAny_Call_Name_kw (ld_glob I hg gC ?_ hdb)
  refine PySem.W.callWith_KW0 (h₀ := X.base) I.ok.mod.kin T.kC hall ?_ hpl
  refine thn ((pk_cons ha pk_nil).run pos pins s σ H _ I h) fun us s1 hh => ?_
  obtain ⟨vs, H1, I1, r1, v, ev, q1⟩ := hh
  subst ev
  refine ⟨I1.kIn, ?_⟩
  rw [hks]
  cases r1 with
  | cons rv rn =>
    rename_i v' us'
    cases rn
    show wpAny _ _ (call (.ref C) [] [(F, v')]) _ _ _
    have hlim := I1.nolimit
    obtain ⟨mb, hb, hbb⟩ := I1.mod.blt
    have G := I1.mod.glob.keeps I1.bk
    have B := hb.keeps I1.bk
    obtain ⟨hp, g, dr, tk, os⟩ := s1
    refine wpAny_call (es_made T I1.kIn G B ((hbb _ (by decide)).trans boot_super) hlim (by have := hr.dp; omega) (.inr rfl) fun h' tk' e d M => ?_)
    exact ⟨.ref e, _, made_inv I1 M rv, rfl, q1 e d (I1.hok.fresh M.new) (I1.hok.fresh M.dbig) (Ne.symm M.dne)⟩
/-- what of the class is asked for its instances' fields and for isinstance -/
structure ExCls (K : PySem.W.Frag) (C : Addr) (F : Str) : Prop where
  ga : PySem.W.findIn K (.ref C) "__getattribute__" = some (some (.builtin "BaseException.__getattribute__"))
  gg : PySem.W.findIn K (.ref C) "__getattr__" = some none
  exC : PySem.W.subIn K (.ref C) (.type "BaseException") = some true
  hdC : PySem.W.hasDictIn K C = true
  noN : PySem.W.findIn K (.ref C) F = some none
  cl : (PySem.W.clsIn K C).isSome = true
  ca : PySem.W.findIn K (.ref C) "__class__" = some (some (.builtin "object.__class__"))
  mo : PySem.W.mroIn K C (.type "object") = some true
  sp : PySem.W.specialIn K (.builtin "object.__class__") "__get__" = some (some (.builtin "getset_descriptor.__get__"))
  tk : PySem.W.takesIn K (.builtin "object.__class__") = some true
theorem exV_inst {pins : List (Addr × Obj)} {σ : St} {H : Hp} {s : Shared} {a d : Addr} {v : V} (I : Inv X pins σ H s) (e1 : H a = some (exo a C (some d))) (e2 : H d = some (exd d [(F, v)])) :
    ∃ (oe od : Obj) (u : Value), PySem.W.InstAt s.heap a oe C (some od) ∧ PySem.W.lookIn F od = some (some u) ∧ RelV v u := by
  obtain ⟨t1, ho⟩ := exo_at I.hok e1
  obtain ⟨mA, hns, hr⟩ := exd_at I.hok e2
  obtain ⟨od, hod, hl⟩ := lookIn_ns hns
  have l : List.lookup F [(F, v)] = some v := by simp [List.lookup]
  obtain ⟨u, hu, ru⟩ := RelO.some_of (v := v) (o := mA F) (by rw [← l]; exact hr F)
  exact ⟨_, od, u, ⟨ho, rfl, rfl, hod⟩, by rw [hl, hu], ru⟩
/-- e.f, e such an exception -/
def tFldV (K : PySem.W.Frag) (F : Str) (te : TE) : TE := fun σ H Q => te σ H fun y H1 => ∃ (a C d : Addr) (v : V), y = .ref a ∧ ExV H1 a C d F v ∧ ExCls K C F ∧ Q v H1
theorem pe_fldV {e : Expr} {te : TE} {pos : Pos} (he : PE X e te) (hb : attributeBase e F X.env (eval e X.env) = eval e X.env := by rfl) : PE X (.Attribute e F pos) (tFldV X.K F te) := by
  refine ⟨fun pins s σ H Q I h => ?_⟩
  refine attr_of hb (thn (he.run pins s σ H _ I h) fun u s1 hh => ?_)
  obtain ⟨y, H1, I1, rx, a, C, d, v, ey, ⟨e1, e2⟩, T, q⟩ := hh
  subst ey
  obtain rfl : u = Value.ref a := rx
  obtain ⟨oe, od, w, J, hl, rw'⟩ := exV_inst I1 e1 e2
  exact HandSPX.exc_get I1.kIn J T.ga T.gg T.exC (PySem.W.findObj_own T.hdC T.noN rfl hl) (handed_of rw') ⟨v, H1, I1.tok _, rw', q⟩
/-- isinstance(e, c), e such an exception -/
def rIsV (K : PySem.W.Frag) : List V → Hp → VK → Prop := fun xs H Q => ∃ (a C d : Addr) (F : Str) (v c : V) (u : Value) (b : Bool), xs = [.ref a, c] ∧ ClsV c u ∧ ExV H a C d F v ∧ ExCls K C F ∧ PySem.W.kitOne K (.ref C) u = some b ∧ Q (.bl b) H
theorem call_isV : CallR X (.builtin "isinstance") (rIsV X.K) := by
  intro pins s σ H xs us Q I r h
  obtain ⟨a, C, d, F, v, c, u, b, rfl, k, ⟨e1, e2⟩, T, e, q⟩ := h
  obtain ⟨u1, u2, rfl, r1, r2⟩ := vals2 r
  have z2 := k.eq r2
  subst z2
  obtain rfl : u1 = Value.ref a := r1
  obtain ⟨oe, od, w, J, hl, rw'⟩ := exV_inst I e1 e2
  exact PySem.W.kia_one (PySem.W.kitx_exc T.cl T.ga T.gg T.exC T.ca T.sp T.tk T.mo) I.kIn J e (fun z => nomatch z) fun tk => ⟨.bl b, H, I.tok tk, rfl, q⟩
end
end L2
/-! the head's facts: plain defs, plain classes, own exception classes -/
namespace Hk
open PySem PySem.Spec PyProof.Rows L2 PySem.EsX He
/-- an own exception class of the text: its name, its field, its __init__ -/
structure ExD where
  x : Str
  F : Str
  qual : Str
  params : Arguments
  body : List Stmt
  scope : Scope
abbrev ExW : Type := Option (Str × Str × Arguments × FuncBody × Scope × Addr × List Str × Value × Value × Addr)
def exW (K : PySem.W.Frag) (x : Str) : ExW := match K.lookup (ma K (ga K x) "__init__") with
  | some ⟨_, _, .func fd, _⟩ => some (fd.name, fd.qualname, fd.params, fd.body, fd.scope, fd.globals, fd.closure.map (·.1), fd.defaults, fd.kwdefaults, fd.builtins)
  | _ => none
def ExD.val (d : ExD) : ExW := some ("__init__", d.qual, d.params, .stmts d.body, d.scope, mainGlobals, ["__class__"], .none, .none, builtinsNs)
def eqV (a b : Option Value) : Bool := decide (a = b)
def eqB (a b : Option Bool) : Bool := decide (a = b)
/-- the class object -/
def exCls (K : PySem.W.Frag) (C : Addr) : Bool := match K.lookup C with
  | some ⟨.type c, _, .cls cd, sl⟩ => decide (c = "type") && ((match cd.mro with
      | .ref D :: bm => decide (D = C) && (PySem.HandSPX.refsVE bm && eqO (PySem.W.alongIn K "__init__" bm) (some (some (.builtin "ValueError.__init__"))))
      | _ => false) && (cd.hasDict && (!cd.hasDel && (match sl.toList with
      | [_, _, _, _, some (.builtin n), _] => decide (n = "ValueError.__new__")
      | _ => false))))
  | _ => false
def cellB (K : PySem.W.Frag) (C : Addr) (cl : List (Str × Addr)) : Bool := match cl with
  | [(_, cc)] => (match K.lookup cc with
    | some ⟨_, _, .cell (some (.ref D)), _⟩ => decide (D = C)
    | _ => false)
  | _ => false
theorem cellB_ok {K : PySem.W.Frag} {C : Addr} {cl : List (Str × Addr)} (h : cellB K C cl = true) : ∃ y cc ccl ccd ccs, cl = [(y, cc)] ∧ K.lookup cc = some ⟨ccl, ccd, .cell (some (.ref C)), ccs⟩ := by
  cases cl with
  | nil => cases h
  | cons p r =>
    cases r with
    | cons _ _ => cases h
    | nil =>
      obtain ⟨y, cc⟩ := p
      have h1 : (match K.lookup cc with
        | some ⟨_, _, .cell (some (.ref D)), _⟩ => decide (D = C)
        | _ => false) = true := h
      cases qc : K.lookup cc with
      | none => rw [qc] at h1; cases h1
      | some oo =>
        obtain ⟨ccl, ccd, cdt, ccs⟩ := oo
        rw [qc] at h1
        cases cdt with
        | cell ov =>
          cases ov with
          | none => cases h1
          | some v =>
            cases v with
            | ref D =>
              have eD : D = C := of_decide_eq_true h1
              subst eD
              exact ⟨y, cc, ccl, ccd, ccs, rfl, qc⟩
            | _ => cases h1
        | _ => cases h1
def strIs (f : Str) : Option Value → Bool
  | some (.str g _) => decide (g = f)
  | _ => false
theorem strIs_ok {f : Str} {v : Option Value} (h : strIs f v = true) : ∃ tf, v = some (.str f tf) := by
  cases v with
  | none => cases h
  | some v =>
    cases v with
    | str g tf =>
      have e : g = f := of_decide_eq_true h
      subst e
      exact ⟨tf, rfl⟩
    | _ => cases h
def fileB (K : PySem.W.Frag) (f : Str) (cd : Value) : Bool := match cd with
  | .ref cda => (match K.lookup cda with
    | some ⟨_, _, .fields vs, _⟩ => strIs f vs[2]?
    | _ => false)
  | _ => false
theorem fileB_ok {K : PySem.W.Frag} {f : Str} {cd : Value} (h : fileB K f cd = true) : ∃ cda kcl kcd vs kcs tf, cd = .ref cda ∧ K.lookup cda = some ⟨kcl, kcd, .fields vs, kcs⟩ ∧ vs[2]? = some (.str f tf) := by
  cases cd with
  | ref cda =>
    have h1 : (match K.lookup cda with
      | some ⟨_, _, .fields vs, _⟩ => strIs f vs[2]?
      | _ => false) = true := h
    cases qk : K.lookup cda with
    | none => rw [qk] at h1; cases h1
    | some ok =>
      obtain ⟨kcl, kcd, kdt, kcs⟩ := ok
      rw [qk] at h1
      cases kdt with
      | fields vs =>
        obtain ⟨tf, e⟩ := strIs_ok h1
        exact ⟨cda, kcl, kcd, vs, kcs, tf, rfl, qk, e⟩
      | _ => cases h1
  | _ => cases h
def exFn (P : Program) (K : PySem.W.Frag) (C : Addr) : Bool := match K.lookup (ma K C "__init__") with
  | some ⟨_, _, .func fd, _⟩ => PySem.W.codeIn K fd.code fd.qualname && (cellB K C fd.closure && fileB K P.main.file fd.code)
  | _ => false
def exB (P : Program) (K : PySem.W.Frag) (x F : Str) : Bool := exCls K (ga K x) && (exFn P K (ga K x) &&
  (eqO (PySem.W.nsIn K mainGlobals x) (some (some (.ref (ga K x)))) &&
  (eqO (PySem.W.findIn K (.ref (ga K x)) "__init__") (some (some (.ref (ma K (ga K x) "__init__")))) && (eqV (PySem.W.typeIn K (.ref (ma K (ga K x) "__init__"))) (some (.type "function")) &&
  (eqO (PySem.W.findIn K (.ref (ga K x)) "__setattr__") (some (some (.builtin "object.__setattr__"))) && (eqO (PySem.W.findIn K (.ref (ga K x)) "__getattribute__") (some (some (.builtin "BaseException.__getattribute__"))) &&
  (eqO (PySem.W.findIn K (.ref (ga K x)) "__getattr__") (some none) && (eqO (PySem.W.findIn K (.ref (ga K x)) F) (some none) && (PySem.W.keepIn K (.ref (ga K x)) &&
  (eqB (PySem.W.subIn K (.ref (ga K x)) (.type "BaseException")) (some true) && (eqB (PySem.W.subIn K (.ref (ga K x)) (.type "ValueError")) (some true) && (eqV (PySem.W.typeIn K (.ref (ga K x))) (some (.type "type")) && (PySem.W.hasDictIn K (ga K x) &&
  (eqO (PySem.W.findIn K (.ref (ga K x)) "__class__") (some (some (.builtin "object.__class__"))) && (eqB (PySem.W.mroIn K (ga K x) (.type "object")) (some true) && (PySem.W.clsIn K (ga K x)).isSome)))))))))))))))
def exG (P : Program) (K : PySem.W.Frag) : Bool := eqO (PySem.W.nsIn K cStatics "thirdparty.any") (some none) && (eqO (PySem.W.nsIn K mainGlobals "super") (some none) && (!(P.main.scope.names.lookup ("super" : Str)).isSome &&
  (eqO (PySem.W.specialIn K (.builtin "object.__class__") "__get__") (some (some (.builtin "getset_descriptor.__get__"))) && eqB (PySem.W.takesIn K (.builtin "object.__class__")) (some true))))
/-- what of the names is to be checked once for each field -/
structure FldOk (F : Str) : Prop where
  bnd : ∀ (qual : Str) (p1 p2 : Pos) (body : List Stmt) (doc pm : Value) (an : Option Addr) (cdv ct : Value) (cc : Addr) (u v : Value), bindArgs (PySem.W.ksFn "__init__" qual (iA F p1 p2) body (iS F) .none .none doc pm an cdv ct cc) ⟨[u, v], []⟩ = pure [(("self" : Str), u), (F, v)]
  bndK : ∀ (qual : Str) (p1 p2 : Pos) (body : List Stmt) (doc pm : Value) (an : Option Addr) (cdv ct : Value) (cc : Addr) (u v : Value), bindArgs (PySem.W.ksFn "__init__" qual (iA F p1 p2) body (iS F) .none .none doc pm an cdv ct cc) ⟨[u], [(F, v)]⟩ = pure [(("self" : Str), u), (F, v)]
  fne : (F == ("self" : Str)) = false ∧ (F == ("__class__" : Str)) = false ∧ (F == ("super" : Str)) = false ∧ (F == ("__debug__" : Str)) = false ∧ (("self" : Str) == F) = false ∧ (("__class__" : Str) == F) = false ∧ (("super" : Str) == F) = false
theorem fo_index : FldOk "index" := ⟨fun _ _ _ _ _ _ _ _ _ _ _ _ => rfl, fun _ _ _ _ _ _ _ _ _ _ _ _ => rfl, by decide⟩
theorem fo_slot : FldOk "slot" := ⟨fun _ _ _ _ _ _ _ _ _ _ _ _ => rfl, fun _ _ _ _ _ _ _ _ _ _ _ _ => rfl, by decide⟩
theorem fo_appointment : FldOk "appointment" := ⟨fun _ _ _ _ _ _ _ _ _ _ _ _ => rfl, fun _ _ _ _ _ _ _ _ _ _ _ _ => rfl, by decide⟩
theorem fo_slots : FldOk "slots" := ⟨fun _ _ _ _ _ _ _ _ _ _ _ _ => rfl, fun _ _ _ _ _ _ _ _ _ _ _ _ => rfl, by decide⟩
theorem fo_most : FldOk "most" := ⟨fun _ _ _ _ _ _ _ _ _ _ _ _ => rfl, fun _ _ _ _ _ _ _ _ _ _ _ _ => rfl, by decide⟩
theorem fo_key : FldOk "key" := ⟨fun _ _ _ _ _ _ _ _ _ _ _ _ => rfl, fun _ _ _ _ _ _ _ _ _ _ _ _ => rfl, by decide⟩
theorem eqV_ok {a b : Option Value} (h : eqV a b = true) : a = b := of_decide_eq_true h
theorem eqB_ok {a b : Option Bool} (h : eqB a b = true) : a = b := of_decide_eq_true h
/-- a class of the text is what ExTxt asks -/
structure ExOk (P : Program) (K : PySem.W.Frag) (mg : Str → Option Value) (x F : Str) (C : Addr) : Prop where
  t : ExTxt P K x F C
  c : ExCls K C F
  g : mg x = some (.ref C)
theorem exCls_ok {K : PySem.W.Frag} {C : Addr} (h : exCls K C = true) : ∃ nm q N bs bm sn sub ab col dd k0 k1 k2 k3 k5, K.lookup C = some (excClassObj nm q C N bs bm true sn sub ab col dd k0 k1 k2 k3 k5 "ValueError.__new__") ∧ PySem.HandSPX.refsVE bm = true ∧ PySem.W.alongIn K "__init__" bm = some (some (.builtin "ValueError.__init__")) := by
  unfold exCls at h
  cases q : K.lookup C with
  | none => rw [q] at h; cases h
  | some o =>
    obtain ⟨oc, od, dt, sl⟩ := o
    rw [q] at h
    cases oc with
    | type c =>
      cases dt with
      | cls cd =>
        obtain ⟨nm, bs, mro, ns, qn, hd, sn, sb, ab, col, del⟩ := cd
        obtain ⟨h1, h⟩ := ba h
        obtain ⟨h2, h⟩ := ba h
        obtain ⟨h3, h⟩ := ba h
        obtain ⟨h4, h5⟩ := ba h
        dsimp only at h2 h3 h4
        have e1 := of_decide_eq_true h1
        have e4 : del = false := by cases del <;> first | rfl | cases h4
        obtain ⟨sll⟩ := sl
        match sll, h5 with
        | [k0, k1, k2, k3, some (.builtin n), k5], h5 =>
          have e5 : n = "ValueError.__new__" := of_decide_eq_true h5
          match mro, h2 with
          | .ref D :: bm, h2 =>
            obtain ⟨g1, g⟩ := ba h2
            obtain ⟨g2, g3⟩ := ba g
            have eD := of_decide_eq_true g1
            subst e1 e4 e5 eD h3
            exact ⟨nm, qn, ns, bs, bm, sn, sb, ab, col, od, k0, k1, k2, k3, k5, rfl, g2, eqO_ok g3⟩
      | _ => cases h
    | _ => cases dt <;> cases h
theorem ex_ok {P : Program} {K : PySem.W.Frag} {mg : Str → Option Value} {h0 : Heap} (X : K.In h0) (G : h0.Ns mainGlobals mg) {d : ExD} (e : exW K d.x = d.val) (hb : exB P K d.x d.F = true) (hg : exG P K = true) (fo : FldOk d.F)
    (txt : ∃ p1 p2 msg ps, d.params = iA d.F p1 p2 ∧ d.body = iB d.F msg ps ∧ (ps.p2.endLine == ps.p4.line) = true) (hs : d.scope = iS d.F) : ExOk P K mg d.x d.F (ga K d.x) := by
  obtain ⟨a1, a⟩ := ba hb
  obtain ⟨a2, a⟩ := ba a
  obtain ⟨a3, a⟩ := ba a
  obtain ⟨a4, a⟩ := ba a
  obtain ⟨a5, a⟩ := ba a
  obtain ⟨a6, a⟩ := ba a
  obtain ⟨a7, a⟩ := ba a
  obtain ⟨a8, a⟩ := ba a
  obtain ⟨a9, a⟩ := ba a
  obtain ⟨a10, a⟩ := ba a
  obtain ⟨a11, a⟩ := ba a
  obtain ⟨a12, a⟩ := ba a
  obtain ⟨a13, a⟩ := ba a
  obtain ⟨a14, a⟩ := ba a
  obtain ⟨a15, a⟩ := ba a
  obtain ⟨a16, a17⟩ := ba a
  obtain ⟨b1, b⟩ := ba hg
  obtain ⟨b2, b⟩ := ba b
  obtain ⟨b3, b⟩ := ba b
  obtain ⟨b4, b5⟩ := ba b
  refine ⟨⟨exCls_ok a1, eqO_ok a6, eqO_ok a7, eqO_ok a8, eqO_ok a9, a10, eqB_ok a11, eqB_ok a12, eqV_ok a13, a14, eqO_ok b1, eqO_ok b2, by simpa using b3, ?_, fo.bnd, fo.bndK, fo.fne⟩,
    ⟨eqO_ok a7, eqO_ok a8, eqB_ok a11, a14, eqO_ok a9, a17, eqO_ok a15, eqB_ok a16, eqO_ok b4, eqB_ok b5⟩, PySem.W.mg_of X G (eqO_ok a3)⟩
  obtain ⟨p1, p2, msg, ps, t1, t2, t3⟩ := txt
  have a2' := a2
  unfold exFn at a2'
  unfold exW at e
  cases q : K.lookup (ma K (ga K d.x) "__init__") with
  | none => rw [q] at a2'; cases a2'
  | some o =>
    obtain ⟨oc, od, dt, osl⟩ := o
    rw [q] at a2' e
    cases dt with
    | func fd =>
      obtain ⟨n1, n2, n3, n4, n5, n6, n7, n8, n9, n10, n11, n12, n13, n14, n15⟩ := fd
      have e2 : (some (n1, n2, n3, n4, n5, n6, n7.map (·.1), n8, n9, n15) : ExW) = (some ("__init__", d.qual, d.params, .stmts d.body, d.scope, mainGlobals, ["__class__"], .none, .none, builtinsNs) : ExW) := e
      simp only [Option.some.injEq, Prod.mk.injEq] at e2
      obtain ⟨h1, h2, h3, h4, h5, h6, h7, h8, h9, h10⟩ := e2
      obtain ⟨c1, c⟩ := ba a2'
      obtain ⟨c2, c3⟩ := ba c
      dsimp only at c1 c2 c3
      obtain ⟨y, cc, ccl, ccd, ccs, ecl, qc⟩ := cellB_ok c2
      obtain ⟨cda, kcl, kcd, vs, kcs, tf, ecd, qk, qv⟩ := fileB_ok c3
      subst ecl ecd
      have ey : y = ("__class__" : Str) := by
        have z : [y] = [("__class__" : Str)] := h7
        injection z
      subst h1 h2 h3 h4 h5 h6 h8 h9 h10 ey
      refine ⟨_, d.qual, msg, oc, od, n10, n11, n12, cda, n14, osl, p1, p2, ps, cc, ccl, ccd, ccs, vs, kcl, kcd, kcs, tf, eqO_ok a4, eqV_ok a5, ?_, c1, qc, qk, qv, t3⟩
      rw [t1, t2, hs] at q
      exact q
    | _ => cases a2'
/-! ### the Hook -/
def asR (g : Addr → Option Obj) : Nat → List Addr
  | 0 => [mainGlobals, cStatics]
  | n + 1 => growD g (asR g n)
abbrev AlR : Type := AlD × Bool × List ExW
/-- what is looked at: plain facts, defs, exception classes, one more Bool -/
structure Lk where
  P : Program
  fa : List Fa
  fn : List DefD
  ex : List ExD
  mo : PySem.W.Frag → Bool := fun _ => true
def obsR (l : Lk) (K : PySem.W.Frag) : AlR := (obsD l.fa l.fn K, (exG l.P K && l.mo K) && l.ex.all fun d => exB l.P K d.x d.F, l.ex.map fun d => exW K d.x)
def valR (l : Lk) : AlR := (valD l.fn, true, l.ex.map ExD.val)
def obsRG (l : Lk) (n : Nat) (g : Addr → Option Obj) : AlR := obsR l (frG g (asR g n))
def SaysR (l : Lk) (K : PySem.W.Frag) : Prop := obsR l K = valR l
def hookR (l : Lk) (n : Nat) : PySem.W.Hook where
  α := AlR
  obs := fun s => obsRG l n s.heap.get?
  val := fun _ => valR l
  says := fun _ h => ∃ K : PySem.W.Frag, K.In h ∧ SaysR l K
  of := fun _ _ e => ⟨_, frG_in, e⟩
  keeps := fun _ _ _ ⟨K, hK, c⟩ k => ⟨K, PySem.W.Frag.In.keeps hK k, c⟩
theorem obsRG_eq {l : Lk} {n : Nat} {g : Addr → Option Obj} {s : Shared} (h : ∀ a, g a = s.heap.get? a) : obsRG l n g = (hookR l n).obs s := by
  have e : g = s.heap.get? := funext h
  rw [e] <;> rfl
section
variable {l : Lk} {K : PySem.W.Frag}
theorem SaysR.d (c : SaysR l K) : SaysD l.fa l.fn K := congrArg (fun z : AlR => z.1) c
theorem SaysR.b (c : SaysR l K) : ((exG l.P K && l.mo K) && l.ex.all fun d => exB l.P K d.x d.F) = true := congrArg (fun z : AlR => z.2.1) c
theorem SaysR.mo (c : SaysR l K) : l.mo K = true := (ba (ba c.b).1).2
theorem SaysR.ex_ (c : SaysR l K) (i : Nat) {d : ExD} (h : l.ex[i]? = some d := by rfl) : exW K d.x = d.val ∧ exB l.P K d.x d.F = true ∧ exG l.P K = true := by
  have c3 : l.ex.map (fun d => exW K d.x) = l.ex.map ExD.val := congrArg (fun z : AlR => z.2.2) c
  have e2 : (l.ex.map fun d => exW K d.x)[i]? = (l.ex.map ExD.val)[i]? := by rw [c3]
  rw [List.getElem?_map, List.getElem?_map, h] at e2
  exact ⟨Option.some.inj e2, List.all_eq_true.mp (ba c.b).2 d (List.mem_of_getElem? h), (ba (ba c.b).1).1⟩
theorem SaysR.exok (c : SaysR l K) {mg : Str → Option Value} {h0 : Heap} (X : K.In h0) (G : h0.Ns mainGlobals mg) (i : Nat) {d : ExD} (h : l.ex[i]? = some d) (fo : FldOk d.F)
    (txt : ∃ p1 p2 msg ps, d.params = iA d.F p1 p2 ∧ d.body = iB d.F msg ps ∧ (ps.p2.endLine == ps.p4.line) = true) (hs : d.scope = iS d.F) : ExOk l.P K mg d.x d.F (ga K d.x) := by
  obtain ⟨h1, h2, h3⟩ := c.ex_ i h
  exact ex_ok X G h1 h2 h3 fo txt hs
theorem SaysR.glo (c : SaysR l K) {mg : Str → Option Value} {h0 : Heap} (X : K.In h0) (G : h0.Ns mainGlobals mg) (i : Nat) {x : Str} (h : l.fa[i]? = some (.glo x)) : mg x = some (.ref (ga K x)) := He.glo_ok X G (c.d.fact i h)
theorem SaysR.free (c : SaysR l K) {mg : Str → Option Value} {h0 : Heap} (X : K.In h0) (G : h0.Ns mainGlobals mg) (i : Nat) {x : Str} (h : l.fa[i]? = some (.free x)) : mg x = none := He.free_ok X G (c.d.fact i h)
end
end Hk
namespace Law
open PySem PySem.Spec PyProof.Rows L2
def topS (i : Nat) : Stmt := PySem.Challenge.pw_reslot_k19_exceptions.main.body.getD i (.Pass ⟨0, 0, 0, 0⟩)
abbrev s_law_draw : Stmt := topS 14
abbrev s_law_taken : Stmt := topS 15
abbrev s_law_by_place : Stmt := topS 16
abbrev s_law_by_name : Stmt := topS 17
abbrev s_law_fields : Stmt := topS 18
abbrev s_law_right : Stmt := topS 19
abbrev s_law : Stmt := topS 20
abbrev s_NoBook_init : Stmt := inClass (topS 2) 0
abbrev s_NoTimetable_init : Stmt := inClass (topS 3) 0
abbrev s_NoMove_init : Stmt := inClass (topS 4) 0
abbrev s_NoSlot_init : Stmt := inClass (topS 5) 0
abbrev s_NoAppointment_init : Stmt := inClass (topS 6) 0
abbrev s_Frozen_init : Stmt := inClass (topS 7) 0
abbrev s_NoCertificate_init : Stmt := inClass (topS 8) 0
abbrev s_TooMany_init : Stmt := inClass (topS 9) 0
abbrev s_NotAllowed_init : Stmt := inClass (topS 10) 0
abbrev s_NoWish_init : Stmt := inClass (topS 11) 0
abbrev s_NoCosts_init : Stmt := inClass (topS 12) 0
end Law
namespace Law
open PySem PySem.Spec PyProof.Rows L2 PySem.EsX He Hk
theorem fm_lo (x : Int) {m : Int} (h : 0 < m) : 0 ≤ x.fmod m := by
  rw [Int.fmod_eq_emod_of_nonneg _ (by omega)]
  exact Int.emod_nonneg _ (by omega)
theorem fm_hi (x : Int) {m : Int} (h : 0 < m) : x.fmod m < m := by
  rw [Int.fmod_eq_emod_of_nonneg _ (by omega)]
  exact Int.emod_lt_of_pos _ h
theorem fm_r {x m : Int} (h : 0 < m) (h2 : m < 4294967296) : -(2 ^ 64) < x.fmod m ∧ x.fmod m < 2 ^ 64 := by
  have a := fm_lo x h
  have b := fm_hi x h
  omega
section
variable {P : Program} {w : World} {K : PySem.W.Frag} {mg : Str → Option Value} {base : Heap}
/-- a plain def at f -/
abbrev FnP (K : PySem.W.Frag) (x : Str) (st : Stmt) (f : Addr) (fd : FuncData) : Prop := FunD K x x (defArgs st) (defBody st) (defScope st) [] [] f fd
/-! ### _law_draw -/
def spDraw : Sp := fun vs H Q _ => ∃ (p : Addr) (a b c m : Int), vs = [.ref p, .int m] ∧ H p = some (.lst [.int a, .int b, .int c]) ∧ 0 < m ∧ m < 1000000 ∧
  ∀ r a' c' : Int, 0 ≤ r → r < m → Q (.int r) (upd H p (.lst [.int a', .int b, .int c']))
theorem scDraw : FnScope ["well", "many", "found", "number"] ["well", "many"] (defScope s_law_draw) := ⟨rfl, rfl, rfl, by decide +kernel, rfl, by decide +kernel, by decide +kernel⟩
theorem ok_draw {f : Addr} {fd : FuncData} (F : FnP K "_law_draw" s_law_draw f fd) : FnOk P w K mg base CX0 1 f fd ["well", "many"] spDraw := by
  refine F.ok scDraw (fun vs H Q E h => ?_) (fun cdv A outer s H vs Q E hr h => ?_)
  · obtain ⟨p, a, b, c, m, rfl, _⟩ := h
    rfl
  · obtain ⟨p, a, b, c, m, rfl, hp, m0, m1, k⟩ := h
    have nd := scDraw.nd
    refine ⟨_, PSs.nox (pss_cons (ps_if (pt_cmpR op_gt (pe_ix ix_list (pv 0) pe_int (fun _ _ => rfl)) pe_int (nomark _))
        (pss_cons (ps_set (i := 2) nd rfl (Or.inl rfl) (pe_op op_modN (pe_ix ix_list (pv 0) pe_int (fun _ _ => rfl)) (pv 1)))
        (pss_cons (ps_asg (pe_op op_fdivN (pe_ix ix_list (pv 0) pe_int (fun _ _ => rfl)) (pv 1)) (pg_sub (pv 0) pe_int set_list))
        (pss_one (ps_ret (pv 2))))) pss_nil)
      (pss_cons (ps_asg (pe_op op_add (pe_ix ix_list (pv 0) pe_int (fun _ _ => rfl)) pe_int) (pg_sub (pv 0) pe_int set_list))
      (pss_cons (ps_set (i := 3) nd rfl (Or.inl rfl) (pe_op op_modN (pe_op op_mul (pe_op op_add (pe_op op_add (pe_ix ix_list (pv 0) pe_int (fun _ _ => rfl)) (pe_op op_mul pe_int (pe_ix ix_list (pv 0) pe_int (fun _ _ => rfl)))) pe_int) pe_int) pe_int))
      (pss_cons (ps_set (i := 3) nd rfl (Or.inl rfl) (pe_op op_modN (pe_op op_mul (pv 3) (pe_op op_add (pe_op op_fdivN (pv 3) pe_int) pe_int)) pe_int))
      (pss_one (ps_ret (pe_op op_modN (pe_op op_modN (pe_op op_mul (pv 3) (pe_op op_add (pe_op op_fdivN (pv 3) pe_int) pe_int)) pe_int) (pv 1)))))))), ?_⟩
    -- if well[0] > 0
    refine ⟨_, rfl, p, _, 0, .int a, rfl, rfl, SqL.of hp, rfl, _, _, rfl, rfl, _, rfl, ?_⟩
    refine ite2 (fun _ => ?_) (fun _ => ?_)
    · refine ⟨_, rfl, p, _, 0, .int a, rfl, rfl, SqL.of hp, rfl, _, rfl, _, _, rfl, rfl, by omega, ?_⟩
      refine ⟨_, rfl, p, _, 0, .int a, rfl, rfl, SqL.of hp, rfl, _, rfl, _, _, rfl, rfl, ⟨by omega, by omega⟩, ?_⟩
      refine ⟨_, rfl, p, _, 0, 0, rfl, rfl, hp, rfl, ?_⟩
      refine ⟨_, rfl, ?_⟩
      exact k _ _ _ (fm_lo _ m0) (fm_hi _ m0)
    · refine ⟨_, rfl, p, _, 2, .int c, rfl, rfl, SqL.of hp, rfl, _, _, rfl, rfl, ?_⟩
      refine ⟨_, rfl, p, _, 2, 2, rfl, rfl, hp, rfl, ?_⟩
      have hp1 : upd H p (.lst [.int a, .int b, .int (c + 1)]) p = some (.lst [.int a, .int b, .int (c + 1)]) := upd_same
      refine ⟨_, rfl, p, _, 1, .int b, rfl, rfl, SqL.of hp1, rfl, ?_⟩
      refine ⟨_, rfl, p, _, 2, .int (c + 1), rfl, rfl, SqL.of hp1, rfl, _, _, rfl, rfl, .inl ⟨by decide, by decide⟩, _, _, rfl, rfl, _, _, rfl, rfl, _, _, rfl, rfl, .inr ⟨by decide, by decide⟩, _, _, rfl, rfl, by show (2147483647 : Int) ≠ 0; decide, ?_⟩
      refine ⟨_, rfl, _, rfl, _, _, rfl, rfl, ⟨by decide, by decide⟩, _, _, rfl, rfl, _, _, rfl, rfl, .inl (fm_r (by decide) (by decide)), _, _, rfl, rfl, by show (2147483647 : Int) ≠ 0; decide, ?_⟩
      refine ⟨_, rfl, _, rfl, _, _, rfl, rfl, ⟨by decide, by decide⟩, _, _, rfl, rfl, _, _, rfl, rfl, .inl (fm_r (by decide) (by decide)), _, _, rfl, rfl, by show (2147483399 : Int) ≠ 0; decide, _, rfl, _, _, rfl, rfl, by omega, ?_⟩
      have e : upd (upd H p (.lst [.int a, .int b, .int (c + 1)])) p (.lst [.int a, .int b, .int (c + 1)]) = upd H p (.lst [.int a, .int b, .int (c + 1)]) := upd_upd
      exact k _ _ _ (fm_lo _ m0) (fm_hi _ m0)
end
end Law
namespace L2
open PySem PySem.Spec PyProof.Rows PySem.EsX
theorem ExV.mono {H H' : Hp} {e C d : Addr} {F : Str} {v : V} (s : Same H H') (x : ExV H e C d F v) : ExV H' e C d F v := ⟨s _ _ x.1, s _ _ x.2⟩
theorem mk_f {C : Addr} {F : Str} {v : V} {H : Hp} {e d : Addr} (he : H e = none) (hd : H d = none) (hne : e ≠ d) : Same H (upd (upd H d (exd d [(F, v)])) e (exo e C (some d))) ∧ ExV (upd (upd H d (exd d [(F, v)])) e (exo e C (some d))) e C d F v := by
  refine ⟨fun b o q => ?_, upd_same, ?_⟩
  · rw [upd_ne (ne_of_none q he), upd_ne (ne_of_none q hd)]
    exact q
  · rw [upd_ne (Ne.symm hne), upd_same]
theorem call_veV {X : Cx} : CallR X (.type "ValueError") (fun xs H Q => xs.length ≤ sizeLine ∧ ∀ p, H p = none → Q (.ref p) (upd H p (ExO (.type "ValueError") p))) := by
  intro pins s σ H xs us Q I r h
  obtain ⟨h1, h2⟩ := h
  obtain ⟨hp, g, d, tk, os⟩ := s
  refine wpAny_call_exc PySem.F.excCall_ValueError (fun h' a mk => ?_) (Nat.le_trans (Nat.le_of_eq r.length.symm) h1)
  obtain ⟨t, ht, _, _⟩ := mk.there
  exact ⟨.ref a, _, I.laidN mk.keeps mk.new (I.hok.gone mk.new) (exO_ok ht ⟨rfl, rfl⟩ rfl rfl rfl (show 4 < 6 by decide)), rfl, h2 a (I.hok.gone mk.new)⟩
def rIsB (K : PySem.W.Frag) : List V → Hp → VK → Prop := fun xs H Q => ∃ (a : Addr) (c : V) (u : Value) (b : Bool), xs = [.ref a, c] ∧ ClsV c u ∧ H a = some (ExO (.type "ValueError") a) ∧ PySem.W.kitOne K (.type "ValueError") u = some b ∧ Q (.bl b) H
theorem call_isB {X : Cx} : CallR X (.builtin "isinstance") (rIsB X.K) := by
  intro pins s σ H xs us Q I r h
  obtain ⟨a, c, u, b, rfl, k, e1, e, q⟩ := h
  obtain ⟨u1, u2, rfl, r1, r2⟩ := vals2 r
  have z2 := k.eq r2
  subst z2
  obtain rfl : u1 = Value.ref a := r1
  obtain ⟨⟨oe, vs, ho, hz, _⟩, _, _⟩ := I.hok a _ e1
  exact PySem.W.kia_one (PySem.W.kitx_bexc PySem.F.excAttr_ValueError PySem.F.lkClass_ValueError PySem.F.soClass_ValueError (by decide)) I.kIn ⟨oe, ho, hz.1⟩ e (fun z => nomatch z) fun tk => ⟨.bl b, H, I.tok tk, rfl, q⟩
end L2
namespace Law
open PySem PySem.Spec PyProof.Rows L2 PySem.EsX He Hk
/-- the classes and their fields -/
def CL (K : PySem.W.Frag) : List (Addr × Str) := [(ga K "NoBook", "index"), (ga K "NoTimetable", "index"), (ga K "NoMove", "index"), (ga K "NoSlot", "slot"), (ga K "NoAppointment", "appointment"), (ga K "Frozen", "slots"), (ga K "NoCertificate", "index"), (ga K "TooMany", "most"), (ga K "NotAllowed", "slot"), (ga K "NoWish", "key"), (ga K "NoCosts", "index")]
structure Txt (P : Program) (K : PySem.W.Frag) (mg : Str → Option Value) : Prop where
  x0 : ExOk P K mg "NoBook" "index" (ga K "NoBook")
  x1 : ExOk P K mg "NoTimetable" "index" (ga K "NoTimetable")
  x2 : ExOk P K mg "NoMove" "index" (ga K "NoMove")
  x3 : ExOk P K mg "NoSlot" "slot" (ga K "NoSlot")
  x4 : ExOk P K mg "NoAppointment" "appointment" (ga K "NoAppointment")
  x5 : ExOk P K mg "Frozen" "slots" (ga K "Frozen")
  x6 : ExOk P K mg "NoCertificate" "index" (ga K "NoCertificate")
  x7 : ExOk P K mg "TooMany" "most" (ga K "TooMany")
  x8 : ExOk P K mg "NotAllowed" "slot" (ga K "NotAllowed")
  x9 : ExOk P K mg "NoWish" "key" (ga K "NoWish")
  x10 : ExOk P K mg "NoCosts" "index" (ga K "NoCosts")
  gS : mg "SlotError" = some (.ref (ga K "SlotError"))
  len : mg "len" = none
  range : mg "range" = none
  isi : mg "isinstance" = none
  int : mg "int" = none
  enum : mg "enumerate" = none
  ve : mg "ValueError" = none
  kit : ∀ (i j : Nat) (p q : Addr × Str), (CL K)[i]? = some p → (CL K)[j]? = some q → PySem.W.kitOne K (.ref p.1) (.ref q.1) = some (decide (i = j))
  kitS : ∀ (i : Nat) (p : Addr × Str), (CL K)[i]? = some p → PySem.W.kitOne K (.ref p.1) (.ref (ga K "SlotError")) = some true
  kitV : ∀ (i : Nat) (p : Addr × Str), (CL K)[i]? = some p → PySem.W.kitOne K (.ref p.1) (.type "ValueError") = some true
  kitB : PySem.W.kitOne K (.type "ValueError") (.ref (ga K "SlotError")) = some false
/-- the list at p: an exception of each class, with the field v -/
def ExL (K : PySem.W.Frag) (H : Hp) (p : Addr) (v : V) : Prop := ∃ es : List (Addr × Addr), H p = some (.lst (es.map fun e => V.ref e.1)) ∧ Paired (fun (e : Addr × Addr) (c : Addr × Str) => ExV H e.1 c.1 e.2 c.2 v) es (CL K)
theorem Paired.get' {α β : Type} {R : α → β → Prop} : ∀ {xs : List α} {ys : List β} {i : Nat} {x : α}, Paired R xs ys → xs[i]? = some x → ∃ y, ys[i]? = some y ∧ R x y
  | _, _, _, _, .nil, e => by simp at e
  | _, _, 0, _, .cons r _, e => by simp at e; subst e; exact ⟨_, rfl, r⟩
  | _, _, i + 1, x, .cons _ t, e => by
    obtain ⟨u, h1, h2⟩ := Paired.get' (i := i) (x := x) t (by simpa using e)
    exact ⟨u, by simpa using h1, h2⟩
section
variable {P : Program} {w : World} {K : PySem.W.Frag} {mg : Str → Option Value} {base : Heap}
/-! ### _law_by_place, _law_by_name -/
def spMk (K : PySem.W.Frag) : Sp := fun vs H Q _ => ∃ v, vs = [v] ∧ ∀ p H', Same H H' → ExL K H' p v → Q (.ref p) H'
theorem same_new {H : Hp} {p : Addr} {o : HO} (h : H p = none) : Same H (upd H p o) := fun b u q => by
  rw [upd_ne (ne_of_none q h)]
  exact q
theorem scPlace : FnScope ["x", "some"] ["x"] (defScope s_law_by_place) := ⟨rfl, rfl, rfl, by decide +kernel, rfl, by decide +kernel, by decide +kernel⟩
theorem rd_mk {σ : L2.St} {H : Hp} {v : V} {D : Ends} (hσ : σ = [some v, none])
    (k : ∀ p H', Same H H' → ExL K H' p v → D.rt (.ref p) H')
    : tSeq (tAsg (tLst (tCons (tMkV (ga K "NoBook") "index" (tCons (tVar 0) tNil)) (tCons (tMkV (ga K "NoTimetable") "index" (tCons (tVar 0) tNil)) (tCons (tMkV (ga K "NoMove") "index" (tCons (tVar 0) tNil)) (tCons (tMkV (ga K "NoSlot") "slot" (tCons (tVar 0) tNil))
        (tCons (tMkV (ga K "NoAppointment") "appointment" (tCons (tVar 0) tNil)) (tCons (tMkV (ga K "Frozen") "slots" (tCons (tVar 0) tNil)) (tCons (tMkV (ga K "NoCertificate") "index" (tCons (tVar 0) tNil)) tNil)))))))) (gName 1))
      (tRet (tOp rCat (tVar 1) (tLst (tCons (tMkV (ga K "TooMany") "most" (tCons (tVar 0) tNil)) (tCons (tMkV (ga K "NotAllowed") "slot" (tCons (tVar 0) tNil)) (tCons (tMkV (ga K "NoWish") "key" (tCons (tVar 0) tNil)) (tCons (tMkV (ga K "NoCosts") "index" (tCons (tVar 0) tNil)) tNil))))))) D σ H := by
  subst hσ
  refine ⟨v, rfl, v, rfl, fun e0 d0 he0 hd0 hn0 => ?_⟩
  obtain ⟨s0, x0⟩ := mk_f (C := ga K "NoBook") (F := "index") (v := v) he0 hd0 hn0
  refine ⟨v, rfl, v, rfl, fun e1 d1 he1 hd1 hn1 => ?_⟩
  obtain ⟨s1, x1⟩ := mk_f (C := ga K "NoTimetable") (F := "index") (v := v) he1 hd1 hn1
  refine ⟨v, rfl, v, rfl, fun e2 d2 he2 hd2 hn2 => ?_⟩
  obtain ⟨s2, x2⟩ := mk_f (C := ga K "NoMove") (F := "index") (v := v) he2 hd2 hn2
  refine ⟨v, rfl, v, rfl, fun e3 d3 he3 hd3 hn3 => ?_⟩
  obtain ⟨s3, x3⟩ := mk_f (C := ga K "NoSlot") (F := "slot") (v := v) he3 hd3 hn3
  refine ⟨v, rfl, v, rfl, fun e4 d4 he4 hd4 hn4 => ?_⟩
  obtain ⟨s4, x4⟩ := mk_f (C := ga K "NoAppointment") (F := "appointment") (v := v) he4 hd4 hn4
  refine ⟨v, rfl, v, rfl, fun e5 d5 he5 hd5 hn5 => ?_⟩
  obtain ⟨s5, x5⟩ := mk_f (C := ga K "Frozen") (F := "slots") (v := v) he5 hd5 hn5
  refine ⟨v, rfl, v, rfl, fun e6 d6 he6 hd6 hn6 => ?_⟩
  obtain ⟨s6, x6⟩ := mk_f (C := ga K "NoCertificate") (F := "index") (v := v) he6 hd6 hn6
  refine ⟨by show 7 ≤ sizeLine; decide, fun l hl => ?_⟩
  refine ⟨_, rfl, ?_⟩
  have sl := same_new (o := .lst [.ref e0, .ref e1, .ref e2, .ref e3, .ref e4, .ref e5, .ref e6]) hl
  refine ⟨v, rfl, v, rfl, fun e7 d7 he7 hd7 hn7 => ?_⟩
  obtain ⟨s7, x7⟩ := mk_f (C := ga K "TooMany") (F := "most") (v := v) he7 hd7 hn7
  refine ⟨v, rfl, v, rfl, fun e8 d8 he8 hd8 hn8 => ?_⟩
  obtain ⟨s8, x8⟩ := mk_f (C := ga K "NotAllowed") (F := "slot") (v := v) he8 hd8 hn8
  refine ⟨v, rfl, v, rfl, fun e9 d9 he9 hd9 hn9 => ?_⟩
  obtain ⟨s9, x9⟩ := mk_f (C := ga K "NoWish") (F := "key") (v := v) he9 hd9 hn9
  refine ⟨v, rfl, v, rfl, fun ea da hea hda hna => ?_⟩
  obtain ⟨sa, xa⟩ := mk_f (C := ga K "NoCosts") (F := "index") (v := v) hea hda hna
  refine ⟨by show 4 ≤ sizeLine; decide, fun m hm => ?_⟩
  have sm := same_new (o := .lst [.ref e7, .ref e8, .ref e9, .ref ea]) hm
  have q6 := ((s7.trans s8).trans s9).trans sa
  have t6 := sl.trans q6
  refine ⟨l, m, [.ref e0, .ref e1, .ref e2, .ref e3, .ref e4, .ref e5, .ref e6], [.ref e7, .ref e8, .ref e9, .ref ea], rfl, rfl, sm _ _ (q6 _ _ upd_same), upd_same, by show 7 + 4 ≤ sizeLine; decide, fun p hp => ?_⟩
  have sp := same_new (o := .lst ([.ref e0, .ref e1, .ref e2, .ref e3, .ref e4, .ref e5, .ref e6] ++ [.ref e7, .ref e8, .ref e9, .ref ea])) hp
  have u := sm.trans sp
  have t7 := t6.trans u
  have ua := u
  have u9 := sa.trans u
  have u8 := s9.trans u9
  have u7 := s8.trans u8
  have v5 := s6.trans t7
  have v4 := s5.trans v5
  have v3 := s4.trans v4
  have v2 := s3.trans v3
  have v1 := s2.trans v2
  have v0 := s1.trans v1
  refine k p _ (s0.trans v0) ⟨[(e0, d0), (e1, d1), (e2, d2), (e3, d3), (e4, d4), (e5, d5), (e6, d6), (e7, d7), (e8, d8), (e9, d9), (ea, da)], upd_same, ?_⟩
  exact .cons (x0.mono v0) (.cons (x1.mono v1) (.cons (x2.mono v2) (.cons (x3.mono v3) (.cons (x4.mono v4) (.cons (x5.mono v5) (.cons (x6.mono t7) (.cons (x7.mono u7) (.cons (x8.mono u8) (.cons (x9.mono u9) (.cons (xa.mono ua) .nil))))))))))
theorem ok_place {f : Addr} {fd : FuncData} (F : FnP K "_law_by_place" s_law_by_place f fd) (T : Txt P K mg) : FnOk P w K mg base CX0 2 f fd ["x"] (spMk K) := by
  refine F.ok scPlace (fun vs H Q E h => ?_) (fun cdv A outer s H vs Q E hr h => ?_)
  · obtain ⟨v, rfl, _⟩ := h
    rfl
  · obtain ⟨v, rfl, k⟩ := h
    have nd := scPlace.nd
    refine ⟨_, PSs.nox (pss_cons (ps_set (i := 1) nd rfl (Or.inl rfl) (pe_lst (pa_cons (pe_exV T.x0.t T.x0.g hr (pa_cons (pv 0) pa_nil)) (pa_cons (pe_exV T.x1.t T.x1.g hr (pa_cons (pv 0) pa_nil)) (pa_cons (pe_exV T.x2.t T.x2.g hr (pa_cons (pv 0) pa_nil)) (pa_cons (pe_exV T.x3.t T.x3.g hr (pa_cons (pv 0) pa_nil)) (pa_cons (pe_exV T.x4.t T.x4.g hr (pa_cons (pv 0) pa_nil)) (pa_cons (pe_exV T.x5.t T.x5.g hr (pa_cons (pv 0) pa_nil)) (pa_cons (pe_exV T.x6.t T.x6.g hr (pa_cons (pv 0) pa_nil)) pa_nil)))))))))
      (pss_one (ps_ret (pe_op op_cat (pv 1) (pe_lst (pa_cons (pe_exV T.x7.t T.x7.g hr (pa_cons (pv 0) pa_nil)) (pa_cons (pe_exV T.x8.t T.x8.g hr (pa_cons (pv 0) pa_nil)) (pa_cons (pe_exV T.x9.t T.x9.g hr (pa_cons (pv 0) pa_nil)) (pa_cons (pe_exV T.x10.t T.x10.g hr (pa_cons (pv 0) pa_nil)) pa_nil))))))))), ?_⟩
    exact rd_mk rfl k
end
end Law
namespace Law
open PySem PySem.Spec PyProof.Rows L2 PySem.EsX He Hk
theorem boot_isinstance : bootBuiltins "isinstance" = some (.builtin "isinstance") := by decide +kernel
section
variable {P : Program} {w : World} {K : PySem.W.Frag} {mg : Str → Option Value} {base : Heap}
theorem scName : FnScope ["x", "some"] ["x"] (defScope s_law_by_name) := ⟨rfl, rfl, rfl, by decide +kernel, rfl, by decide +kernel, by decide +kernel⟩
theorem ok_name {f : Addr} {fd : FuncData} (F : FnP K "_law_by_name" s_law_by_name f fd) (T : Txt P K mg) : FnOk P w K mg base CX0 2 f fd ["x"] (spMk K) := by
  refine F.ok scName (fun vs H Q E h => ?_) (fun cdv A outer s H vs Q E hr h => ?_)
  · obtain ⟨v, rfl, _⟩ := h
    rfl
  · obtain ⟨v, rfl, k⟩ := h
    have nd := scName.nd
    refine ⟨_, PSs.nox (pss_cons (ps_set (i := 1) nd rfl (Or.inl rfl) (pe_lst (pa_cons (pe_exVk T.x0.t T.x0.g hr (pv 0)) (pa_cons (pe_exVk T.x1.t T.x1.g hr (pv 0)) (pa_cons (pe_exVk T.x2.t T.x2.g hr (pv 0)) (pa_cons (pe_exVk T.x3.t T.x3.g hr (pv 0)) (pa_cons (pe_exVk T.x4.t T.x4.g hr (pv 0)) pa_nil)))))))
      (pss_cons (ps_set (i := 1) nd rfl (Or.inl rfl) (pe_op op_cat (pv 1) (pe_lst (pa_cons (pe_exVk T.x5.t T.x5.g hr (pv 0)) (pa_cons (pe_exVk T.x6.t T.x6.g hr (pv 0)) (pa_cons (pe_exVk T.x7.t T.x7.g hr (pv 0)) pa_nil))))))
      (pss_one (ps_ret (pe_op op_cat (pv 1) (pe_lst (pa_cons (pe_exVk T.x8.t T.x8.g hr (pv 0)) (pa_cons (pe_exVk T.x9.t T.x9.g hr (pv 0)) (pa_cons (pe_exVk T.x10.t T.x10.g hr (pv 0)) pa_nil))))))))), ?_⟩
    refine ⟨v, rfl, v, rfl, fun e0 d0 he0 hd0 hn0 => ?_⟩
    obtain ⟨s0, x0⟩ := mk_f (C := ga K "NoBook") (F := "index") (v := v) he0 hd0 hn0
    refine ⟨v, rfl, v, rfl, fun e1 d1 he1 hd1 hn1 => ?_⟩
    obtain ⟨s1, x1⟩ := mk_f (C := ga K "NoTimetable") (F := "index") (v := v) he1 hd1 hn1
    refine ⟨v, rfl, v, rfl, fun e2 d2 he2 hd2 hn2 => ?_⟩
    obtain ⟨s2, x2⟩ := mk_f (C := ga K "NoMove") (F := "index") (v := v) he2 hd2 hn2
    refine ⟨v, rfl, v, rfl, fun e3 d3 he3 hd3 hn3 => ?_⟩
    obtain ⟨s3, x3⟩ := mk_f (C := ga K "NoSlot") (F := "slot") (v := v) he3 hd3 hn3
    refine ⟨v, rfl, v, rfl, fun e4 d4 he4 hd4 hn4 => ?_⟩
    obtain ⟨s4, x4⟩ := mk_f (C := ga K "NoAppointment") (F := "appointment") (v := v) he4 hd4 hn4
    refine ⟨by show 5 ≤ sizeLine; decide, fun l hl => ?_⟩
    have sl := same_new (o := .lst [.ref e0, .ref e1, .ref e2, .ref e3, .ref e4]) hl
    refine ⟨_, rfl, ?_⟩
    refine ⟨v, rfl, v, rfl, fun e5 d5 he5 hd5 hn5 => ?_⟩
    obtain ⟨s5, x5⟩ := mk_f (C := ga K "Frozen") (F := "slots") (v := v) he5 hd5 hn5
    refine ⟨v, rfl, v, rfl, fun e6 d6 he6 hd6 hn6 => ?_⟩
    obtain ⟨s6, x6⟩ := mk_f (C := ga K "NoCertificate") (F := "index") (v := v) he6 hd6 hn6
    refine ⟨v, rfl, v, rfl, fun e7 d7 he7 hd7 hn7 => ?_⟩
    obtain ⟨s7, x7⟩ := mk_f (C := ga K "TooMany") (F := "most") (v := v) he7 hd7 hn7
    refine ⟨by show 3 ≤ sizeLine; decide, fun m hm => ?_⟩
    have sm := same_new (o := .lst [.ref e5, .ref e6, .ref e7]) hm
    have q1 := (s5.trans s6).trans s7
    refine ⟨l, m, [.ref e0, .ref e1, .ref e2, .ref e3, .ref e4], [.ref e5, .ref e6, .ref e7], rfl, rfl, sm _ _ (q1 _ _ upd_same), upd_same, by show 5 + 3 ≤ sizeLine; decide, fun p hp => ?_⟩
    have sp := same_new (o := .lst ([.ref e0, .ref e1, .ref e2, .ref e3, .ref e4] ++ [.ref e5, .ref e6, .ref e7])) hp
    refine ⟨_, rfl, ?_⟩
    refine ⟨v, rfl, v, rfl, fun e8 d8 he8 hd8 hn8 => ?_⟩
    obtain ⟨s8, x8⟩ := mk_f (C := ga K "NotAllowed") (F := "slot") (v := v) he8 hd8 hn8
    refine ⟨v, rfl, v, rfl, fun e9 d9 he9 hd9 hn9 => ?_⟩
    obtain ⟨s9, x9⟩ := mk_f (C := ga K "NoWish") (F := "key") (v := v) he9 hd9 hn9
    refine ⟨v, rfl, v, rfl, fun e10 d10 he10 hd10 hn10 => ?_⟩
    obtain ⟨s10, x10⟩ := mk_f (C := ga K "NoCosts") (F := "index") (v := v) he10 hd10 hn10
    refine ⟨by show 3 ≤ sizeLine; decide, fun n hn => ?_⟩
    have sn := same_new (o := .lst [.ref e8, .ref e9, .ref e10]) hn
    have q2 := (s8.trans s9).trans s10
    refine ⟨p, n, [.ref e0, .ref e1, .ref e2, .ref e3, .ref e4] ++ [.ref e5, .ref e6, .ref e7], [.ref e8, .ref e9, .ref e10], rfl, rfl, sn _ _ (q2 _ _ upd_same), upd_same, by show 8 + 3 ≤ sizeLine; decide, fun z hz => ?_⟩
    have sz := same_new (o := .lst ([.ref e0, .ref e1, .ref e2, .ref e3, .ref e4] ++ [.ref e5, .ref e6, .ref e7] ++ [.ref e8, .ref e9, .ref e10])) hz
    have u10 := sn.trans sz
    have u9 := s10.trans u10
    have u8 := s9.trans u9
    have u7 := sm.trans (sp.trans (s8.trans u8))
    have u6 := s7.trans u7
    have u5 := s6.trans u6
    have u4 := sl.trans (s5.trans u5)
    have u3 := s4.trans u4
    have u2 := s3.trans u3
    have u1 := s2.trans u2
    have u0 := s1.trans u1
    refine k z _ (s0.trans u0) ⟨[(e0, d0), (e1, d1), (e2, d2), (e3, d3), (e4, d4), (e5, d5), (e6, d6), (e7, d7), (e8, d8), (e9, d9), (e10, d10)], upd_same, ?_⟩
    exact .cons (x0.mono u0) (.cons (x1.mono u1) (.cons (x2.mono u2) (.cons (x3.mono u3) (.cons (x4.mono u4) (.cons (x5.mono u5) (.cons (x6.mono u6) (.cons (x7.mono u7) (.cons (x8.mono u8) (.cons (x9.mono u9) (.cons (x10.mono u10) (.nil)))))))))))
/-! ### _law_fields -/
def spFields (K : PySem.W.Frag) : Sp := fun vs H Q _ => ∃ (p : Addr) (v : V), vs = [.ref p] ∧ ExL K H p v ∧ ∀ q H', Same H H' → H' q = some (.lst [v, v, v, v, v, v, v, v, v, v, v]) → Q (.ref q) H'
theorem scFields : FnScope ["some", "found"] ["some"] (defScope s_law_fields) := ⟨rfl, rfl, rfl, by decide +kernel, rfl, by decide +kernel, by decide +kernel⟩
theorem ok_fields {f : Addr} {fd : FuncData} (F : FnP K "_law_fields" s_law_fields f fd) (T : Txt P K mg) : FnOk P w K mg base CX0 1 f fd ["some"] (spFields K) := by
  refine F.ok scFields (fun vs H Q E h => ?_) (fun cdv A outer s H vs Q E hr h => ?_)
  · obtain ⟨p, v, rfl, _⟩ := h
    rfl
  · obtain ⟨p, v, rfl, ⟨es, hp, hE⟩, k⟩ := h
    have nd := scFields.nd
    refine ⟨_, PSs.nox (pss_cons (ps_set (i := 1) nd rfl (Or.inl rfl) (pe_lst (pa_cons (pe_fldV (pe_ix ix_list (pv 0) pe_int (fun _ _ => rfl))) (pa_cons (pe_fldV (pe_ix ix_list (pv 0) pe_int (fun _ _ => rfl))) (pa_cons (pe_fldV (pe_ix ix_list (pv 0) pe_int (fun _ _ => rfl))) (pa_cons (pe_fldV (pe_ix ix_list (pv 0) pe_int (fun _ _ => rfl))) (pa_cons (pe_fldV (pe_ix ix_list (pv 0) pe_int (fun _ _ => rfl))) pa_nil)))))))
      (pss_cons (ps_set (i := 1) nd rfl (Or.inl rfl) (pe_op op_cat (pv 1) (pe_lst (pa_cons (pe_fldV (pe_ix ix_list (pv 0) pe_int (fun _ _ => rfl))) (pa_cons (pe_fldV (pe_ix ix_list (pv 0) pe_int (fun _ _ => rfl))) (pa_cons (pe_fldV (pe_ix ix_list (pv 0) pe_int (fun _ _ => rfl))) (pa_cons (pe_fldV (pe_ix ix_list (pv 0) pe_int (fun _ _ => rfl))) pa_nil)))))))
      (pss_one (ps_ret (pe_op op_cat (pv 1) (pe_lst (pa_cons (pe_fldV (pe_ix ix_list (pv 0) pe_int (fun _ _ => rfl))) (pa_cons (pe_fldV (pe_ix ix_list (pv 0) pe_int (fun _ _ => rfl))) pa_nil)))))))), ?_⟩
    unfold CL at hE
    obtain _ | ⟨x0, hE⟩ := hE
    rename_i e0 es
    obtain _ | ⟨x1, hE⟩ := hE
    rename_i e1 es
    obtain _ | ⟨x2, hE⟩ := hE
    rename_i e2 es
    obtain _ | ⟨x3, hE⟩ := hE
    rename_i e3 es
    obtain _ | ⟨x4, hE⟩ := hE
    rename_i e4 es
    obtain _ | ⟨x5, hE⟩ := hE
    rename_i e5 es
    obtain _ | ⟨x6, hE⟩ := hE
    rename_i e6 es
    obtain _ | ⟨x7, hE⟩ := hE
    rename_i e7 es
    obtain _ | ⟨x8, hE⟩ := hE
    rename_i e8 es
    obtain _ | ⟨x9, hE⟩ := hE
    rename_i e9 es
    obtain _ | ⟨x10, hE⟩ := hE
    rename_i e10 es
    cases hE
    have hp : H p = some (.lst ([.ref e0.1, .ref e1.1, .ref e2.1, .ref e3.1, .ref e4.1, .ref e5.1, .ref e6.1, .ref e7.1, .ref e8.1, .ref e9.1, .ref e10.1] : List V)) := hp
    refine ⟨_, rfl, p, _, 0, .ref e0.1, rfl, rfl, SqL.of hp, rfl, e0.1, _, e0.2, v, rfl, x0, T.x0.c, ?_⟩
    refine ⟨_, rfl, p, _, 1, .ref e1.1, rfl, rfl, SqL.of hp, rfl, e1.1, _, e1.2, v, rfl, x1, T.x1.c, ?_⟩
    refine ⟨_, rfl, p, _, 2, .ref e2.1, rfl, rfl, SqL.of hp, rfl, e2.1, _, e2.2, v, rfl, x2, T.x2.c, ?_⟩
    refine ⟨_, rfl, p, _, 3, .ref e3.1, rfl, rfl, SqL.of hp, rfl, e3.1, _, e3.2, v, rfl, x3, T.x3.c, ?_⟩
    refine ⟨_, rfl, p, _, 4, .ref e4.1, rfl, rfl, SqL.of hp, rfl, e4.1, _, e4.2, v, rfl, x4, T.x4.c, ?_⟩
    refine ⟨by show 5 ≤ sizeLine; decide, fun l hl => ?_⟩
    have s1 := same_new (o := .lst [v, v, v, v, v]) hl
    have hp1 := s1 _ _ hp
    refine ⟨_, rfl, ?_⟩
    refine ⟨_, rfl, p, _, 5, .ref e5.1, rfl, rfl, SqL.of hp1, rfl, e5.1, _, e5.2, v, rfl, x5.mono s1, T.x5.c, ?_⟩
    refine ⟨_, rfl, p, _, 6, .ref e6.1, rfl, rfl, SqL.of hp1, rfl, e6.1, _, e6.2, v, rfl, x6.mono s1, T.x6.c, ?_⟩
    refine ⟨_, rfl, p, _, 7, .ref e7.1, rfl, rfl, SqL.of hp1, rfl, e7.1, _, e7.2, v, rfl, x7.mono s1, T.x7.c, ?_⟩
    refine ⟨_, rfl, p, _, 8, .ref e8.1, rfl, rfl, SqL.of hp1, rfl, e8.1, _, e8.2, v, rfl, x8.mono s1, T.x8.c, ?_⟩
    refine ⟨by show 4 ≤ sizeLine; decide, fun m hm => ?_⟩
    have s2 := same_new (o := .lst [v, v, v, v]) hm
    refine ⟨l, m, [v, v, v, v, v], [v, v, v, v], rfl, rfl, s2 _ _ upd_same, upd_same, by show 5 + 4 ≤ sizeLine; decide, fun q hq => ?_⟩
    have s3 := same_new (o := .lst ([v, v, v, v, v] ++ [v, v, v, v])) hq
    have t3 := s1.trans (s2.trans s3)
    have hp3 := t3 _ _ hp
    refine ⟨_, rfl, ?_⟩
    refine ⟨_, rfl, p, _, 9, .ref e9.1, rfl, rfl, SqL.of hp3, rfl, e9.1, _, e9.2, v, rfl, x9.mono t3, T.x9.c, ?_⟩
    refine ⟨_, rfl, p, _, 10, .ref e10.1, rfl, rfl, SqL.of hp3, rfl, e10.1, _, e10.2, v, rfl, x10.mono t3, T.x10.c, ?_⟩
    refine ⟨by show 2 ≤ sizeLine; decide, fun r hr' => ?_⟩
    have s4 := same_new (o := .lst [v, v]) hr'
    refine ⟨q, r, [v, v, v, v, v] ++ [v, v, v, v], [v, v], rfl, rfl, s4 _ _ upd_same, upd_same, by show 9 + 2 ≤ sizeLine; decide, fun z hz => ?_⟩
    exact k z _ (t3.trans (s4.trans (same_new hz))) upd_same
/-! ### _law_taken -/
def spTaken (K : PySem.W.Frag) : Sp := fun vs H Q _ => ∃ (e d : Addr) (v : V) (i : Nat) (c : Addr × Str), vs = [.ref e] ∧ (CL K)[i]? = some c ∧ ExV H e c.1 d c.2 v ∧ ExCls K c.1 c.2 ∧
  ∀ q H', Same H H' → H' q = some (.lst ((List.range 11).map fun j => .bl (decide (i = j)))) → Q (.ref q) H'
theorem scTaken : FnScope ["e", "first"] ["e"] (defScope s_law_taken) := ⟨rfl, rfl, rfl, by decide +kernel, rfl, by decide +kernel, by decide +kernel⟩
theorem ok_taken {f : Addr} {fd : FuncData} (F : FnP K "_law_taken" s_law_taken f fd) (T : Txt P K mg) : FnOk P w K mg base CX0 1 f fd ["e"] (spTaken K) := by
  refine F.ok scTaken (fun vs H Q E h => ?_) (fun cdv A outer s H vs Q E hr h => ?_)
  · obtain ⟨e, d, v, i, c, rfl, _⟩ := h
    rfl
  · obtain ⟨e, d, v, i, ⟨C, F⟩, rfl, hi, hx, hc, k⟩ := h
    have nd := scTaken.nd
    refine ⟨_, PSs.nox (pss_cons (ps_set (i := 1) nd rfl (Or.inl rfl) (pe_lst (pa_cons (pe_callB call_isV (by rfl) T.isi boot_isinstance (pa_cons (pv 0) (pa_cons (pe_glob (v := .ref (ga K "NoBook")) rfl T.x0.g rfl) pa_nil))) (pa_cons (pe_callB call_isV (by rfl) T.isi boot_isinstance (pa_cons (pv 0) (pa_cons (pe_glob (v := .ref (ga K "NoTimetable")) rfl T.x1.g rfl) pa_nil))) (pa_cons (pe_callB call_isV (by rfl) T.isi boot_isinstance (pa_cons (pv 0) (pa_cons (pe_glob (v := .ref (ga K "NoMove")) rfl T.x2.g rfl) pa_nil))) (pa_cons (pe_callB call_isV (by rfl) T.isi boot_isinstance (pa_cons (pv 0) (pa_cons (pe_glob (v := .ref (ga K "NoSlot")) rfl T.x3.g rfl) pa_nil))) pa_nil))))))
      (pss_cons (ps_set (i := 1) nd rfl (Or.inl rfl) (pe_op op_cat (pv 1) (pe_lst (pa_cons (pe_callB call_isV (by rfl) T.isi boot_isinstance (pa_cons (pv 0) (pa_cons (pe_glob (v := .ref (ga K "NoAppointment")) rfl T.x4.g rfl) pa_nil))) (pa_cons (pe_callB call_isV (by rfl) T.isi boot_isinstance (pa_cons (pv 0) (pa_cons (pe_glob (v := .ref (ga K "Frozen")) rfl T.x5.g rfl) pa_nil))) (pa_cons (pe_callB call_isV (by rfl) T.isi boot_isinstance (pa_cons (pv 0) (pa_cons (pe_glob (v := .ref (ga K "NoCertificate")) rfl T.x6.g rfl) pa_nil))) pa_nil))))))
      (pss_cons (ps_set (i := 1) nd rfl (Or.inl rfl) (pe_op op_cat (pv 1) (pe_lst (pa_cons (pe_callB call_isV (by rfl) T.isi boot_isinstance (pa_cons (pv 0) (pa_cons (pe_glob (v := .ref (ga K "TooMany")) rfl T.x7.g rfl) pa_nil))) (pa_cons (pe_callB call_isV (by rfl) T.isi boot_isinstance (pa_cons (pv 0) (pa_cons (pe_glob (v := .ref (ga K "NotAllowed")) rfl T.x8.g rfl) pa_nil))) (pa_cons (pe_callB call_isV (by rfl) T.isi boot_isinstance (pa_cons (pv 0) (pa_cons (pe_glob (v := .ref (ga K "NoWish")) rfl T.x9.g rfl) pa_nil))) pa_nil))))))
      (pss_one (ps_ret (pe_op op_cat (pv 1) (pe_lst (pa_cons (pe_callB call_isV (by rfl) T.isi boot_isinstance (pa_cons (pv 0) (pa_cons (pe_glob (v := .ref (ga K "NoCosts")) rfl T.x10.g rfl) pa_nil))) pa_nil)))))))), ?_⟩
    refine ⟨_, rfl, e, C, d, F, v, .ref (ga K "NoBook"), .ref (ga K "NoBook"), decide (i = 0), rfl, .own _, hx, hc, T.kit i 0 _ _ hi rfl, ?_⟩
    refine ⟨_, rfl, e, C, d, F, v, .ref (ga K "NoTimetable"), .ref (ga K "NoTimetable"), decide (i = 1), rfl, .own _, hx, hc, T.kit i 1 _ _ hi rfl, ?_⟩
    refine ⟨_, rfl, e, C, d, F, v, .ref (ga K "NoMove"), .ref (ga K "NoMove"), decide (i = 2), rfl, .own _, hx, hc, T.kit i 2 _ _ hi rfl, ?_⟩
    refine ⟨_, rfl, e, C, d, F, v, .ref (ga K "NoSlot"), .ref (ga K "NoSlot"), decide (i = 3), rfl, .own _, hx, hc, T.kit i 3 _ _ hi rfl, ?_⟩
    refine ⟨by show 4 ≤ sizeLine; decide, fun l hl => ?_⟩
    have s1 := same_new (o := .lst [.bl (decide (i = 0)), .bl (decide (i = 1)), .bl (decide (i = 2)), .bl (decide (i = 3))]) hl
    refine ⟨_, rfl, ?_⟩
    refine ⟨_, rfl, e, C, d, F, v, .ref (ga K "NoAppointment"), .ref (ga K "NoAppointment"), decide (i = 4), rfl, .own _, hx.mono s1, hc, T.kit i 4 _ _ hi rfl, ?_⟩
    refine ⟨_, rfl, e, C, d, F, v, .ref (ga K "Frozen"), .ref (ga K "Frozen"), decide (i = 5), rfl, .own _, hx.mono s1, hc, T.kit i 5 _ _ hi rfl, ?_⟩
    refine ⟨_, rfl, e, C, d, F, v, .ref (ga K "NoCertificate"), .ref (ga K "NoCertificate"), decide (i = 6), rfl, .own _, hx.mono s1, hc, T.kit i 6 _ _ hi rfl, ?_⟩
    refine ⟨by show 3 ≤ sizeLine; decide, fun l2 hl2 => ?_⟩
    have s2 := same_new (o := .lst [.bl (decide (i = 4)), .bl (decide (i = 5)), .bl (decide (i = 6))]) hl2
    refine ⟨l, l2, [.bl (decide (i = 0)), .bl (decide (i = 1)), .bl (decide (i = 2)), .bl (decide (i = 3))], [.bl (decide (i = 4)), .bl (decide (i = 5)), .bl (decide (i = 6))], rfl, rfl, s2 _ _ upd_same, upd_same, by show 4 + 3 ≤ sizeLine; decide, fun l3 hl3 => ?_⟩
    have s3 := same_new (o := .lst ([.bl (decide (i = 0)), .bl (decide (i = 1)), .bl (decide (i = 2)), .bl (decide (i = 3))] ++ [.bl (decide (i = 4)), .bl (decide (i = 5)), .bl (decide (i = 6))])) hl3
    have t3 := s1.trans (s2.trans s3)
    refine ⟨_, rfl, ?_⟩
    refine ⟨_, rfl, e, C, d, F, v, .ref (ga K "TooMany"), .ref (ga K "TooMany"), decide (i = 7), rfl, .own _, hx.mono t3, hc, T.kit i 7 _ _ hi rfl, ?_⟩
    refine ⟨_, rfl, e, C, d, F, v, .ref (ga K "NotAllowed"), .ref (ga K "NotAllowed"), decide (i = 8), rfl, .own _, hx.mono t3, hc, T.kit i 8 _ _ hi rfl, ?_⟩
    refine ⟨_, rfl, e, C, d, F, v, .ref (ga K "NoWish"), .ref (ga K "NoWish"), decide (i = 9), rfl, .own _, hx.mono t3, hc, T.kit i 9 _ _ hi rfl, ?_⟩
    refine ⟨by show 3 ≤ sizeLine; decide, fun l4 hl4 => ?_⟩
    have s4 := same_new (o := .lst [.bl (decide (i = 7)), .bl (decide (i = 8)), .bl (decide (i = 9))]) hl4
    refine ⟨l3, l4, [.bl (decide (i = 0)), .bl (decide (i = 1)), .bl (decide (i = 2)), .bl (decide (i = 3))] ++ [.bl (decide (i = 4)), .bl (decide (i = 5)), .bl (decide (i = 6))], [.bl (decide (i = 7)), .bl (decide (i = 8)), .bl (decide (i = 9))], rfl, rfl, s4 _ _ upd_same, upd_same, by show 7 + 3 ≤ sizeLine; decide, fun l5 hl5 => ?_⟩
    have s5 := same_new (o := .lst ([.bl (decide (i = 0)), .bl (decide (i = 1)), .bl (decide (i = 2)), .bl (decide (i = 3))] ++ [.bl (decide (i = 4)), .bl (decide (i = 5)), .bl (decide (i = 6))] ++ [.bl (decide (i = 7)), .bl (decide (i = 8)), .bl (decide (i = 9))])) hl5
    have t5 := t3.trans (s4.trans s5)
    refine ⟨_, rfl, ?_⟩
    refine ⟨_, rfl, e, C, d, F, v, .ref (ga K "NoCosts"), .ref (ga K "NoCosts"), decide (i = 10), rfl, .own _, hx.mono t5, hc, T.kit i 10 _ _ hi rfl, ?_⟩
    refine ⟨by show 1 ≤ sizeLine; decide, fun l6 hl6 => ?_⟩
    have s6 := same_new (o := .lst [.bl (decide (i = 10))]) hl6
    refine ⟨l5, l6, [.bl (decide (i = 0)), .bl (decide (i = 1)), .bl (decide (i = 2)), .bl (decide (i = 3))] ++ [.bl (decide (i = 4)), .bl (decide (i = 5)), .bl (decide (i = 6))] ++ [.bl (decide (i = 7)), .bl (decide (i = 8)), .bl (decide (i = 9))], [.bl (decide (i = 10))], rfl, rfl, s6 _ _ upd_same, upd_same, by show 10 + 1 ≤ sizeLine; decide, fun z hz => ?_⟩
    exact k z _ (t5.trans (s6.trans (same_new hz))) upd_same
end
end Law
namespace L2
open PySem PySem.Spec PyProof.Rows
theorem Same.seqT {K : PySem.W.Frag} {H H' : Hp} {a : Addr} {xs : List V} (e : Same H H') (h : SqT K H a xs) : SqT K H' a xs := by
  rcases h with (h | ⟨o, h⟩) | h
  · exact .inl (.inl (e _ _ h))
  · exact .inl (.inr ⟨o, e _ _ h⟩)
  · exact .inr h
section
variable {K : PySem.W.Frag} {H H' : Hp}
mutual
theorem Dp.mono (s : Same H H') : ∀ (d : PyData) (v : V), Dp K H v d → Dp K H' v d
  | .none, _, h => by cases h; exact .non
  | .bool b, _, h => by cases h; exact .bl b
  | .int i, _, h => by cases h; exact .int i
  | .str x, _, h => by cases h; exact .str x
  | .list ds, _, h => by
    cases h with
    | lst a b => exact .lst (s.seq a) (DpAll.mono s ds _ b)
  | .tuple ds, _, h => by
    cases h with
    | tup a b => exact .tup (s.seqT a) (DpAll.mono s ds _ b)
  | .dict _, _, h => by cases h
theorem DpAll.mono (s : Same H H') : ∀ (ds : List PyData) (vs : List V), DpAll K H vs ds → DpAll K H' vs ds
  | [], _, h => by cases h; exact .nil
  | d :: ds, _, h => by
    cases h with
    | cons a b => exact .cons (Dp.mono s d _ a) (DpAll.mono s ds _ b)
end
theorem Dp.mono' {v : V} {d : PyData} (h : Dp K H v d) (s : Same H H') : Dp K H' v d := Dp.mono s d v h
theorem dp11 {v : V} {d : PyData} (h : Dp K H v d) : DpAll K H [v, v, v, v, v, v, v, v, v, v, v] [d, d, d, d, d, d, d, d, d, d, d] := .cons h (.cons h (.cons h (.cons h (.cons h (.cons h (.cons h (.cons h (.cons h (.cons h (.cons h .nil))))))))))
end
end L2
namespace Law
open PySem PySem.Spec PyProof.Rows L2 PySem.EsX He Hk
section
variable {P : Program} {w : World} {K : PySem.W.Frag} {mg : Str → Option Value} {base : Heap}
/-- the defs of the text -/
structure Fns (P : Program) (K : PySem.W.Frag) (mg : Str → Option Value) (fD fP fN fF fT : Addr) (fdD fdP fdN fdF fdT : FuncData) : Prop where
  D : FnP K "_law_draw" s_law_draw fD fdD
  P : FnP K "_law_by_place" s_law_by_place fP fdP
  N : FnP K "_law_by_name" s_law_by_name fN fdN
  F : FnP K "_law_fields" s_law_fields fF fdF
  T : FnP K "_law_taken" s_law_taken fT fdT
  gD : mg "_law_draw" = some (.ref fD)
  gP : mg "_law_by_place" = some (.ref fP)
  gN : mg "_law_by_name" = some (.ref fN)
  gF : mg "_law_fields" = some (.ref fF)
  gT : mg "_law_taken" = some (.ref fT)
theorem boot_enum : bootBuiltins "enumerate" = some (.type "enumerate") := by decide +kernel
def spRight : Sp := fun vs H Q _ => ∃ (p : Addr) (a b c : Int), vs = [.ref p] ∧ H p = some (.lst [.int a, .int b, .int c]) ∧ ∀ H', (∀ b o, H b = some o → b ≠ p → H' b = some o) → Q (.bl true) H'
theorem scRight : FnScope ["well", "x", "some", "spot", "e", "k"] ["well"] (defScope s_law_right) := ⟨rfl, rfl, rfl, by decide +kernel, rfl, by decide +kernel, by decide +kernel⟩
theorem pick5 {K : PySem.W.Frag} {H : Hp} {t : Addr} (r1 r2 : Int) (h0 : 0 ≤ r2) (h1 : r2 < 5) (ht : H t = some (.tup [.int 0, .int 1])) :
    ∃ v d, atI [V.int r1, .int (-1), .non, .str "v", .ref t] r2 = some v ∧ Dp K H v d ∧ SeqAt.shaped (.list [d, d, d, d, d, d, d, d, d, d, d]) = true := by
  have h : r2 = 0 ∨ r2 = 1 ∨ r2 = 2 ∨ r2 = 3 ∨ r2 = 4 := by omega
  rcases h with rfl | rfl | rfl | rfl | rfl
  · exact ⟨_, .int r1, rfl, .int _, rfl⟩
  · exact ⟨_, .int (-1), rfl, .int _, rfl⟩
  · exact ⟨_, .none, rfl, .non, rfl⟩
  · exact ⟨_, .str "v", rfl, .str _, by decide +kernel⟩
  · exact ⟨_, .tuple [.int 0, .int 1], rfl, .tup (SqT.of ht) (.cons (.int _) (.cons (.int _) .nil)), by decide +kernel⟩
theorem bools_eq : ∀ i : Nat, i < 11 → PyData.eqv (.list ((List.range 11).map fun j : Nat => .bool (decide (i = j)))) (.list ((List.range 11).map fun j : Nat => .bool (decide ((j : Int) = (i : Int))))) = true := by decide +kernel
theorem bools_shaped (f : Nat → Bool) : SeqAt.shaped (.list ((List.range 11).map fun j => .bool (f j))) = true := rfl
theorem dp_bools {H : Hp} (f : Nat → Bool) : ∀ l : List Nat, DpAll K H (l.map fun j => .bl (f j)) (l.map fun j => .bool (f j))
  | [] => .nil
  | a :: l => .cons (.bl _) (dp_bools f l)
theorem ok_right {fD fP fN fF fT f : Addr} {fdD fdP fdN fdF fdT fd : FuncData} (F : FnP K "_law_right" s_law_right f fd) (T : Txt P K mg) (G : Fns P K mg fD fP fN fF fT fdD fdP fdN fdF fdT) : FnOk P w K mg base CX0 3 f fd ["well"] spRight := by
  have GD : FnOk P w K mg base CX0 1 fD fdD ["well", "many"] spDraw := ok_draw G.D
  have GP : FnOk P w K mg base CX0 2 fP fdP ["x"] (spMk K) := ok_place G.P T
  have GN : FnOk P w K mg base CX0 2 fN fdN ["x"] (spMk K) := ok_name G.N T
  have GF : FnOk P w K mg base CX0 1 fF fdF ["some"] (spFields K) := ok_fields G.F T
  have GT : FnOk P w K mg base CX0 1 fT fdT ["e"] (spTaken K) := ok_taken G.T T
  have bD : Binds K fdD ["well", "many"] [] := G.D.bindsN fun _ _ _ _ _ _ us hl => match us, hl with | [_, _], _ => rfl
  have bP : Binds K fdP ["x"] [] := G.P.bindsN fun _ _ _ _ _ _ us hl => match us, hl with | [_], _ => rfl
  have bN : Binds K fdN ["x"] [] := G.N.bindsN fun _ _ _ _ _ _ us hl => match us, hl with | [_], _ => rfl
  have bF : Binds K fdF ["some"] [] := G.F.bindsN fun _ _ _ _ _ _ us hl => match us, hl with | [_], _ => rfl
  have bT : Binds K fdT ["e"] [] := G.T.bindsN fun _ _ _ _ _ _ us hl => match us, hl with | [_], _ => rfl
  refine F.ok scRight (fun vs H Q E h => ?_) (fun cdv A outer s H vs Q E hr h => ?_)
  · obtain ⟨p, a, b, c, rfl, _⟩ := h
    rfl
  · obtain ⟨pw, a, b, c, rfl, hp, k⟩ := h
    have nd := scRight.nd
    have hr1 : Room 1 _ := hr.mono (by decide)
    refine ⟨_, PSs.nox (pss_cons (ps_set (i := 1) nd rfl (Or.inl rfl) (pe_ix ix_list (pe_lst (pa_cons (pe_call GD hr1 rfl G.gD G.D.kp bD .nil pass0 (pa_cons (pv 0) (pa_cons pe_int pa_nil))) (pa_cons (pe_un un_neg pe_int) (pa_cons pe_non (pa_cons pe_str (pa_cons (pe_tup (pa_cons pe_int (pa_cons pe_int pa_nil))) pa_nil))))))
        (pe_call GD hr1 rfl G.gD G.D.kp bD .nil pass0 (pa_cons (pv 0) (pa_cons pe_int pa_nil))) (fun _ _ => rfl)))
      (pss_cons (ps_for PassesOwn.never rfl (pi_list (pe_lst (pa_cons (pe_call GP hr rfl G.gP G.P.kp bP .nil pass0 (pa_cons (pv 1) pa_nil)) (pa_cons (pe_call GN hr rfl G.gN G.N.kp bN .nil pass0 (pa_cons (pv 1) pa_nil)) pa_nil)))) (pg_name (i := 2) nd rfl (Or.inl rfl))
        (pss_cons (ps_if (pt_cmpR (op_neD hr.units) (pe_call GF hr1 rfl G.gF G.F.kp bF .nil pass0 (pa_cons (pv 2) pa_nil)) (pe_op op_rep (pe_lst (pa_cons (pv 1) pa_nil)) pe_int) (nomark _)) (pss_one (ps_ret pe_bl)) pss_nil)
        (pss_one (ps_for PassesOwn.never rfl (pi_enum (by rfl) T.enum (pa_cons (pv 2) pa_nil)) (pg_tup rfl (pgs_cons (pg_name (i := 3) nd rfl (Or.inr rfl)) (pgs_cons (pg_name (i := 4) nd rfl (Or.inl rfl)) pgs_nil)))
          (pss_cons (ps_if (pt_cmpR (op_neD hr.units) (pe_call GT hr1 rfl G.gT G.T.kp bT .nil pass0 (pa_cons (pv 4) pa_nil))
              (pe_lc (own := [("k", 5)]) (g := gName 5) (tt := tYes) rfl nd (pi_range1 rfl T.range (pa_cons pe_int pa_nil)) (blkOk_by (own := [("k", 5)]) (N := ["well", "x", "some", "spot", "e", "k"]) (sc := defScope s_law_right) (by decide +kernel)) (fun _ _ _ _ _ => pg_name (i := 5) nd rfl (Or.inl rfl)) (fun _ _ _ _ _ => pts_nil) (fun _ _ _ _ _ => pe_cmpR op_eq (pv 5) (pv 3) (nomark _))) (nomark _)) (pss_one (ps_ret pe_bl)) pss_nil)
          (pss_one (ps_if (PW.pt (pw_or (pt_not (pt_val (pe_callB call_isV (by rfl) T.isi boot_isinstance (pa_cons (pv 4) (pa_cons (pe_glob (v := .ref (ga K "SlotError")) rfl T.gS rfl) pa_nil)))))
              (pw_or1 (pt_not (pt_val (pe_callB call_isV (by rfl) T.isi boot_isinstance (pa_cons (pv 4) (pa_cons (pe_bltn (v := .ty "ValueError") rfl T.ve boot_ValueError rfl) pa_nil)))))))) (pss_one (ps_ret pe_bl)) pss_nil)))))))
      (pss_one (ps_ret (pe_not (pe_callB call_isB (by rfl) T.isi boot_isinstance (pa_cons (pe_callTy call_veV (by rfl) T.ve boot_ValueError (pa_cons pe_str pa_nil)) (pa_cons (pe_glob (v := .ref (ga K "SlotError")) rfl T.gS rfl) pa_nil)))))))), ?_⟩
    -- x = [..][..]
    refine ⟨_, rfl, pw, a, b, c, 1000, rfl, hp, by decide, by decide, fun r1 a1 c1 _ _ => ?_⟩
    refine ⟨_, rfl, by show 2 ≤ sizeLine; decide, fun t ht => ?_⟩
    refine ⟨by show 5 ≤ sizeLine; decide, fun l hl => ?_⟩
    have hw1 : upd H pw (.lst [.int a1, .int b, .int c1]) pw = some (.lst [.int a1, .int b, .int c1]) := upd_same
    have st := same_new (o := .tup [.int 0, .int 1]) ht
    have sl := same_new (o := .lst [.int r1, .int (-1), .non, .str "v", .ref t]) hl
    refine ⟨_, rfl, pw, a1, b, c1, 5, rfl, sl _ _ (st _ _ hw1), by decide, by decide, fun r2 a2 c2 h0 h1 => ?_⟩
    have ne1 : t ≠ pw := Ne.symm (ne_of_none hw1 ht)
    have ne2 : l ≠ pw := Ne.symm (ne_of_none (st _ _ hw1) hl)
    have ht2 : (upd (upd (upd (upd H pw (.lst [.int a1, .int b, .int c1])) t (.tup [.int 0, .int 1])) l (.lst [.int r1, .int (-1), .non, .str "v", .ref t])) pw (.lst [.int a2, .int b, .int c2])) t = some (.tup [.int 0, .int 1]) := by
      rw [upd_ne ne1]; exact sl _ _ upd_same
    have hl2 : (upd (upd (upd (upd H pw (.lst [.int a1, .int b, .int c1])) t (.tup [.int 0, .int 1])) l (.lst [.int r1, .int (-1), .non, .str "v", .ref t])) pw (.lst [.int a2, .int b, .int c2])) l = some (.lst [.int r1, .int (-1), .non, .str "v", .ref t]) := by
      rw [upd_ne ne2, upd_same]
    obtain ⟨v, d, hv, hd, hsh⟩ := pick5 (K := K) r1 r2 h0 h1 ht2
    refine ⟨l, _, r2, v, rfl, rfl, SqL.of hl2, hv, ?_⟩
    have hfr : ∀ b' o', H b' = some o' → b' ≠ pw → (upd (upd (upd (upd H pw (.lst [.int a1, .int b, .int c1])) t (.tup [.int 0, .int 1])) l (.lst [.int r1, .int (-1), .non, .str "v", .ref t])) pw (.lst [.int a2, .int b, .int c2])) b' = some o' := fun b' o' z hb => by
      rw [upd_ne hb]
      exact sl _ _ (st _ _ (by rw [upd_ne hb]; exact z))
    generalize (upd (upd (upd (upd H pw (.lst [.int a1, .int b, .int c1])) t (.tup [.int 0, .int 1])) l (.lst [.int r1, .int (-1), .non, .str "v", .ref t])) pw (.lst [.int a2, .int b, .int c2])) = H1 at *
    -- for some in [..]
    refine ⟨_, rfl, v, rfl, fun p1 H2 s2 x1 => ?_⟩
    refine ⟨_, rfl, v, rfl, fun p2 H3 s3 x2 => ?_⟩
    refine ⟨by show 2 ≤ sizeLine; decide, fun m hm => ?_⟩
    have sm := same_new (o := .lst [.ref p1, .ref p2]) hm
    have xx : ∀ y, y ∈ [V.ref p1, V.ref p2] → ∃ q, y = .ref q ∧ ∀ H', Same (upd H3 m (.lst [.ref p1, .ref p2])) H' → ExL K H' q v := by
      intro y hy
      simp only [List.mem_cons, List.not_mem_nil, or_false] at hy
      have mo : ∀ {q : Addr} {A B : Hp}, Same A B → ExL K A q v → ExL K B q v := fun s ⟨es, e1, e2⟩ => ⟨es, s _ _ e1, L2.Paired.mapP e2 fun _ _ z => z.mono s⟩
      rcases hy with rfl | rfl
      · exact ⟨p1, rfl, fun H' s => mo (s3.trans (sm.trans s)) x1⟩
      · exact ⟨p2, rfl, fun H' s => mo (sm.trans s) x2⟩
    have hfr4 : ∀ b' o', H b' = some o' → b' ≠ pw → (upd H3 m (.lst [.ref p1, .ref p2])) b' = some o' := fun b' o' z hb => sm _ _ (s3 _ _ (s2 _ _ (hfr _ _ z hb)))
    have hd3 : Dp K (upd H3 m (.lst [.ref p1, .ref p2])) v d := (hd.mono' (s2.trans (s3.trans sm)))
    have hm3 : upd H3 m (.lst [.ref p1, .ref p2]) m = some (.lst [.ref p1, .ref p2]) := upd_same
    generalize upd H3 m (.lst [.ref p1, .ref p2]) = H4 at *
    refine ⟨m, rfl, ⟨_, SqL.of hm3⟩, for_list (K := K) (a := m) (xs := [.ref p1, .ref p2]) (fun _ σ H' => ∃ s2 s3 s4 s5, σ = [some (.ref pw), some v, s2, s3, s4, s5] ∧ Same H4 H')
      ⟨_, _, _, _, rfl, Same.refl _⟩ (fun _ _ _ _ ⟨_, _, _, _, _, z⟩ => z.seq (SqL.of hm3)) ?_ ?_⟩
    · rintro i y σ H5 hi ⟨z2, z3, z4, z5, rfl, s5⟩
      obtain ⟨q, rfl, hq⟩ := xx y (List.mem_of_getElem? hi)
      -- if _law_fields(some) != [x] * 11
      refine ⟨_, rfl, q, v, rfl, hq _ s5, fun f1 H6 s6 h6 => ?_⟩
      refine ⟨_, rfl, by show 1 ≤ sizeLine; decide, fun o1 ho1 => ?_⟩
      have so1 := same_new (o := .lst [v]) ho1
      refine ⟨o1, 11, [v], rfl, rfl, upd_same, by decide, by decide, by show 1 * 11 ≤ sizeLine; decide, fun o2 ho2 => ?_⟩
      have so2 := same_new (o := .lst (List.replicate (Int.toNat 11) [v]).flatten) ho2
      have t6 := s6.trans (so1.trans so2)
      have dv := hd3.mono' (s5.trans t6)
      refine ⟨.list [d, d, d, d, d, d, d, d, d, d, d], .list [d, d, d, d, d, d, d, d, d, d, d], .lst (SqL.of (so2 _ _ (so1 _ _ h6))) (dp11 dv), .lst (SqL.of upd_same) (dp11 dv), hsh, hsh, _, rfl, ?_⟩
      rw [SeqAt.eqv_refl _ (SeqAt.canLay_of_shaped hsh)]
      refine iteF ?_
      -- for spot, e in enumerate(some)
      obtain ⟨es, e1, e2⟩ := hq _ s5
      have hes : es.length = 11 := by
        have z := Paired.length e2
        rw [z]; rfl
      have s56 := t6
      generalize hH7 : upd (upd H6 o1 (.lst [v])) o2 (.lst (List.replicate (Int.toNat 11) [v]).flatten) = H7 at *
      have e17 := s56 _ _ e1
      refine ⟨_, rfl, q, _, rfl, SqL.of e17, for_it (walk_enum (xs := es.map fun e => V.ref e.1)) (fun _ σ H' => ∃ z3 z4 z5, σ = [some (.ref pw), some v, some (.ref q), z3, z4, z5] ∧ Same H7 H')
        ⟨_, _, _, rfl, Same.refl _⟩ (fun _ _ _ _ ⟨_, _, _, _, z⟩ => z.seq (SqL.of e17)) ?_ ?_⟩
      · rintro j y σ H8 H9 hj ⟨z3, z4, z5, rfl, s8⟩ ⟨tp, x, y', rfl, htp, rfl, ex, ey⟩
        cases ex
        have stp := same_new (o := .tup [.int (j : Int), y']) htp
        obtain ⟨⟨e, dd⟩, hej, rfl⟩ : ∃ p, es[j]? = some p ∧ y' = V.ref p.1 := by
          have ey' : (es.map fun e => V.ref e.1)[j]? = some y' := ey
          rw [List.getElem?_map] at ey'
          cases hz : es[j]? with
          | none => rw [hz] at ey'; cases ey'
          | some p => rw [hz] at ey'; exact ⟨p, rfl, (Option.some.inj ey').symm⟩
        obtain ⟨⟨C, F⟩, hcl, hx⟩ := Paired.get' e2 hej
        have hj11 : j < 11 := by
          rw [List.length_map, hes] at hj
          exact hj
        have hxc : ExCls K C F := by
          have hcl' : (CL K)[j]? = some (C, F) := hcl
          match j, hj11, hcl' with
          | 0, _, z => cases z; exact T.x0.c
          | 1, _, z => cases z; exact T.x1.c
          | 2, _, z => cases z; exact T.x2.c
          | 3, _, z => cases z; exact T.x3.c
          | 4, _, z => cases z; exact T.x4.c
          | 5, _, z => cases z; exact T.x5.c
          | 6, _, z => cases z; exact T.x6.c
          | 7, _, z => cases z; exact T.x7.c
          | 8, _, z => cases z; exact T.x8.c
          | 9, _, z => cases z; exact T.x9.c
          | 10, _, z => cases z; exact T.x10.c
        have hx9 := hx.mono (s56.trans (s8.trans stp))
        refine ⟨tp, _, rfl, SqT.of upd_same, rfl, _, _, rfl, _, _, rfl, rfl, ?_⟩
        -- if _law_taken(e) != [..]
        refine ⟨_, rfl, e, dd, v, j, (C, F), rfl, hcl, hx9, hxc, fun b1 H10 s10 hb1 => ?_⟩
        refine ⟨11, rfl, by decide, by decide, fun D hD => lc_range (lo := 0) (n := 11) (fun i H' => Same H10 H' ∧ H' D = some (.lst ((List.range i).map fun k : Nat => V.bl (decide ((k : Int) = (j : Int)))))) ⟨same_new hD, upd_same⟩ ?_ ?_⟩
        · rintro i H11 hi ⟨s11, h11⟩
          refine ⟨rfl, _, rfl, _, rfl, rfl, _, h11, ?_, ?_, ?_⟩
          · rw [List.length_map, List.length_range]
            exact small1000 (by omega)
          · intro b o z
            have hb : b ≠ D := ne_of_none z hD
            rw [upd_ne hb]
            exact s11 _ _ z
          · rw [upd_same, List.range_succ, List.map_append]
            have ed : decide (V.int (0 + (i : Int)) = V.int (j : Int)) = decide ((i : Int) = (j : Int)) := by
              rw [Int.zero_add]
              exact decide_eq_decide.mpr ⟨fun z => V.int.inj z, fun z => by rw [z]⟩
            show some (HO.lst (_ ++ [V.bl (decide (V.int (0 + (i : Int)) = V.int (j : Int)))])) = _
            rw [ed]
            rfl
        · rintro H11 ⟨s11, h11⟩
          have dT : Dp K H11 (.ref b1) (.list ((List.range 11).map fun k : Nat => .bool (decide (j = k)))) := .lst (SqL.of (s11 _ _ hb1)) (dp_bools (fun k => decide (j = k)) _)
          have dR : Dp K H11 (.ref D) (.list ((List.range 11).map fun k : Nat => .bool (decide ((k : Int) = (j : Int))))) := .lst (SqL.of h11) (dp_bools (fun k => decide ((k : Int) = (j : Int))) _)
          refine ⟨_, _, dT, dR, bools_shaped _, bools_shaped _, _, rfl, ?_⟩
          rw [bools_eq j hj11]
          refine iteF ?_
          have hx11 := hx9.mono (s10.trans s11)
          refine ⟨_, rfl, e, C, dd, F, v, .ref (ga K "SlotError"), .ref (ga K "SlotError"), true, rfl, .own _, hx11, hxc, T.kitS j _ hcl, true, rfl, ?_⟩
          refine iteF ?_
          refine ⟨_, rfl, e, C, dd, F, v, .ty "ValueError", .type "ValueError", true, rfl, .ty _, hx11, hxc, T.kitV j _ hcl, true, rfl, ?_⟩
          refine iteF ?_
          exact ⟨_, _, _, rfl, s8.trans (stp.trans (s10.trans s11))⟩
      · rintro σ H8 ⟨z3, z4, z5, rfl, s8⟩
        exact ⟨_, _, _, _, rfl, s5.trans (s56.trans s8)⟩
    · rintro σ H5 ⟨z2, z3, z4, z5, rfl, s5⟩
      refine ⟨by show 1 ≤ sizeLine; decide, fun p hp' => ?_⟩
      refine ⟨p, .ref (ga K "SlotError"), .ref (ga K "SlotError"), false, rfl, .own _, upd_same, T.kitB, false, rfl, ?_⟩
      exact k _ fun b' o' z hb => same_new hp' _ _ (s5 _ _ (hfr4 _ _ z hb))
end
end Law
namespace L2
open PySem PySem.Spec PyProof.Rows
/-- list + list, each tracked, locked or written -/
def rCatS (K : PySem.W.Frag) : R2 := fun x y H Q => ∃ l b xs zs, x = .ref l ∧ y = .ref b ∧ SqL K H l xs ∧ SqL K H b zs ∧ xs.length + zs.length ≤ sizeLine ∧ ∀ p, H p = none → Q (.ref p) (upd H p (.lst (xs ++ zs)))
theorem op_catS {X : Cx} : OpR X (binaryOp .Add) (rCatS X.K) := by
  intro pins s σ H x y v u Q I rx ry h
  obtain ⟨l, b, xs, zs, rfl, rfl, hH, hB, hz, q⟩ := h
  cases rx
  cases ry
  obtain ⟨its, r, ⟨o, n, ho, hc, hd, hs⟩, z⟩ := I.list hH
  obtain ⟨its2, r2, ⟨o2, n2, ho2, hc2, hd2, hs2⟩, z2⟩ := I.list hB
  obtain ⟨cls, dd, data, sl⟩ := o
  obtain ⟨cls2, dd2, data2, sl2⟩ := o2
  simp only at hc hd hs hc2 hd2 hs2
  subst hc hd hs hc2 hd2 hs2
  have l1 := r.length
  have l2 := r2.length
  have ea : its.toArray ++ its2.toArray = (its ++ its2).toArray := by simp
  refine concat_meets ⟨_, ho, rfl⟩ ⟨_, ho2, rfl⟩ noFill_list_add seq_list_add PySem.F.slot_list_add PySem.F.entry_list_add (PySem.F.args_list_add_2 _ _) (list_addW l b its.toArray its2.toArray n n2 none none sl sl2 (by rw [List.size_toArray, List.size_toArray]; omega)) ⟨ho, ho2, ?_⟩
  rw [ea]
  exact ⟨.ref _, _, I.lnew (t' := s.toks) (r.append r2) (by rw [List.length_append]; omega), rfl, q _ I.fresh⟩
end L2
namespace Law
open PySem PySem.Spec PyProof.Rows L2 PySem.EsX He Hk
section
variable {P : Program} {w : World} {K : PySem.W.Frag} {mg : Str → Option Value} {base : Heap}
theorem boot_int' : bootBuiltins "int" = some (.type "int") := by decide +kernel
def spLaw (K : PySem.W.Frag) : Sp := fun vs H Q _ => ∃ (a : Addr) (ns : List Int), vs = [.ref a] ∧ SqL K H a (ns.map V.int) ∧ ns.length ≤ 63 ∧ ∀ H', Q (.bl true) H'
theorem scLaw : FnScope ["script", "k", "cell"] ["script"] (defScope s_law) := ⟨rfl, rfl, rfl, by decide +kernel, rfl, by decide +kernel, by decide +kernel⟩
theorem ok_law {fD fP fN fF fT fR f : Addr} {fdD fdP fdN fdF fdT fdR fd : FuncData} (F : FnP K "law" s_law f fd) (T : Txt P K mg) (G : Fns P K mg fD fP fN fF fT fdD fdP fdN fdF fdT) (FR : FnP K "_law_right" s_law_right fR fdR) (gR : mg "_law_right" = some (.ref fR)) : FnOk P w K mg base CX0 4 f fd ["script"] (spLaw K) := by
  have GR : FnOk P w K mg base CX0 3 fR fdR ["well"] spRight := ok_right FR T G
  have bR : Binds K fdR ["well"] [] := FR.bindsN fun _ _ _ _ _ _ us hl => match us, hl with | [_], _ => rfl
  refine F.ok scLaw (fun vs H Q E h => ?_) (fun cdv A outer s H vs Q E hr h => ?_)
  · obtain ⟨a, ns, rfl, _⟩ := h
    rfl
  · obtain ⟨a, ns, rfl, hS, hlen, k⟩ := h
    have nd := scLaw.nd
    refine ⟨_, PSs.nox (pss_cons (ps_for PassesOwn.never rfl (pi_enum (by rfl) T.enum (pa_cons (pe_slice sl_list (pe_op op_catS (pv 0) (pe_lst (pa_cons pe_int pa_nil))) po_none (po_some pe_int)) pa_nil)) (pg_tup rfl (pgs_cons (pg_name (i := 1) nd rfl (Or.inl rfl)) (pgs_cons (pg_name (i := 2) nd rfl (Or.inl rfl)) pgs_nil)))
        (pss_one (ps_if (pt_not (pt_val (pe_call GR hr rfl gR FR.kp bR .nil pass0 (pa_cons (pe_lst (pa_cons (pe_op op_mul (pv 2) (pe_callTy call_int1 (by rfl) T.int boot_int' (pa_cons (pe_cmpR op_ge (pv 2) (pe_op op_pow pe_int pe_int) (nomark _)) pa_nil)))
            (pa_cons (pe_op op_add (pe_op op_modN (pv 2) pe_int) (pe_op op_mul pe_int (pv 1))) (pa_cons pe_int pa_nil)))) pa_nil)))) (pss_one (ps_ret pe_bl)) pss_nil)))
      (pss_one (ps_ret pe_bl))), ?_⟩
    -- enumerate((script + [0])[:3])
    refine ⟨_, rfl, by show 1 ≤ sizeLine; decide, fun o ho => ?_⟩
    have so := same_new (o := .lst [.int 0]) ho
    refine ⟨a, o, ns.map V.int, [.int 0], rfl, rfl, so.seq hS, SqL.of upd_same, by rw [List.length_map]; exact Nat.le_trans (Nat.add_le_add_right hlen 1) (by decide), fun p hp => ?_⟩
    refine ⟨3, rfl, p, _, rfl, SqL.of upd_same, fun q hq => ?_⟩
    obtain ⟨ms, hms⟩ : ∃ ms : List Int, cutV (ns.map V.int ++ [V.int 0]) none (some 3) = ms.map V.int := by
      refine ⟨((ns ++ [0]).drop 0).take (HT.sIx (ns.map V.int ++ [V.int 0]).length (ns.map V.int ++ [V.int 0]).length (some 3) - HT.sIx (ns.map V.int ++ [V.int 0]).length 0 none), ?_⟩
      unfold cutV
      rw [List.map_take, List.map_drop, List.map_append]
      rfl
    rw [hms]
    have hqq : (upd (upd (upd H o (.lst [.int 0])) p (.lst (ns.map V.int ++ [V.int 0]))) q (.lst (ms.map V.int))) q = some (.lst (ms.map V.int)) := upd_same
    refine ⟨q, _, rfl, SqL.of hqq, for_it (walk_enum (xs := ms.map V.int)) (fun _ σ H' => ∃ z1 z2, σ = [some (.ref a), z1, z2] ∧ H' q = some (.lst (ms.map V.int)))
        ⟨_, _, rfl, hqq⟩ (fun _ _ _ _ ⟨_, _, _, z⟩ => SqL.of z) ?_ ?_⟩
    · rintro j y σ H8 H9 hj ⟨z1, z2, rfl, h8⟩ ⟨tp, x, y', rfl, htp, rfl, ex, ey⟩
      cases ex
      have stp := same_new (o := .tup [.int (j : Int), y']) htp
      obtain ⟨c, rfl⟩ : ∃ c, y' = V.int c := by
        have ey' : (ms.map V.int)[j]? = some y' := ey
        rw [List.getElem?_map] at ey'
        cases hz : ms[j]? with
        | none => rw [hz] at ey'; cases ey'
        | some p => rw [hz] at ey'; exact ⟨p, (Option.some.inj ey').symm⟩
      refine ⟨tp, _, rfl, SqT.of upd_same, rfl, _, _, rfl, _, _, rfl, rfl, ?_⟩
      refine ⟨_, rfl, _, rfl, _, _, rfl, rfl, ⟨by decide, by decide, by decide⟩, _, _, rfl, rfl, .inr ⟨_, rfl, _, _, rfl, rfl, .inr ?_, ?_⟩⟩
      · show -(2 ^ 64) < (if decide _ = true then (1 : Int) else 0) ∧ (if decide _ = true then (1 : Int) else 0) < 2 ^ 64
        split <;> decide
      refine ⟨_, rfl, _, _, rfl, rfl, by show (2147483647 : Int) ≠ 0; decide, _, rfl, _, _, rfl, rfl, .inl ⟨by decide, by decide⟩, _, _, rfl, rfl, ?_⟩
      refine ⟨by show 3 ≤ sizeLine; decide, fun wl hw => ?_⟩
      refine ⟨wl, _, _, _, rfl, upd_same, fun H' hH' => ?_⟩
      refine ⟨true, rfl, ?_⟩
      refine iteF ?_
      refine ⟨_, _, rfl, hH' _ _ ?_ ?_⟩
      · exact same_new hw _ _ (stp _ _ h8)
      · exact ne_of_none (stp _ _ h8) hw
    · rintro σ H8 ⟨z1, z2, rfl, h8⟩
      exact k _
end
end Law
namespace Law
open PySem PySem.Spec PyProof.Rows L2 PySem.EsX He Hk
def d_law_draw : He.DefD := ⟨("_law_draw", none), "_law_draw", "_law_draw", defArgs s_law_draw, defBody s_law_draw, defScope s_law_draw, [], []⟩
def d_law_taken : He.DefD := ⟨("_law_taken", none), "_law_taken", "_law_taken", defArgs s_law_taken, defBody s_law_taken, defScope s_law_taken, [], []⟩
def d_law_by_place : He.DefD := ⟨("_law_by_place", none), "_law_by_place", "_law_by_place", defArgs s_law_by_place, defBody s_law_by_place, defScope s_law_by_place, [], []⟩
def d_law_by_name : He.DefD := ⟨("_law_by_name", none), "_law_by_name", "_law_by_name", defArgs s_law_by_name, defBody s_law_by_name, defScope s_law_by_name, [], []⟩
def d_law_fields : He.DefD := ⟨("_law_fields", none), "_law_fields", "_law_fields", defArgs s_law_fields, defBody s_law_fields, defScope s_law_fields, [], []⟩
def d_law_right : He.DefD := ⟨("_law_right", none), "_law_right", "_law_right", defArgs s_law_right, defBody s_law_right, defScope s_law_right, [], []⟩
def d_law : He.DefD := ⟨("law", none), "law", "law", defArgs s_law, defBody s_law, defScope s_law, [], []⟩
def e_NoBook : Hk.ExD := ⟨"NoBook", "index", "NoBook.__init__", defArgs s_NoBook_init, defBody s_NoBook_init, defScope s_NoBook_init⟩
def e_NoTimetable : Hk.ExD := ⟨"NoTimetable", "index", "NoTimetable.__init__", defArgs s_NoTimetable_init, defBody s_NoTimetable_init, defScope s_NoTimetable_init⟩
def e_NoMove : Hk.ExD := ⟨"NoMove", "index", "NoMove.__init__", defArgs s_NoMove_init, defBody s_NoMove_init, defScope s_NoMove_init⟩
def e_NoSlot : Hk.ExD := ⟨"NoSlot", "slot", "NoSlot.__init__", defArgs s_NoSlot_init, defBody s_NoSlot_init, defScope s_NoSlot_init⟩
def e_NoAppointment : Hk.ExD := ⟨"NoAppointment", "appointment", "NoAppointment.__init__", defArgs s_NoAppointment_init, defBody s_NoAppointment_init, defScope s_NoAppointment_init⟩
def e_Frozen : Hk.ExD := ⟨"Frozen", "slots", "Frozen.__init__", defArgs s_Frozen_init, defBody s_Frozen_init, defScope s_Frozen_init⟩
def e_NoCertificate : Hk.ExD := ⟨"NoCertificate", "index", "NoCertificate.__init__", defArgs s_NoCertificate_init, defBody s_NoCertificate_init, defScope s_NoCertificate_init⟩
def e_TooMany : Hk.ExD := ⟨"TooMany", "most", "TooMany.__init__", defArgs s_TooMany_init, defBody s_TooMany_init, defScope s_TooMany_init⟩
def e_NotAllowed : Hk.ExD := ⟨"NotAllowed", "slot", "NotAllowed.__init__", defArgs s_NotAllowed_init, defBody s_NotAllowed_init, defScope s_NotAllowed_init⟩
def e_NoWish : Hk.ExD := ⟨"NoWish", "key", "NoWish.__init__", defArgs s_NoWish_init, defBody s_NoWish_init, defScope s_NoWish_init⟩
def e_NoCosts : Hk.ExD := ⟨"NoCosts", "index", "NoCosts.__init__", defArgs s_NoCosts_init, defBody s_NoCosts_init, defScope s_NoCosts_init⟩
def fn : List He.DefD := [d_law_draw, d_law_taken, d_law_by_place, d_law_by_name, d_law_fields, d_law_right, d_law]
def exs : List Hk.ExD := [e_NoBook, e_NoTimetable, e_NoMove, e_NoSlot, e_NoAppointment, e_Frozen, e_NoCertificate, e_TooMany, e_NotAllowed, e_NoWish, e_NoCosts]
def fa : List He.Fa := [.glo "_law_draw", .glo "_law_taken", .glo "_law_by_place", .glo "_law_by_name", .glo "_law_fields", .glo "_law_right", .glo "law", .free "len", .free "range", .free "isinstance", .free "int", .free "enumerate", .free "ValueError", .glo "SlotError"]
def loose : List PySem.Str := (["SlotError", "NoBook", "NoTimetable", "NoMove", "NoSlot", "NoAppointment", "Frozen", "NoCertificate", "TooMany", "NotAllowed", "NoWish", "NoCosts", "_law_draw", "_law_taken", "_law_by_place", "_law_by_name", "_law_fields", "_law_right"] : List PySem.Str)
abbrev Prg : Program := PySem.Challenge.pw_reslot_k19_exceptions
abbrev R : PySem.W.OpenRow := PySem.W.OpenLaw.row PySem.Challenge.rw_reslot_k19_exceptions
def xs11 : List Str := ["NoBook", "NoTimetable", "NoMove", "NoSlot", "NoAppointment", "Frozen", "NoCertificate", "TooMany", "NotAllowed", "NoWish", "NoCosts"]
def mo (K : PySem.W.Frag) : Bool := ((List.range 11).all fun i => ((List.range 11).all fun j => eqB (PySem.W.kitOne K (.ref (ga K (xs11.getD i ""))) (.ref (ga K (xs11.getD j "")))) (some (decide (i = j)))) && (eqB (PySem.W.kitOne K (.ref (ga K (xs11.getD i ""))) (.ref (ga K "SlotError"))) (some true) && eqB (PySem.W.kitOne K (.ref (ga K (xs11.getD i ""))) (.type "ValueError")) (some true))) && eqB (PySem.W.kitOne K (.type "ValueError") (.ref (ga K "SlotError"))) (some false)
def lk : Hk.Lk := ⟨Prg, fa, fn, exs, mo⟩
abbrev hk : PySem.W.Hook := Hk.hookR lk 5
def ob (s : PySem.W.SharedT) : Hk.AlR := Hk.obsRG lk 5 (HandSHeadRun.getT s)
theorem ob_eq (s : PySem.W.SharedT) : ob s = hk.obs s.abs := Hk.obsRG_eq (HandSHeadRun.getT_eq s)
set_option maxRecDepth 100000 in
set_option maxHeartbeats 0 in
theorem run (w : World) : HandSHeadRun.RunEq R (PySem.W.view R.prog [20]) hk ob 20000 loose w := by
  intro os
  kernel_rfl
end Law
namespace Law
open PySem PySem.Spec PyProof.Rows L2 PySem.EsX He Hk
theorem cl_at {K : PySem.W.Frag} {i : Nat} {p : Addr × Str} (h : (CL K)[i]? = some p) : i < 11 ∧ p.1 = ga K (xs11.getD i "") := by
  have e : (CL K).map (·.1) = xs11.map (ga K) := rfl
  have l : (CL K).length = 11 := rfl
  have hi : i < 11 := by
    have z := (List.getElem?_eq_some_iff.mp h).1
    rw [l] at z
    exact z
  refine ⟨hi, ?_⟩
  have z : ((CL K).map (·.1))[i]? = some p.1 := by rw [List.getElem?_map, h]; rfl
  rw [e, List.getElem?_map] at z
  rw [List.getD_eq_getElem?_getD]
  cases q : xs11[i]? with
  | none => rw [q] at z; cases z
  | some x =>
    rw [q] at z
    exact (Option.some.inj z).symm
theorem txt_of {K : PySem.W.Frag} {mg : Str → Option Value} {h0 : Heap} (X : K.In h0) (G : h0.Ns mainGlobals mg) (c : SaysR lk K) : Txt Prg K mg := by
  have m := c.mo
  obtain ⟨m1, m2⟩ := ba (show ((List.range 11).all _ && _) = true from m)
  have mm : ∀ i, i < 11 → _ := fun i hi => List.all_eq_true.mp m1 i (List.mem_range.mpr hi)
  refine
  { x0 := c.exok X G 0 (d := e_NoBook) rfl fo_index ⟨_, _, _, ⟨_, _, _, _, _, _, _, _, _, _⟩, rfl, rfl, rfl⟩ rfl
    x1 := c.exok X G 1 (d := e_NoTimetable) rfl fo_index ⟨_, _, _, ⟨_, _, _, _, _, _, _, _, _, _⟩, rfl, rfl, rfl⟩ rfl
    x2 := c.exok X G 2 (d := e_NoMove) rfl fo_index ⟨_, _, _, ⟨_, _, _, _, _, _, _, _, _, _⟩, rfl, rfl, rfl⟩ rfl
    x3 := c.exok X G 3 (d := e_NoSlot) rfl fo_slot ⟨_, _, _, ⟨_, _, _, _, _, _, _, _, _, _⟩, rfl, rfl, rfl⟩ rfl
    x4 := c.exok X G 4 (d := e_NoAppointment) rfl fo_appointment ⟨_, _, _, ⟨_, _, _, _, _, _, _, _, _, _⟩, rfl, rfl, rfl⟩ rfl
    x5 := c.exok X G 5 (d := e_Frozen) rfl fo_slots ⟨_, _, _, ⟨_, _, _, _, _, _, _, _, _, _⟩, rfl, rfl, rfl⟩ rfl
    x6 := c.exok X G 6 (d := e_NoCertificate) rfl fo_index ⟨_, _, _, ⟨_, _, _, _, _, _, _, _, _, _⟩, rfl, rfl, rfl⟩ rfl
    x7 := c.exok X G 7 (d := e_TooMany) rfl fo_most ⟨_, _, _, ⟨_, _, _, _, _, _, _, _, _, _⟩, rfl, rfl, rfl⟩ rfl
    x8 := c.exok X G 8 (d := e_NotAllowed) rfl fo_slot ⟨_, _, _, ⟨_, _, _, _, _, _, _, _, _, _⟩, rfl, rfl, rfl⟩ rfl
    x9 := c.exok X G 9 (d := e_NoWish) rfl fo_key ⟨_, _, _, ⟨_, _, _, _, _, _, _, _, _, _⟩, rfl, rfl, rfl⟩ rfl
    x10 := c.exok X G 10 (d := e_NoCosts) rfl fo_index ⟨_, _, _, ⟨_, _, _, _, _, _, _, _, _, _⟩, rfl, rfl, rfl⟩ rfl
    gS := c.glo X G 13 rfl
    len := c.free X G 7 rfl
    range := c.free X G 8 rfl
    isi := c.free X G 9 rfl
    int := c.free X G 10 rfl
    enum := c.free X G 11 rfl
    ve := c.free X G 12 rfl
    kit := fun i j p q hp hq => ?_
    kitS := fun i p hp => ?_
    kitV := fun i p hp => ?_
    kitB := eqB_ok m2 }
  · obtain ⟨h1, e1⟩ := cl_at hp
    obtain ⟨h2, e2⟩ := cl_at hq
    rw [e1, e2]
    exact eqB_ok (List.all_eq_true.mp (ba (mm i h1)).1 j (List.mem_range.mpr h2))
  · obtain ⟨h1, e1⟩ := cl_at hp
    rw [e1]
    exact eqB_ok (ba (ba (mm i h1)).2).1
  · obtain ⟨h1, e1⟩ := cl_at hp
    rw [e1]
    exact eqB_ok (ba (ba (mm i h1)).2).2
theorem facts {w : World} {K : PySem.W.Frag} {h : Heap} {mg : Str → Option Value} {f : Addr} (X : K.In h) (G : h.Ns mainGlobals mg) (hfa : mg ("law" : Str) = some (.ref f)) (c : SaysR lk K) :
    ∃ fd : FuncData, (∀ (s : Shared) (v : Value), BindsTo s fd ⟨[v], []⟩ [("script", v)]) ∧ ∀ base : Heap, K.In base → base.Ns mainGlobals mg → FnOk Prg w K mg base CX0 4 f fd ["script"] (spLaw K) := by
  have T := txt_of X G c
  obtain ⟨_, F0⟩ := c.d.def_ 0 (d := d_law_draw) rfl
  obtain ⟨_, F1⟩ := c.d.def_ 1 (d := d_law_taken) rfl
  obtain ⟨_, F2⟩ := c.d.def_ 2 (d := d_law_by_place) rfl
  obtain ⟨_, F3⟩ := c.d.def_ 3 (d := d_law_by_name) rfl
  obtain ⟨_, F4⟩ := c.d.def_ 4 (d := d_law_fields) rfl
  obtain ⟨_, F5⟩ := c.d.def_ 5 (d := d_law_right) rfl
  obtain ⟨fd, F6⟩ := c.d.def_ 6 (d := d_law) rfl
  have e := hfa.symm.trans (c.glo X G 6 (x := "law") rfl)
  cases e
  have b := FunD.bindsA (ps := ["script"]) F6 fun _ _ _ _ _ _ us hl => match us, hl with | [_], _ => rfl
  exact ⟨fd, fun s v => b s [v] rfl, fun base _ _ => ok_law F6 T ⟨F0, F2, F3, F4, F1, c.glo X G 0 rfl, c.glo X G 2 rfl, c.glo X G 3 rfl, c.glo X G 4 rfl, c.glo X G 1 rfl⟩ F5 (c.glo X G 5 rfl)⟩
end Law
open PySem PySem.W PySem.Calls PyProof.Rows
theorem PySem.Challenge.cw_reslot_k19_exceptions_holds : PySem.Challenge.rw_reslot_k19_exceptions.Holds := by
  w_on; o_law
  refine HandSHeadRun.head_any (r := OpenLaw.row PySem.Challenge.rw_reslot_k19_exceptions) (q := view (OpenLaw.row PySem.Challenge.rw_reslot_k19_exceptions).prog [20]) (H := Law.hk) (ob := Law.ob) (M := 20000) (loose := Law.loose) (d := HandSHeadRun.topDef (OpenLaw.row PySem.Challenge.rw_reslot_k19_exceptions).prog 20) (kwd := []) Law.ob_eq
    (by kernel_rfl) (fun s => by kernel_rfl) Law.run (by kernel_rfl) (by kernel_rfl) (by kernel_rfl) (by rfl) (by first | assumption | decide +kernel) (by decide +kernel) ⟨rfl, rfl, rfl, rfl, rfl, by decide +kernel⟩ ?hw ?hc
  case hw => w_witness2
  case hc =>
    refine L2.walk_ofE (l := PySem.Challenge.rw_reslot_k19_exceptions) (n := 63) (k := 4) (x := "script") (CX := L2.CX0) rfl (by decide) (by kernel_rfl) ⟨rfl, by decide, by decide⟩ ?F (fun _ _ _ _ z => z)
    intro w mg fa h Y G hmg0
    obtain ⟨K, KX, c⟩ := Y
    have hmg : mg ("law" : PySem.Str) = some (.ref fa) := by
      have e : (HandSHeadRun.topDef (OpenLaw.row PySem.Challenge.rw_reslot_k19_exceptions).prog 20).name = ("law" : PySem.Str) := by kernel_rfl
      rw [← e]
      exact hmg0
    obtain ⟨fd, hb, hF⟩ := Law.facts (w := w) KX G hmg c
    exact ⟨K, fd, Law.spLaw K, KX, hb, fun H a ns hl _ hS => ⟨a, ns, rfl, hS, hl, fun _ => rfl⟩, hF⟩
#print axioms PySem.Challenge.cw_reslot_k19_exceptions_holds
