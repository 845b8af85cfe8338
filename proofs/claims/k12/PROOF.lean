import PyProof.Rows.All
import Wide.All
import OpenK.AllK
import Wide.FinOn
import KE.KExcSuper
import HandS.Base
import HandS.Call
import HandS.Exc
import HandS.ExcSuper
import HandS.ExcInit
import HandS.Words
import HandS.HeadWalk
import HandS.CallRecv
import KE.KExcIs
import HandS.List
import HandS.IsInst
import HandS.WordsExc
import HandS.Defaults
import HandS.ForMost
import HandS.Head0
import HandS.Head1
import HandS.Head2
import HandS.HeadEnd
import HandS.HeadHook1
import HandS.HeadHook2
import HandS.TupAny
import HandS.Conv
import HandS.Strs
import HandS.Dict
import KE.KDictDisplayH
import KE.KDictCopyH
import HandS.CallSlots
import HandS.Walk
import HandS.WideBits
import HandS.Style
import HandS.Deep
import HandS.SortInts
import HandS.SortRule
import HandS.Flow
import KE.GoesEnum
import HandS.Comp
import HandS.ExcOwn
import HandS.TryOnly
import HandS.ExcField
import HandS.DictComp
import HandS.More
import HandS.SetFor
import HandS.SlotsOwn
import PyProof.ListMulAny
import HandS.DeepEq
import HandS.ExcCtx
import HandS.OwnEq
import HandS.Codes
import HandS.DictSubView
import HandS.Sort
import HandS.TryMany
import KE.BitLaws
import HandS.Zip
import KE.GoesMore
import KE.GoesZip
import PyProof.ListNew
import HandS.SetBool
import HandS.Iter
import PyProof.ReprRoads
import PyProof.CallFns
import HandS.RaiseMore
import PySem.Challenge.RW_reslot_k12_tight_sets_checked
set_option Elab.async false
set_option linter.all false
set_option maxRecDepth 100000
set_option maxHeartbeats 4000000
set_option autoImplicit false
/-! own exceptions: class X(S): def __init__(self, f): super().__init__('..'); self.f = f -/
namespace PySem
namespace EsX
open PySem.W PySem.Calls PyProof.Rows PySem.HandSPX
/-! ### the text of such an __init__ -/
def iA (F : Str) (p1 p2 : Pos) : Arguments := { posonlyargs := [], args := [{ arg := "self", annotation := none, pos := p1 }, { arg := F, annotation := none, pos := p2 }], vararg := none, kwonlyargs := [], kw_defaults := [], kwarg := none, defaults := [] }
structure Ps where
  p0 : Pos
  p1 : Pos
  p2 : Pos
  p3 : Pos
  p4 : Pos
  p5 : Pos
  p6 : Pos
  p7 : Pos
  p8 : Pos
  p9 : Pos
def iB (F msg : Str) (q : Ps) : List Stmt :=
  [.Expr (.Call (.Attribute (.Call (.Name "super" q.p0) [] [] q.p1) "__init__" q.p2) [.Constant (.str msg) 0 q.p3] [] q.p4) q.p5,
   .Assign [.Attribute (.Name "self" q.p6) F q.p7] (.Name F q.p8) q.p9]
def iS (F : Str) : Scope := { kind := .function, names := [(PySem.Str.ofString "self", .local), (F, .local), (PySem.Str.ofString "__class__", .free), (PySem.Str.ofString "super", .globalImplicit)], isGenerator := false, isCoroutine := false, more := [] }
/-- what the written part says of the class X at C, its __init__ at fI, its cell at cc -/
structure ExTxt (P : Program) (K : Frag) (X F : Str) (C : Addr) : Prop where
  cls : ∃ nm q N bs bm sn sub ab col dd k0 k1 k2 k3 k5, K.lookup C = some (excClassObj nm q C N bs bm true sn sub ab col dd k0 k1 k2 k3 k5 "ValueError.__new__") ∧ refsVE bm = true ∧ alongIn K "__init__" bm = some (some (.builtin "ValueError.__init__"))
  sa : findIn K (.ref C) "__setattr__" = some (some (.builtin "object.__setattr__"))
  ga : findIn K (.ref C) "__getattribute__" = some (some (.builtin "BaseException.__getattribute__"))
  gg : findIn K (.ref C) "__getattr__" = some none
  noN : findIn K (.ref C) F = some none
  kC : keepIn K (.ref C) = true
  exC : subIn K (.ref C) (.type "BaseException") = some true
  veC : subIn K (.ref C) (.type "ValueError") = some true
  tyC : typeIn K (.ref C) = some (.type "type")
  hdC : hasDictIn K C = true
  opq : nsIn K cStatics "thirdparty.any" = some none
  noS : nsIn K mainGlobals "super" = some none
  top : (P.main.scope.names.lookup ("super" : Str)).isSome = false
  fn : ∃ (fI : Addr) (qual msg : Str) (oc : Value) (od : Option Addr) (doc pm : Value) (an : Option Addr) (cda : Addr) (ct : Value) (osl : Array (Option Value)) (p1 p2 : Pos) (ps : Ps) (cc : Addr) (ccl : Value) (ccd : Option Addr) (ccs : Array (Option Value)) (vs : Array Value) (kcl : Value) (kcd : Option Addr) (kcs : Array (Option Value)) (tf : Tok),
    findIn K (.ref C) "__init__" = some (some (.ref fI)) ∧ typeIn K (.ref fI) = some (.type "function") ∧
    K.lookup fI = some ⟨oc, od, .func (ksFn "__init__" qual (iA F p1 p2) (iB F msg ps) (iS F) .none .none doc pm an (.ref cda) ct cc), osl⟩ ∧ codeIn K (.ref cda) qual = true ∧
    K.lookup cc = some ⟨ccl, ccd, .cell (some (.ref C)), ccs⟩ ∧ K.lookup cda = some ⟨kcl, kcd, .fields vs, kcs⟩ ∧ vs[2]? = some (.str P.main.file tf) ∧ (ps.p2.endLine == ps.p4.line) = true
  bnd : ∀ (qual : Str) (p1 p2 : Pos) (body : List Stmt) (doc pm : Value) (an : Option Addr) (cdv ct : Value) (cc : Addr) (u v : Value), bindArgs (ksFn "__init__" qual (iA F p1 p2) body (iS F) .none .none doc pm an cdv ct cc) ⟨[u, v], []⟩ = pure [(("self" : Str), u), (F, v)]
  bndK : ∀ (qual : Str) (p1 p2 : Pos) (body : List Stmt) (doc pm : Value) (an : Option Addr) (cdv ct : Value) (cc : Addr) (u v : Value), bindArgs (ksFn "__init__" qual (iA F p1 p2) body (iS F) .none .none doc pm an cdv ct cc) ⟨[u], [(F, v)]⟩ = pure [(("self" : Str), u), (F, v)]
  fne : (F == ("self" : Str)) = false ∧ (F == ("__class__" : Str)) = false ∧ (F == ("super" : Str)) = false ∧ (F == ("__debug__" : Str)) = false ∧ (("self" : Str) == F) = false ∧ (("__class__" : Str) == F) = false ∧ (("super" : Str) == F) = false
section
variable {prog : Program} {w : World} {A : Around} {E : Value → Shared → Prop} {h : Heap} {g : Array GenState} {d : Drawn} {t : Nat} {os : OsState}
variable {nm q : Str} {C N : Addr} {bs bm : List Value} {hdct : Bool} {sn : List Str} {sub : List Value} {ab : Bool} {col : Option Bool} {dd : Option Addr} {k0 k1 k2 k3 k5 : Option Value}
/-- super().__init__'s wrapper, called -/
theorem call_mw {u e t0 : Addr} {rest : List Value} {Q : Value → Shared → Prop}
    (hC : h.get? C = some (excClassObj nm q C N bs bm hdct sn sub ab col dd k0 k1 k2 k3 k5 "ValueError.__new__")) (he : h.get? e = some (HandSPX.excO C t0)) (hu : h.get? u = some (kxs_mw "ValueError.__init__" e)) (hrest : rest.length ≤ sizeLine)
    (hq : ∀ h' t1, (∀ b o, b ≠ e → h.get? b = some o → h'.get? b = some o) → h'.get? e = some (HandSPX.excO C t1) → Q .none ⟨h', g, d, t, os⟩) :
    wpAny (model prog w) A (call (.ref u) rest) Q E ⟨h, g, d, t, os⟩ := by
  refine wpAny_call (codeAny_of_tree ?_)
  show wpAny _ A.in1 (callAny (.ref u) ⟨rest, []⟩) _ _ _
  simp only [callAny]
  refine wpAny_bind (wpAny_load hu ?_)
  simp only [kxs_mw, show (Value.type "method-wrapper" == Value.type "method" || Value.type "method-wrapper" == Value.type "builtin_function_or_method" || Value.type "method-wrapper" == Value.type "method-wrapper") = true by decide, if_true]
  refine KFB.if_so (by decide) ?_
  refine wpAny_bind (ESX.check_bound F.excBase_ValueError hC he rfl ?_)
  refine wpAny_bind (wpAny_pure (wpAny_pure ?_))
  refine ⟨Code.quiet_builtin _ (by decide +kernel), codeAny_builtin F.excBase_ValueError.initEntry ?_⟩
  rw [Around.under_plainId F.excBase_ValueError.init.plain _]
  wp_walk
  refine hq _ h.objs.size (fun b o hb ho => ?_) ?_
  · rw [Heap.get?_update_other _ _ (Ne.symm hb)]
    exact Heap.get?_push_of_some _ ho
  · rw [Heap.get?_update_self _ (Heap.get?_push_of_some _ he) rfl]
    rfl
end
end EsX
end PySem
namespace PySem
namespace EsX
open PySem.W PySem.Calls PyProof.Rows PySem.HandSPX
/-- what __init__ leaves of a fresh exception at x -/
structure InitEnd (h h' : Heap) (x C dx t1 : Addr) (F : Str) (v : Value) : Prop where
  keep : ∀ b o, b ≠ x → h.get? b = some o → h'.get? b = some o
  obj : h'.get? x = some { cls := .ref C, dict := some dx, data := .fields #[.ref t1, .none, .none, .none, .bool false, .none] }
  dbig : h.objs.size ≤ dx
  dne : dx ≠ x
  ns : h'.Ns1 dx (fun y => if y = F then some v else none)
theorem lk_self (F : Str) (x v : Value) (hF : (("self" : Str) == F) = false) : ((([("self", x), (F, v)] : List (Str × Value)).reverse).lookup ("self" : Str)) = some x := by
  show (match ("self" : Str) == F with | true => some v | false => (match ("self" : Str) == ("self" : Str) with | true => some x | false => none)) = some x
  rw [hF]
  rfl
theorem lk_f (F : Str) (x v : Value) : ((([("self", x), (F, v)] : List (Str × Value)).reverse).lookup F) = some v := by
  show (match F == F with | true => some v | false => _) = some v
  rw [show (F == F) = true from beq_self_eq_true F]
theorem sc_self (F : Str) : (iS F).names.lookup ("self" : Str) = some .local := rfl
theorem sc_f {F : Str} (h : (F == ("self" : Str)) = false) : (iS F).names.lookup F = some .local := by
  show (match F == ("self" : Str) with | true => some NameKind.local | false => (match F == F with | true => some NameKind.local | false => _)) = some NameKind.local
  rw [h, show (F == F) = true from beq_self_eq_true F]
theorem sc_cls {F : Str} (h : (("__class__" : Str) == F) = false) : (iS F).names.lookup ("__class__" : Str) = some .free := by
  show (match ("__class__" : Str) == ("self" : Str) with | true => some NameKind.local | false => (match ("__class__" : Str) == F with | true => some NameKind.local | false => some NameKind.free)) = some NameKind.free
  rw [h]
  rfl
theorem sc_super {F : Str} (h : (("super" : Str) == F) = false) : (iS F).names.lookup ("super" : Str) = some .globalImplicit := by
  show (match ("super" : Str) == ("self" : Str) with | true => some NameKind.local | false => (match ("super" : Str) == F with | true => some NameKind.local | false => some NameKind.globalImplicit)) = some NameKind.globalImplicit
  rw [h]
  rfl
theorem mro_drop {C : Addr} (bm : List Value) : ((Value.ref C :: bm).dropWhile (· != .ref C)).drop 1 = bm := by
  simp [List.dropWhile_cons]
section
variable {prog : Program} {w : World} {A : Around} {E : Value → Shared → Prop} {R : Result → Shared → Prop} {s : Shared} {K : Frag} {mg mb : Str → Option Value} {X F : Str} {C : Addr}
theorem clsIn_of {nm q : Str} {N : Addr} {bs bm : List Value} {sn : List Str} {sub : List Value} {ab : Bool} {col : Option Bool} {dd : Option Addr} {k0 k1 k2 k3 k5 : Option Value}
    (hC : K.lookup C = some (excClassObj nm q C N bs bm true sn sub ab col dd k0 k1 k2 k3 k5 "ValueError.__new__")) :
    clsIn K C = some { name := nm, bases := bs, mro := .ref C :: bm, ns := N, qualname := q, hasDict := true, slotNames := sn, subclasses := sub, abstract := ab, collection := col, hasDel := false } := by
  unfold clsIn; rw [hC] <;> rfl
theorem es_init (T : ExTxt prog K X F C) {fI : Addr} {qual msg : Str} {oc : Value} {od : Option Addr} {doc pm : Value} {an : Option Addr} {cda : Addr} {ct : Value} {osl : Array (Option Value)} {p1 p2 : Pos} {ps : Ps} {cc : Addr} {ccl : Value} {ccd : Option Addr} {ccs : Array (Option Value)} {vs : Array Value} {kcl : Value} {kcd : Option Addr} {kcs : Array (Option Value)} {tf : Tok}
    (lf : K.lookup fI = some ⟨oc, od, .func (ksFn "__init__" qual (iA F p1 p2) (iB F msg ps) (iS F) .none .none doc pm an (.ref cda) ct cc), osl⟩) (hcd : codeIn K (.ref cda) qual = true)
    (lc : K.lookup cc = some ⟨ccl, ccd, .cell (some (.ref C)), ccs⟩) (lk : K.lookup cda = some ⟨kcl, kcd, .fields vs, kcs⟩) (hv2 : vs[2]? = some (.str prog.main.file tf))
    {x t0 : Addr} {v : Value} {a : Args} (hbd : ∀ (qual : Str) (p1 p2 : Pos) (body : List Stmt) (doc pm : Value) (an : Option Addr) (cdv ct : Value) (cc : Addr), bindArgs (ksFn "__init__" qual (iA F p1 p2) body (iS F) .none .none doc pm an cdv ct cc) a = pure [(("self" : Str), .ref x), (F, v)]) (hps : (ps.p2.endLine == ps.p4.line) = true) (KX : K.In s.heap) (G : s.heap.Ns mainGlobals mg) (B : s.heap.Ns builtinsNs mb) (hmb : mb "super" = some (.type "super")) (hlim : s.heap.NoLimit) (hx : s.heap.get? x = some (excO C t0)) (hnx : K.lookup x = none) (hroom : A.depth < recursionLimit)
    (hq : ∀ h' tk dx t1, InitEnd s.heap h' x C dx t1 F v → R (.ok (.ret .none)) { s with heap := h', toks := tk }) :
    codeAny (model prog w) A (.call (.ref fI) a) R s := by
  obtain ⟨nm, q, N, bs, bm, sn, sub, ab, col, dd, k0, k1, k2, k3, k5, hC, hbm, hal⟩ := T.cls
  obtain ⟨n1, n2, n3, n4, n5, n6, n7⟩ := T.fne
  have hcl := clsIn_of hC
  have ls := sc_self F
  have lF := sc_f n1
  have lcl := sc_cls n6
  have lsu := sc_super n7
  refine ks_codeAny_call_defAt (fd := ksFn "__init__" qual (iA F p1 p2) (iB F msg ps) (iS F) .none .none doc pm an (.ref cda) ct cc) (body := iB F msg ps) (binds := [("self", .ref x), (F, v)]) hroom (KX _ _ lf) rfl hlim (codeRec_of KX hcd) rfl ?hb ?hce ?hlo (fun h₁ hns hk₁ => ?_)
  case hb =>
    exact BindsTo.of_eq (hbd _ _ _ _ _ _ _ _ _ _)
  case hce =>
    intro y hy
    have hy' : y ∈ [(PySem.Str.ofString "self", NameKind.local), (F, NameKind.local), (PySem.Str.ofString "__class__", NameKind.free), (PySem.Str.ofString "super", NameKind.globalImplicit)] := hy
    simp only [List.mem_cons, List.not_mem_nil, or_false] at hy'
    rcases hy' with rfl | rfl | rfl | rfl <;> exact fun z => by cases z
  case hlo =>
    intro y hy
    simp only [List.mem_cons, List.not_mem_nil, or_false] at hy
    rcases hy with rfl | rfl
    · exact ls
    · exact lF
  have X₁ : K.In h₁ := KX.keeps hk₁
  have hx₁ := hk₁ _ _ hx
  have hD₁ := X₁ _ _ hC
  have hsx : s.heap.objs.size ≠ x := Nat.ne_of_gt (Heap.lt_size hx)
  obtain ⟨hp, g, dr, tk, os⟩ := s
  show wpAt _ _ _ (execs (iB F msg ps) (ksEnv qual (iS F) hp.objs.size fI (.ref cda) cc)) _ _ _
  unfold iB
  refine ks_wpAt_execs_cons (ks_wpAt_Expr_any (ks_wpAt_MethodCall (pl := ?pl) ?_ ?he) ?hi ?hs)
  case hi => rfl
  case hs => rfl
  case pl => exact L2.plainOf (.Call (.Name "super" ps.p0) [] [] ps.p1) (ksEnv qual (iS F) hp.objs.size fI (.ref cda) cc)
  case he =>
    rw [arm_eval_Call]
    refine congrArg _ (funext fun ov => congrArg _ (funext fun _ => ?_))
    exact L2.mcall_line (by rfl) hps
  refine ks_wpAt_super_base (env := ksEnv qual (iS F) hp.objs.size fI (.ref cda) cc) lsu lcl (attr := "__init__") (by decide) rfl (X₁ _ _ lf) rfl rfl rfl (X₁ _ _ lk) rfl hv2 (by simp) T.top ?_
  have G₁ : h₁.Ns mainGlobals mg := G.keeps hk₁
  have B₁ : h₁.Ns builtinsNs mb := B.keeps hk₁
  have sup : mg "super" = none := mg_none_of KX G T.noS
  refine ks_loadName_global rfl lsu (loadGlobal_builtin (env := ksEnv qual (iS F) hp.objs.size fI (.ref cda) cc) G₁ sup B₁ hmb ⟨rfl, ?_⟩)
  refine wpAny_loadName_free rfl lcl rfl ⟨_, X₁ _ _ lc, rfl⟩ ?_
  refine wpAny_loadName_local rfl ls hns (lk_self F _ _ n5) ?_
  refine ks_wpAny_isType_cls hD₁ rfl ⟨rfl, ?_⟩
  have msub : mroIn K C (.ref C) = some true := by
    unfold mroIn
    rw [hcl]
    simp
  refine ks_wpAny_call_super hD₁ rfl hx₁ rfl (fun c e => by cases e) (looks_mroIn X₁ msub) (fun h₂ e₂ kp₂ => ?_)
  have X₂ : K.In h₂ := X₁.keeps kp₂
  have hx₂ := kp₂ _ _ hx₁
  have I₂ : PySem.W.InstAt h₂ x (excO C t0) C none := ⟨hx₂, rfl, rfl, trivial⟩
  have hxC : x ≠ C := ks_ne X₂ I₂ hcl
  have hI₂ : Looks (model prog w) h₂ (isInstance (.ref x) (.type "ValueError")) true := I₂.type.andThen (looks_subIn X₂ T.veC)
  refine kxs_getMethod kxs_ValueError e₂ (looks_opaque X₂ T.opq) (l₀ := .ref C :: bm) ?_ (mro_drop bm) X₂ hal hI₂ hxC (by decide) ?_
  · exact ((looks_clsIn X₂ hcl).andThen .now)
  have hu₃ : (h₂.push (kxs_mw "ValueError.__init__" x)).get? h₂.objs.size = some (kxs_mw "ValueError.__init__" x) := Heap.get?_push_at rfl rfl
  refine kxs_callWith (i := "ValueError.__init__") (x := x) rfl (evalArgs_plain ?_)
  show wpAny _ _ (spliced ((false, eval (.Constant (.str msg) 0 ps.p3) (ksEnv qual (iS F) hp.objs.size fI (.ref cda) cc)) :: backTo ps.p4 (starEach [] (ksEnv qual (iS F) hp.objs.size fI (.ref cda) cc)))) _ _ _
  refine Calls.spliced_cons (wpAny_Constant_str (Calls.spliced_nil ⟨hu₃, ?_⟩))
  have X₃ : K.In (h₂.push (kxs_mw "ValueError.__init__" x)) := X₂.keeps fun b o e => Heap.get?_push_of_some _ e
  have hx₃ : (h₂.push (kxs_mw "ValueError.__init__" x)).get? x = some (excO C t0) := Heap.get?_push_of_some _ hx₂
  refine call_mw (X₃ _ _ hC) hx₃ hu₃ (by show 1 ≤ sizeLine; rw [sizeLine_eq]; omega) (fun h₄ t1 kp₄ hx₄ => ?_)
  refine wpAt_of_wpAny ?_
  have kp14 : ∀ b o, b ≠ x → h₁.get? b = some o → h₄.get? b = some o := fun b o hb e => kp₄ b o hb (Heap.get?_push_of_some _ (kp₂ b o e))
  have X₄ : K.In h₄ := fun b o e => kp14 b o (fun z => by rw [z, hnx] at e; cases e) (X₁ b o e)
  have hns₄ : h₄.Ns hp.objs.size (fun y => ([(("self" : Str), Value.ref x), (F, v)] : List (Str × Value)).reverse.lookup y) := by
    obtain ⟨o, es, ep, ho, hr⟩ := hns
    exact ⟨o, es, ep, kp14 _ _ hsx ho, hr⟩
  refine wpAny_execs_cons (plainObj_wpAny_Assign_Attribute ?_ ?hs2)
  case hs2 => rfl
  refine wpAny_Name (wpAny_loadName_local rfl lF hns₄ (lk_f F _ _) ?_) n4
  refine wpAny_Name (wpAny_loadName_local rfl ls hns₄ (lk_self F _ _ n5) ?_) (by decide)
  refine set_plain X₄ (ox := excO C t1) (od := none) ⟨hx₄, rfl, rfl, trivial⟩ T.sa ?_
  refine exc_osa X₄ hx₄ hcl (show refsVE (.ref C :: bm) = true from hbm) rfl T.noN (fun h₅ tk₅ dx k₅ dn dne hx₅ hn₅ => ?_)
  have kb : ∀ b o, b ≠ x → hp.get? b = some o → h₄.get? b = some o := fun b o hb e => kp14 b o hb (hk₁ b o e)
  have zz : hp.objs.size < h₄.objs.size := hns₄.lt
  exact wpAny_execs_nil (hq h₅ tk₅ dx t1 ⟨fun b o hb e => k₅ b o hb (kb b o hb e), hx₅, Nat.le_of_lt (Nat.lt_of_lt_of_le zz dn), dne, hn₅⟩)
end
end EsX
end PySem
namespace PySem
namespace EsX
open PySem.W PySem.Calls PyProof.Rows PySem.HandSPX
section
variable {M : Model} {A : Around} {E : Value → Shared → Prop} {h : Heap} {g : Array GenState} {d : Drawn} {t : Nat} {os : OsState}
variable {nm q : Str} {C N : Addr} {bs bm bmB : List Value} {hdct : Bool} {sn : List Str} {sub : List Value} {ab : Bool} {col : Option Bool} {dd : Option Addr} {k0 k1 k2 k3 k5 : Option Value} {B newId initId : String}
theorem check_new_kw (F : ExcBaseFacts B newId initId bmB) (hT : ∀ X : String, bm.contains (.type X) = bmB.contains (.type X)) {f : Str} {v : Value} {Q : Unit → Shared → Prop}
    (hC : h.get? C = some (excClassObj nm q C N bs bm hdct sn sub ab col dd k0 k1 k2 k3 k5 newId)) (hq : Q () ⟨h, g, d, t, os⟩) : wpAny M A (checkBuiltinCall newId ⟨[.ref C], [(f, v)]⟩) Q E ⟨h, g, d, t, os⟩ := by
  have hcont : (Value.ref C :: bm).contains (.type B) = true := by rw [List.contains_cons, hT, F.hasB, Bool.or_true]
  have hstar := F.noStar
  simp only [checkBuiltinCall, F.newKind, F.newSplit, F.newRow]
  repeat (first | refine wpAny_loadPart_at hC ?_ | (refine wpAny_isSubtype_exc hC ?_; rw [hcont]) | refine wpAny_staticBase_exc hC ?_ | refine wpAny_madeBy_exc hC ?_ | simp only [bne_self_eq_false, Bool.false_eq_true, if_false] | wp_step)
  exact hq
end
section
variable {prog : Program} {w : World} {A : Around} {E : Value → Shared → Prop} {R : Result → Shared → Prop} {h : Heap} {g : Array GenState} {d : Drawn} {t : Nat} {os : OsState}
variable {nm q : Str} {C N : Addr} {bs bm bmB : List Value} {hdct : Bool} {sn : List Str} {sub : List Value} {ab : Bool} {col : Option Bool} {dd : Option Addr} {k0 k1 k2 k3 k5 : Option Value} {B newId initId : String} {f : Str} {v : Value}
theorem new_kw (F : ExcBaseFacts B newId initId bmB) (hT : ∀ X : String, bm.contains (.type X) = bmB.contains (.type X))
    (hC : h.get? C = some (excClassObj nm q C N bs bm hdct sn sub ab col dd k0 k1 k2 k3 k5 newId))
    (hq : R (.ok (.ret (.ref (h.objs.size + 1)))) ⟨(h.push { cls := .type "tuple", data := .seq #[] }).push
      { cls := .ref C, data := .fields #[.ref h.objs.size, .none, .none, .none, .bool false, .none] }, g, d, t, os⟩) :
    codeAny (model prog w) A (.builtin newId ⟨[.ref C], [(f, v)]⟩) R ⟨h, g, d, t, os⟩ := by
  have hends := F.ends
  have hcB : (Value.ref C :: bm).contains (.type B) = true := by rw [List.contains_cons, hT, F.hasB, Bool.or_true]
  have hcA : (Value.ref C :: bm).contains (.type "AttributeError") = false := by rw [List.contains_cons, hT, F.noAttr]; rfl
  have hcN : (Value.ref C :: bm).contains (.type "NameError") = false := by rw [List.contains_cons, hT, F.noName]; rfl
  refine codeAny_builtinAt F.entry ?_
  unfold Builtin.«BaseException.__new__»
  refine wpAt_bind ?_
  show wpAt _ _ _ (stack >>= _) _ _ _
  refine wpAt_bind (wpAt_stack fun p below => wpAt_of_wpAny ?_)
  wp_walk
  refine wpAt_of_wpAny ?_
  rw [F.owner]
  repeat (first | with_reducible refine wpAny_madeHere_exc F.canon hC ?_ | with_reducible refine wpAny_loadPart_at hC ?_ | (with_reducible refine wpAny_isSubtype_exc hC ?_; first | rw [hcB] | rw [hcA] | rw [hcN]) | wp_step)
  show R _ _
  rw [Heap.size_push]
  exact hq
theorem type_call_kw (F : ExcBaseFacts B newId initId bmB) (hT : ∀ X : String, bm.contains (.type X) = bmB.contains (.type X)) {fI : Addr} {Q : Fin → Shared → Prop}
    (hC : h.get? C = some (excClassObj nm q C N bs bm hdct sn sub ab col dd k0 k1 k2 k3 k5 newId))
    (hi : W.Looks (model prog w) h (typeLookup (.ref C) "__init__") (some (.ref fI))) (hb : ∀ self, W.Looks (model prog w) h (bindSpecial (.ref fI) self) (.ref fI, [self]))
    (hq : codeAny (model prog w) A (.call (.ref fI) ⟨[.ref (h.objs.size + 1)], [(f, v)]⟩)
      (fun r s' => match r with | .ok (.ret v) => v = .none ∧ Q (.done (.ret (.ref (h.objs.size + 1)))) s' | .ok _ => False | .error e => E e s')
      ⟨(h.push (W.kdv_tup [])).push (excO C h.objs.size), g, d, t, os⟩) :
    wpAny (model prog w) A (Builtin.«type.__call__» ⟨[.ref C], [(f, v)]⟩) Q E ⟨h, g, d, t, os⟩ := by
  repeat (first | with_reducible refine wpAny_loadPart_at hC ?_ | with_reducible refine wpAny_madeBy_exc hC ?_ | wp_step)
  refine codeAny_call_builtin_code (Code.quiet_builtin _ F.quiet) (check_new_kw F hT hC ?_)
  refine new_kw F hT hC ?_
  show wpAny _ _ _ _ _ _
  have k : ∀ b o, h.get? b = some o → ((h.push (W.kdv_tup [])).push (excO C h.objs.size)).get? b = some o := fun b o e => Heap.get?_push_of_some _ (Heap.get?_push_of_some _ e)
  have hC₁ := k _ _ hC
  have hget : ((h.push (W.kdv_tup [])).push (excO C h.objs.size)).get? (h.objs.size + 1) = some (excO C h.objs.size) := by heap_get
  have hcC : (Value.ref C :: bm).contains (.ref C) = true := by simp
  have i1 := hi.keeps k
  have b1 := (hb (.ref (h.objs.size + 1))).keeps k
  unfold isInstance
  repeat (first | with_reducible refine wpAny_loadPart_at hget ?_ | (with_reducible refine wpAny_isSubtype_exc hC₁ ?_; rw [hcC]) | wp_step)
  show wpAny _ _ (typeLookup (.ref C) _) _ _ _
  refine i1.at ?_
  refine wpAny_holding (wpAny_bind (b1.at ?_))
  refine wpAny_bind (wpAny_call (codeAny_mono hq fun r s' z => ?_))
  rcases r with e | (v | _ | _ | _) <;> first | exact z | exact z.elim | skip
  obtain ⟨rfl, z⟩ := z
  first
    | exact wpAny_pure (wpAny_pure z)
    | (wp_walk; exact z)
theorem call_kw (F : ExcBaseFacts B newId initId bmB) (hT : ∀ X : String, bm.contains (.type X) = bmB.contains (.type X)) {fI : Addr}
    (hC : h.get? C = some (excClassObj nm q C N bs bm hdct sn sub ab col dd k0 k1 k2 k3 k5 newId))
    (hi : W.Looks (model prog w) h (typeLookup (.ref C) "__init__") (some (.ref fI))) (hb : ∀ self, W.Looks (model prog w) h (bindSpecial (.ref fI) self) (.ref fI, [self]))
    (hq : codeAny (model prog w) (A.under (.builtin "type.__call__" ⟨[.ref C], [(f, v)]⟩)) (.call (.ref fI) ⟨[.ref (h.objs.size + 1)], [(f, v)]⟩) (W.InitBack (h.objs.size + 1) R)
      ⟨(h.push (W.kdv_tup [])).push (excO C h.objs.size), g, d, t, os⟩) :
    codeAny (model prog w) A (.call (.ref C) ⟨[], [(f, v)]⟩) R ⟨h, g, d, t, os⟩ := by
  have f1 := tc_lookup
  have f2 := tc_bind (.ref C)
  have hTy : (⟨h, g, d, t, os⟩ : Shared).TypeIs (.ref C) "type" := ⟨_, hC, rfl⟩
  refine codeAny_of_tree ?_
  show wpAny _ _ (callAny (.ref C) _) _ _ _
  repeat (any_goals (first | assumption | with_reducible refine wpAny_loadPart_at hC ?_ | wp_step))
  refine ⟨rfl, ?_⟩
  refine codeAny_call_builtin_at (Code.quiet_builtin _ (by decide +kernel)) entry_typeCall (wpAny_check_type_call_sub hC (type_call_kw F hT hC hi hb ?_))
  refine codeAny_mono hq fun r s' z => ?_
  rcases r with e | (v | _ | _ | _) <;> exact z
/-- a made exception: at e, of the class at C, its own dict at d holds F = v -/
structure Made (h h' : Heap) (e C d : Addr) (F : Str) (v : Value) : Prop where
  keep : ∀ b o, h.get? b = some o → h'.get? b = some o
  new : h.objs.size ≤ e
  obj : ∃ t1 : Addr, h'.get? e = some ({ cls := .ref C, dict := some d, data := .fields #[.ref t1, .none, .none, .none, .bool false, .none] } : Obj)
  dbig : h.objs.size ≤ d
  dne : d ≠ e
  ns : h'.Ns1 d (fun y => if y = F then some v else none)
theorem es_made {X F : Str} {K : Frag} {mg mb : Str → Option Value} (T : ExTxt prog K X F C) {u : Value} (KX : K.In h) (G : h.Ns mainGlobals mg) (B : h.Ns builtinsNs mb) (hmb : mb "super" = some (.type "super")) (hlim : h.NoLimit) (hroom : A.depth + 1 < recursionLimit)
    {a : Args} (ha : a = ⟨[u], []⟩ ∨ a = ⟨[], [(F, u)]⟩)
    (hq : ∀ h' tk e dx, Made h h' e C dx F u → R (.ok (.ret (.ref e))) ⟨h', g, d, tk, os⟩) :
    codeAny (model prog w) A (.call (.ref C) a) R ⟨h, g, d, t, os⟩ := by
  obtain ⟨nm, q, N, bs, bm, sn, sub, ab, col, dd, k0, k1, k2, k3, k5, hC, hbm, hal⟩ := T.cls
  obtain ⟨fI, qual, msg, oc, od, doc, pm, an, cda, ct, osl, p1, p2, ps, cc, ccl, ccd, ccs, vs, kcl, kcd, kcs, tf, iC, tC, lf, hcd, lc, lk, hv2, hps⟩ := T.fn
  have main : ∀ (r : List Value) (kw : List (Str × Value)) (A' : Around), A'.depth < recursionLimit → (∀ (qual : Str) (p1 p2 : Pos) (body : List Stmt) (doc pm : Value) (an : Option Addr) (cdv ct : Value) (cc : Addr), bindArgs (ksFn "__init__" qual (iA F p1 p2) body (iS F) .none .none doc pm an cdv ct cc) ⟨.ref (h.objs.size + 1) :: r, kw⟩ = pure [(("self" : Str), .ref (h.objs.size + 1)), (F, u)]) →
      codeAny (model prog w) A' (.call (.ref fI) ⟨.ref (h.objs.size + 1) :: r, kw⟩) (W.InitBack (h.objs.size + 1) R) ⟨(h.push (W.kdv_tup r)).push (excO C h.objs.size), g, d, t, os⟩ := by
    intro r kw A' hA hbd
    have k : ∀ b o, h.get? b = some o → ((h.push (kdv_tup r)).push (excO C h.objs.size)).get? b = some o := fun b o e => Heap.get?_push_of_some _ (Heap.get?_push_of_some _ e)
    have hget : ((h.push (kdv_tup r)).push (excO C h.objs.size)).get? (h.objs.size + 1) = some (excO C h.objs.size) := by heap_get
    have hnx : K.lookup (h.objs.size + 1) = none := by
      cases e : K.lookup (h.objs.size + 1) with
      | none => rfl
      | some o =>
        have z : h.get? (h.objs.size + 1) = some o := KX _ _ e
        exact absurd (Nat.lt_of_succ_lt (Heap.lt_size z)) (Nat.lt_irrefl _)
    refine es_init (s := ⟨(h.push (kdv_tup r)).push (excO C h.objs.size), g, d, t, os⟩) T lf hcd lc lk hv2 hbd hps (KX.keeps k) (G.keeps k) (B.keeps k) hmb (hlim.keeps k) hget hnx hA fun h' tk' dx t1 ⟨k', hx, dn, dne, hns⟩ => ?_
    have old : ∀ b o, h.get? b = some o → h'.get? b = some o := fun b o e => k' b o (Nat.ne_of_lt (Nat.lt_succ_of_lt (Heap.lt_size e))) (k b o e)
    have z : h.objs.size + 1 + 1 ≤ dx := by
      first
        | (simpa only [Heap.size_push] using dn)
        | exact dn
        | (have q := dn; rw [Heap.size_push, Heap.size_push] at q; exact q)
    exact ⟨rfl, hq h' tk' (h.objs.size + 1) dx ⟨old, Nat.le_succ _, ⟨_, hx⟩, Nat.le_trans (Nat.le_trans (Nat.le_succ _) (Nat.le_succ _)) z, dne, hns⟩⟩
  rcases ha with rfl | rfl
  · exact call_own PySem.F.excBase_ValueError (fun X => refsVE_contains X bm hbm) (KX _ _ hC) (looks_findIn KX iC) (fun self => bind_fn KX self tC) (by show 1 ≤ sizeLine; rw [sizeLine_eq]; omega) (main [u] [] _ hroom (fun _ _ _ _ _ _ _ _ _ _ => T.bnd _ _ _ _ _ _ _ _ _ _ _ _))
  · exact call_kw PySem.F.excBase_ValueError (fun X => refsVE_contains X bm hbm) (KX _ _ hC) (looks_findIn KX iC) (fun self => bind_fn KX self tC) (main [] [(F, u)] _ hroom (fun _ _ _ _ _ _ _ _ _ _ => T.bndK _ _ _ _ _ _ _ _ _ _ _ _))
end
end EsX
end PySem
namespace L2
open PySem PySem.Spec PyProof.Rows PySem.EsX
theorem relO_one {F : Str} {v : V} {v' : Value} (r : RelV v v') (f : Str) : RelO (List.lookup f [(F, v)]) (if f = F then some v' else none) := by
  by_cases hw : f = F
  · subst hw
    rw [if_pos rfl]
    have q : List.lookup f [(f, v)] = some v := by simp [List.lookup]
    rw [q]
    exact r
  · rw [if_neg hw]
    have qw : (f == F) = false := by simpa using hw
    have q2 : List.lookup f [(F, v)] = none := by simp [List.lookup, qw]
    rw [q2]
    trivial
theorem boot_super : bootBuiltins "super" = some (.type "super") := by decide +kernel
section
variable {X : Cx} {C : Addr} {x F : Str}
/-- C(e), to be raised -/
def tMkX (C : Addr) (F : Str) (ta : TA) : St → Hp → XK → Prop := fun σ H Q => ta σ H fun vs H1 => ∃ v, vs = [v] ∧ ∀ d, H1 d = none → Q (.ref C) (some d) (upd H1 d (.xd [(F, v)]))
theorem pmk_x {a : Expr} {ta : TA} {p pos : Pos} {k : Nat} (T : ExTxt X.prog X.K x F C) (gC : X.mg x = some (.ref C)) (hr : Room k X.A) (ha : PA X [a] ta) (hg : Gl X x := by rfl) (hdb : (x == ("__debug__" : Str)) = false := by decide)
    (he : starEach (a :: []) X.env = (false, eval a X.env) :: starEach [] X.env := by rfl) (hpl : (backTo pos (starEach [] X.env)).any (·.1) = false := by rfl) :
    PMk X (.Call (.Name x p) [a] [] pos) (tMkX C F ta) := by
  intro pins s σ H Q I h
  refine wpAny_Call_Name_kw (ld_glob I hg gC ?_ hdb)
  refine PySem.W.callWith_K (h₀ := X.base) I.ok.mod.kin T.kC (thn (ha.run pos pins s σ H _ I h) fun us s1 hh => ?_) he hpl
  obtain ⟨vs, H1, I1, r1, v, ev, q1⟩ := hh
  subst ev
  refine ⟨I1.kIn, ?_⟩
  cases r1 with
  | cons rv rn =>
    rename_i v' us'
    cases rn
    show wpAny _ _ (call (.ref C) [v']) _ _ _
    have hlim := I1.nolimit
    obtain ⟨mb, hb, hbb⟩ := I1.mod.blt
    have G := I1.mod.glob.keeps I1.bk
    have B := hb.keeps I1.bk
    obtain ⟨hp, g, dr, tk, os⟩ := s1
    refine wpAny_call (es_made T I1.kIn G B ((hbb _ (by decide)).trans boot_super) hlim (by have := hr.dp; omega) (.inl rfl) fun h' tk' e d M => ?_)
    show MkP X pins σ Q (.ref e) ⟨h', g, dr, tk', os⟩
    obtain ⟨t1, hoe⟩ := M.obj
    have hns := M.ns
    obtain ⟨G', g1, g2⟩ := restrict h' fun b => decide (b ≠ e)
    have gk : ∀ b, b ≠ e → G'.get? b = h'.get? b := fun b hb => g1 b (decide_eq_true hb)
    have ge : G'.get? e = none := g2 e (by simp)
    have old : ∀ b o, hp.get? b = some o → G'.get? b = some o := fun b o q => (gk b (Nat.ne_of_lt (Nat.lt_of_lt_of_le (Heap.lt_size q) M.new))).trans (M.keep b o q)
    have ob : ObjOk X.prog X.w (upd H1 d (.xd [(F, v)])) G' d (.xd [(F, v)]) :=
      ⟨_, hns.at (fun o q => (gk d M.dne).trans q), fun f => relO_one rv f⟩
    have J : Inv X pins σ (upd H1 d (.xd [(F, v)])) ⟨G', g, dr, tk', os⟩ := I1.laid (t' := tk') old M.dbig ob
    refine ⟨e, _, _, ⟨G', g, dr, tk', os⟩, _, .ref C, some d, rfl, J, fun b o q => ?_, ge, hoe, ⟨rfl, rfl⟩, rfl, rfl, ?_, rfl, I1.bare, raises_own T.exC T.tyC, q1 d (I1.hok.fresh M.dbig)⟩
    · by_cases hb : b = e
      · have q' : G'.get? b = some o := q
        rw [hb, ge] at q'; cases q'
      · exact (gk b hb).symm.trans q
    · rw [upd_ne (Ne.symm M.dne)]
      exact I1.hok.fresh M.new
/-- raise C(e) -/
def tRaiseX (C : Addr) (F : Str) (W : WX) (ta : TA) : TS := fun _ σ H => tMkX C F ta σ H fun cls d H' => W cls d σ H'
theorem ps_raiseX {a : Expr} {ta : TA} {W : WX} {p pos pos2 : Pos} {k : Nat} (hc : X.calm = true) (T : ExTxt X.prog X.K x F C) (gC : X.mg x = some (.ref C)) (hr : Room k X.A) (tk : Takes X W) (ha : PA X [a] ta) (hg : Gl X x := by rfl) (hdb : (x == ("__debug__" : Str)) = false := by decide)
    (he : starEach (a :: []) X.env = (false, eval a X.env) :: starEach [] X.env := by rfl) (hpl : (backTo pos (starEach [] X.env)).any (·.1) = false := by rfl) :
    PS X (.Raise (some (.Call (.Name x p) [a] [] pos)) none pos2) (tRaiseX C F W ta) := ps_raise hc tk (pmk_x T gC hr ha hg hdb he hpl)
/-! ### as a value -/
/-- what of the class is asked for its instances' fields and for isinstance -/
structure ExCls (K : PySem.W.Frag) (C : Addr) (F : Str) : Prop where
  ga : PySem.W.findIn K (.ref C) "__getattribute__" = some (some (.builtin "BaseException.__getattribute__"))
  gg : PySem.W.findIn K (.ref C) "__getattr__" = some none
  exC : PySem.W.subIn K (.ref C) (.type "BaseException") = some true
  hdC : PySem.W.hasDictIn K C = true
  noN : PySem.W.findIn K (.ref C) F = some none
  cl : (PySem.W.clsIn K C).isSome = true
  ca : PySem.W.findIn K (.ref C) "__class__" = some (some (.builtin "object.__class__"))
  mo : PySem.W.mroIn K C (.type "object") = some true
  sp : PySem.W.specialIn K (.builtin "object.__class__") "__get__" = some (some (.builtin "getset_descriptor.__get__"))
  tk : PySem.W.takesIn K (.builtin "object.__class__") = some true
end
end L2
/-! the head's facts: plain defs, plain classes, own exception classes -/
namespace Hk
open PySem PySem.Spec PyProof.Rows L2 PySem.EsX He
/-- an own exception class of the text: its name, its field, its __init__ -/
structure ExD where
  x : Str
  F : Str
  qual : Str
  params : Arguments
  body : List Stmt
  scope : Scope
abbrev ExW : Type := Option (Str × Str × Arguments × FuncBody × Scope × Addr × List Str × Value × Value × Addr)
def exW (K : PySem.W.Frag) (x : Str) : ExW := match K.lookup (ma K (ga K x) "__init__") with
  | some ⟨_, _, .func fd, _⟩ => some (fd.name, fd.qualname, fd.params, fd.body, fd.scope, fd.globals, fd.closure.map (·.1), fd.defaults, fd.kwdefaults, fd.builtins)
  | _ => none
def ExD.val (d : ExD) : ExW := some ("__init__", d.qual, d.params, .stmts d.body, d.scope, mainGlobals, ["__class__"], .none, .none, builtinsNs)
def eqV (a b : Option Value) : Bool := decide (a = b)
def eqB (a b : Option Bool) : Bool := decide (a = b)
/-- the class object -/
def exCls (K : PySem.W.Frag) (C : Addr) : Bool := match K.lookup C with
  | some ⟨.type c, _, .cls cd, sl⟩ => decide (c = "type") && ((match cd.mro with
      | .ref D :: bm => decide (D = C) && (PySem.HandSPX.refsVE bm && eqO (PySem.W.alongIn K "__init__" bm) (some (some (.builtin "ValueError.__init__"))))
      | _ => false) && (cd.hasDict && (!cd.hasDel && (match sl.toList with
      | [_, _, _, _, some (.builtin n), _] => decide (n = "ValueError.__new__")
      | _ => false))))
  | _ => false
def cellB (K : PySem.W.Frag) (C : Addr) (cl : List (Str × Addr)) : Bool := match cl with
  | [(_, cc)] => (match K.lookup cc with
    | some ⟨_, _, .cell (some (.ref D)), _⟩ => decide (D = C)
    | _ => false)
  | _ => false
theorem cellB_ok {K : PySem.W.Frag} {C : Addr} {cl : List (Str × Addr)} (h : cellB K C cl = true) : ∃ y cc ccl ccd ccs, cl = [(y, cc)] ∧ K.lookup cc = some ⟨ccl, ccd, .cell (some (.ref C)), ccs⟩ := by
  cases cl with
  | nil => cases h
  | cons p r =>
    cases r with
    | cons _ _ => cases h
    | nil =>
      obtain ⟨y, cc⟩ := p
      have h1 : (match K.lookup cc with
        | some ⟨_, _, .cell (some (.ref D)), _⟩ => decide (D = C)
        | _ => false) = true := h
      cases qc : K.lookup cc with
      | none => rw [qc] at h1; cases h1
      | some oo =>
        obtain ⟨ccl, ccd, cdt, ccs⟩ := oo
        rw [qc] at h1
        cases cdt with
        | cell ov =>
          cases ov with
          | none => cases h1
          | some v =>
            cases v with
            | ref D =>
              have eD : D = C := of_decide_eq_true h1
              subst eD
              exact ⟨y, cc, ccl, ccd, ccs, rfl, qc⟩
            | _ => cases h1
        | _ => cases h1
def strIs (f : Str) : Option Value → Bool
  | some (.str g _) => decide (g = f)
  | _ => false
theorem strIs_ok {f : Str} {v : Option Value} (h : strIs f v = true) : ∃ tf, v = some (.str f tf) := by
  cases v with
  | none => cases h
  | some v =>
    cases v with
    | str g tf =>
      have e : g = f := of_decide_eq_true h
      subst e
      exact ⟨tf, rfl⟩
    | _ => cases h
def fileB (K : PySem.W.Frag) (f : Str) (cd : Value) : Bool := match cd with
  | .ref cda => (match K.lookup cda with
    | some ⟨_, _, .fields vs, _⟩ => strIs f vs[2]?
    | _ => false)
  | _ => false
theorem fileB_ok {K : PySem.W.Frag} {f : Str} {cd : Value} (h : fileB K f cd = true) : ∃ cda kcl kcd vs kcs tf, cd = .ref cda ∧ K.lookup cda = some ⟨kcl, kcd, .fields vs, kcs⟩ ∧ vs[2]? = some (.str f tf) := by
  cases cd with
  | ref cda =>
    have h1 : (match K.lookup cda with
      | some ⟨_, _, .fields vs, _⟩ => strIs f vs[2]?
      | _ => false) = true := h
    cases qk : K.lookup cda with
    | none => rw [qk] at h1; cases h1
    | some ok =>
      obtain ⟨kcl, kcd, kdt, kcs⟩ := ok
      rw [qk] at h1
      cases kdt with
      | fields vs =>
        obtain ⟨tf, e⟩ := strIs_ok h1
        exact ⟨cda, kcl, kcd, vs, kcs, tf, rfl, qk, e⟩
      | _ => cases h1
  | _ => cases h
def exFn (P : Program) (K : PySem.W.Frag) (C : Addr) : Bool := match K.lookup (ma K C "__init__") with
  | some ⟨_, _, .func fd, _⟩ => PySem.W.codeIn K fd.code fd.qualname && (cellB K C fd.closure && fileB K P.main.file fd.code)
  | _ => false
def exB (P : Program) (K : PySem.W.Frag) (x F : Str) : Bool := exCls K (ga K x) && (exFn P K (ga K x) &&
  (eqO (PySem.W.nsIn K mainGlobals x) (some (some (.ref (ga K x)))) &&
  (eqO (PySem.W.findIn K (.ref (ga K x)) "__init__") (some (some (.ref (ma K (ga K x) "__init__")))) && (eqV (PySem.W.typeIn K (.ref (ma K (ga K x) "__init__"))) (some (.type "function")) &&
  (eqO (PySem.W.findIn K (.ref (ga K x)) "__setattr__") (some (some (.builtin "object.__setattr__"))) && (eqO (PySem.W.findIn K (.ref (ga K x)) "__getattribute__") (some (some (.builtin "BaseException.__getattribute__"))) &&
  (eqO (PySem.W.findIn K (.ref (ga K x)) "__getattr__") (some none) && (eqO (PySem.W.findIn K (.ref (ga K x)) F) (some none) && (PySem.W.keepIn K (.ref (ga K x)) &&
  (eqB (PySem.W.subIn K (.ref (ga K x)) (.type "BaseException")) (some true) && (eqB (PySem.W.subIn K (.ref (ga K x)) (.type "ValueError")) (some true) && (eqV (PySem.W.typeIn K (.ref (ga K x))) (some (.type "type")) && (PySem.W.hasDictIn K (ga K x) &&
  (eqO (PySem.W.findIn K (.ref (ga K x)) "__class__") (some (some (.builtin "object.__class__"))) && (eqB (PySem.W.mroIn K (ga K x) (.type "object")) (some true) && (PySem.W.clsIn K (ga K x)).isSome)))))))))))))))
def exG (P : Program) (K : PySem.W.Frag) : Bool := eqO (PySem.W.nsIn K cStatics "thirdparty.any") (some none) && (eqO (PySem.W.nsIn K mainGlobals "super") (some none) && (!(P.main.scope.names.lookup ("super" : Str)).isSome &&
  (eqO (PySem.W.specialIn K (.builtin "object.__class__") "__get__") (some (some (.builtin "getset_descriptor.__get__"))) && eqB (PySem.W.takesIn K (.builtin "object.__class__")) (some true))))
/-- what of the names is to be checked once for each field -/
structure FldOk (F : Str) : Prop where
  bnd : ∀ (qual : Str) (p1 p2 : Pos) (body : List Stmt) (doc pm : Value) (an : Option Addr) (cdv ct : Value) (cc : Addr) (u v : Value), bindArgs (PySem.W.ksFn "__init__" qual (iA F p1 p2) body (iS F) .none .none doc pm an cdv ct cc) ⟨[u, v], []⟩ = pure [(("self" : Str), u), (F, v)]
  bndK : ∀ (qual : Str) (p1 p2 : Pos) (body : List Stmt) (doc pm : Value) (an : Option Addr) (cdv ct : Value) (cc : Addr) (u v : Value), bindArgs (PySem.W.ksFn "__init__" qual (iA F p1 p2) body (iS F) .none .none doc pm an cdv ct cc) ⟨[u], [(F, v)]⟩ = pure [(("self" : Str), u), (F, v)]
  fne : (F == ("self" : Str)) = false ∧ (F == ("__class__" : Str)) = false ∧ (F == ("super" : Str)) = false ∧ (F == ("__debug__" : Str)) = false ∧ (("self" : Str) == F) = false ∧ (("__class__" : Str) == F) = false ∧ (("super" : Str) == F) = false
theorem fo_index : FldOk "index" := ⟨fun _ _ _ _ _ _ _ _ _ _ _ _ => rfl, fun _ _ _ _ _ _ _ _ _ _ _ _ => rfl, by decide⟩
theorem eqV_ok {a b : Option Value} (h : eqV a b = true) : a = b := of_decide_eq_true h
theorem eqB_ok {a b : Option Bool} (h : eqB a b = true) : a = b := of_decide_eq_true h
/-- a class of the text is what ExTxt asks -/
structure ExOk (P : Program) (K : PySem.W.Frag) (mg : Str → Option Value) (x F : Str) (C : Addr) : Prop where
  t : ExTxt P K x F C
  c : ExCls K C F
  g : mg x = some (.ref C)
theorem exCls_ok {K : PySem.W.Frag} {C : Addr} (h : exCls K C = true) : ∃ nm q N bs bm sn sub ab col dd k0 k1 k2 k3 k5, K.lookup C = some (excClassObj nm q C N bs bm true sn sub ab col dd k0 k1 k2 k3 k5 "ValueError.__new__") ∧ PySem.HandSPX.refsVE bm = true ∧ PySem.W.alongIn K "__init__" bm = some (some (.builtin "ValueError.__init__")) := by
  unfold exCls at h
  cases q : K.lookup C with
  | none => rw [q] at h; cases h
  | some o =>
    obtain ⟨oc, od, dt, sl⟩ := o
    rw [q] at h
    cases oc with
    | type c =>
      cases dt with
      | cls cd =>
        obtain ⟨nm, bs, mro, ns, qn, hd, sn, sb, ab, col, del⟩ := cd
        obtain ⟨h1, h⟩ := ba h
        obtain ⟨h2, h⟩ := ba h
        obtain ⟨h3, h⟩ := ba h
        obtain ⟨h4, h5⟩ := ba h
        dsimp only at h2 h3 h4
        have e1 := of_decide_eq_true h1
        have e4 : del = false := by cases del <;> first | rfl | cases h4
        obtain ⟨sll⟩ := sl
        match sll, h5 with
        | [k0, k1, k2, k3, some (.builtin n), k5], h5 =>
          have e5 : n = "ValueError.__new__" := of_decide_eq_true h5
          match mro, h2 with
          | .ref D :: bm, h2 =>
            obtain ⟨g1, g⟩ := ba h2
            obtain ⟨g2, g3⟩ := ba g
            have eD := of_decide_eq_true g1
            subst e1 e4 e5 eD h3
            exact ⟨nm, qn, ns, bs, bm, sn, sb, ab, col, od, k0, k1, k2, k3, k5, rfl, g2, eqO_ok g3⟩
      | _ => cases h
    | _ => cases dt <;> cases h
theorem ex_ok {P : Program} {K : PySem.W.Frag} {mg : Str → Option Value} {h0 : Heap} (X : K.In h0) (G : h0.Ns mainGlobals mg) {d : ExD} (e : exW K d.x = d.val) (hb : exB P K d.x d.F = true) (hg : exG P K = true) (fo : FldOk d.F)
    (txt : ∃ p1 p2 msg ps, d.params = iA d.F p1 p2 ∧ d.body = iB d.F msg ps ∧ (ps.p2.endLine == ps.p4.line) = true) (hs : d.scope = iS d.F) : ExOk P K mg d.x d.F (ga K d.x) := by
  obtain ⟨a1, a⟩ := ba hb
  obtain ⟨a2, a⟩ := ba a
  obtain ⟨a3, a⟩ := ba a
  obtain ⟨a4, a⟩ := ba a
  obtain ⟨a5, a⟩ := ba a
  obtain ⟨a6, a⟩ := ba a
  obtain ⟨a7, a⟩ := ba a
  obtain ⟨a8, a⟩ := ba a
  obtain ⟨a9, a⟩ := ba a
  obtain ⟨a10, a⟩ := ba a
  obtain ⟨a11, a⟩ := ba a
  obtain ⟨a12, a⟩ := ba a
  obtain ⟨a13, a⟩ := ba a
  obtain ⟨a14, a⟩ := ba a
  obtain ⟨a15, a⟩ := ba a
  obtain ⟨a16, a17⟩ := ba a
  obtain ⟨b1, b⟩ := ba hg
  obtain ⟨b2, b⟩ := ba b
  obtain ⟨b3, b⟩ := ba b
  obtain ⟨b4, b5⟩ := ba b
  refine ⟨⟨exCls_ok a1, eqO_ok a6, eqO_ok a7, eqO_ok a8, eqO_ok a9, a10, eqB_ok a11, eqB_ok a12, eqV_ok a13, a14, eqO_ok b1, eqO_ok b2, by simpa using b3, ?_, fo.bnd, fo.bndK, fo.fne⟩,
    ⟨eqO_ok a7, eqO_ok a8, eqB_ok a11, a14, eqO_ok a9, a17, eqO_ok a15, eqB_ok a16, eqO_ok b4, eqB_ok b5⟩, PySem.W.mg_of X G (eqO_ok a3)⟩
  obtain ⟨p1, p2, msg, ps, t1, t2, t3⟩ := txt
  have a2' := a2
  unfold exFn at a2'
  unfold exW at e
  cases q : K.lookup (ma K (ga K d.x) "__init__") with
  | none => rw [q] at a2'; cases a2'
  | some o =>
    obtain ⟨oc, od, dt, osl⟩ := o
    rw [q] at a2' e
    cases dt with
    | func fd =>
      obtain ⟨n1, n2, n3, n4, n5, n6, n7, n8, n9, n10, n11, n12, n13, n14, n15⟩ := fd
      have e2 : (some (n1, n2, n3, n4, n5, n6, n7.map (·.1), n8, n9, n15) : ExW) = (some ("__init__", d.qual, d.params, .stmts d.body, d.scope, mainGlobals, ["__class__"], .none, .none, builtinsNs) : ExW) := e
      simp only [Option.some.injEq, Prod.mk.injEq] at e2
      obtain ⟨h1, h2, h3, h4, h5, h6, h7, h8, h9, h10⟩ := e2
      obtain ⟨c1, c⟩ := ba a2'
      obtain ⟨c2, c3⟩ := ba c
      dsimp only at c1 c2 c3
      obtain ⟨y, cc, ccl, ccd, ccs, ecl, qc⟩ := cellB_ok c2
      obtain ⟨cda, kcl, kcd, vs, kcs, tf, ecd, qk, qv⟩ := fileB_ok c3
      subst ecl ecd
      have ey : y = ("__class__" : Str) := by
        have z : [y] = [("__class__" : Str)] := h7
        injection z
      subst h1 h2 h3 h4 h5 h6 h8 h9 h10 ey
      refine ⟨_, d.qual, msg, oc, od, n10, n11, n12, cda, n14, osl, p1, p2, ps, cc, ccl, ccd, ccs, vs, kcl, kcd, kcs, tf, eqO_ok a4, eqV_ok a5, ?_, c1, qc, qk, qv, t3⟩
      rw [t1, t2, hs] at q
      exact q
    | _ => cases a2'
/-! ### the Hook -/
def asR (g : Addr → Option Obj) : Nat → List Addr
  | 0 => [mainGlobals, cStatics]
  | n + 1 => growD g (asR g n)
abbrev AlR : Type := AlD × Bool × List ExW
/-- what is looked at: plain facts, defs, exception classes, one more Bool -/
structure Lk where
  P : Program
  fa : List Fa
  fn : List DefD
  ex : List ExD
  mo : PySem.W.Frag → Bool := fun _ => true
def obsR (l : Lk) (K : PySem.W.Frag) : AlR := (obsD l.fa l.fn K, (exG l.P K && l.mo K) && l.ex.all fun d => exB l.P K d.x d.F, l.ex.map fun d => exW K d.x)
def valR (l : Lk) : AlR := (valD l.fn, true, l.ex.map ExD.val)
def obsRG (l : Lk) (n : Nat) (g : Addr → Option Obj) : AlR := obsR l (frG g (asR g n))
def SaysR (l : Lk) (K : PySem.W.Frag) : Prop := obsR l K = valR l
def hookR (l : Lk) (n : Nat) : PySem.W.Hook where
  α := AlR
  obs := fun s => obsRG l n s.heap.get?
  val := fun _ => valR l
  says := fun _ h => ∃ K : PySem.W.Frag, K.In h ∧ SaysR l K
  of := fun _ _ e => ⟨_, frG_in, e⟩
  keeps := fun _ _ _ ⟨K, hK, c⟩ k => ⟨K, PySem.W.Frag.In.keeps hK k, c⟩
theorem obsRG_eq {l : Lk} {n : Nat} {g : Addr → Option Obj} {s : Shared} (h : ∀ a, g a = s.heap.get? a) : obsRG l n g = (hookR l n).obs s := by
  have e : g = s.heap.get? := funext h
  rw [e] <;> rfl
section
variable {l : Lk} {K : PySem.W.Frag}
theorem SaysR.d (c : SaysR l K) : SaysD l.fa l.fn K := congrArg (fun z : AlR => z.1) c
theorem SaysR.b (c : SaysR l K) : ((exG l.P K && l.mo K) && l.ex.all fun d => exB l.P K d.x d.F) = true := congrArg (fun z : AlR => z.2.1) c
theorem SaysR.mo (c : SaysR l K) : l.mo K = true := (ba (ba c.b).1).2
theorem SaysR.ex_ (c : SaysR l K) (i : Nat) {d : ExD} (h : l.ex[i]? = some d := by rfl) : exW K d.x = d.val ∧ exB l.P K d.x d.F = true ∧ exG l.P K = true := by
  have c3 : l.ex.map (fun d => exW K d.x) = l.ex.map ExD.val := congrArg (fun z : AlR => z.2.2) c
  have e2 : (l.ex.map fun d => exW K d.x)[i]? = (l.ex.map ExD.val)[i]? := by rw [c3]
  rw [List.getElem?_map, List.getElem?_map, h] at e2
  exact ⟨Option.some.inj e2, List.all_eq_true.mp (ba c.b).2 d (List.mem_of_getElem? h), (ba (ba c.b).1).1⟩
theorem SaysR.exok (c : SaysR l K) {mg : Str → Option Value} {h0 : Heap} (X : K.In h0) (G : h0.Ns mainGlobals mg) (i : Nat) {d : ExD} (h : l.ex[i]? = some d) (fo : FldOk d.F)
    (txt : ∃ p1 p2 msg ps, d.params = iA d.F p1 p2 ∧ d.body = iB d.F msg ps ∧ (ps.p2.endLine == ps.p4.line) = true) (hs : d.scope = iS d.F) : ExOk l.P K mg d.x d.F (ga K d.x) := by
  obtain ⟨h1, h2, h3⟩ := c.ex_ i h
  exact ex_ok X G h1 h2 h3 fo txt hs
theorem SaysR.glo (c : SaysR l K) {mg : Str → Option Value} {h0 : Heap} (X : K.In h0) (G : h0.Ns mainGlobals mg) (i : Nat) {x : Str} (h : l.fa[i]? = some (.glo x)) : mg x = some (.ref (ga K x)) := He.glo_ok X G (c.d.fact i h)
theorem SaysR.free (c : SaysR l K) {mg : Str → Option Value} {h0 : Heap} (X : K.In h0) (G : h0.Ns mainGlobals mg) (i : Nat) {x : Str} (h : l.fa[i]? = some (.free x)) : mg x = none := He.free_ok X G (c.d.fact i h)
end
end Hk
/-! tuples of which it is known that they have no dict: t.index(x) -/
namespace L2
open PySem PySem.Spec PyProof.Rows
def Nt (o : HO) (xs : List V) : Prop := ∃ ob : Obj, o = .frz ob (.tup xs) ∧ ob.dict = none
def SqN (K : PySem.W.Frag) (H : Hp) (a : Addr) (xs : List V) : Prop := (∃ o, H a = some o ∧ Nt o xs) ∨ ∃ (o : Obj) (its : Array Value) (n : Nat), K.lookup a = some o ∧ o.cls = .type "tuple" ∧ o.data = .seq its n ∧ its.size ≤ sizeLine ∧ Vals xs its.toList ∧ o.dict = none
theorem SqN.t {K : PySem.W.Frag} {H : Hp} {a : Addr} {xs : List V} (h : SqN K H a xs) : SqT K H a xs := by
  rcases h with ⟨o, h, ob, rfl, hd⟩ | ⟨o, its, n, h1, h2, h3, h4, h5, h6⟩
  · exact .inl (.inr ⟨ob, h⟩)
  · exact .inr ⟨o, its, n, h1, h2, h3, h4, h5⟩
theorem Nt.mk {xs : List V} {items : Array Value} : Nt (.frz { cls := .type "tuple", data := .seq items } (.tup xs)) xs := ⟨_, rfl, rfl⟩
section
variable {X : Cx} {pins : List (Addr × Obj)} {s : Shared} {σ : St} {H : Hp}
theorem Inv.ndict (I : Inv X pins σ H s) {a : Addr} {xs : List V} (h : SqN X.K H a xs) : ∃ ob, s.heap.get? a = some ob ∧ ob.cls = .type "tuple" ∧ ob.dict = none := by
  rcases h with ⟨o, h, ob, rfl, hd⟩ | ⟨o, its, n, h1, h2, h3, h4, h5, h6⟩
  · obtain ⟨e, _, _, _, o', e', hc, _⟩ := (show ObjOk X.prog X.w H s.heap a (.frz ob (.tup xs)) from I.hok a _ h)
    rw [e] at e'
    cases e'
    exact ⟨ob, e, hc, hd⟩
  · exact ⟨o, I.kIn a o h1, h2, h6⟩
theorem lay_nt {h' : Heap} {t : Nat} (I : Inv X pins σ H s) {xs : List V} {us : List Value} {items : Array Value} (hi : items.toList = us) (k : ∀ b u, s.heap.get? b = some u → h'.get? b = some u) (z : xs.length ≤ sizeLine) (r : Vals xs us) :
    Inv X pins σ (upd H h'.objs.size (.frz { cls := .type "tuple", data := .seq items } (.tup xs))) { s with heap := h'.push { cls := .type "tuple", data := .seq items }, toks := t } ∧ H h'.objs.size = none := by
  have I1 : Inv X pins σ H { s with heap := h', toks := t } := I.kept k
  refine ⟨I1.laid (t' := t) (fun b u e => Heap.get?_push_of_some _ e) (Nat.le_refl _) ?_, I1.hok.fresh (Nat.le_refl _)⟩
  refine ⟨Heap.get?_push_size _ rfl, z, us, r, ?_⟩
  subst hi
  rw [Array.toArray_toList]
  exact IsTup.new _ _
/-- a display -/
def tTupN (t : TA) : TE := fun σ H Q => t σ H fun xs H1 => xs.length ≤ sizeLine ∧ ∀ p o, Nt o xs → H1 p = none → Q (.ref p) (upd H1 p o)
theorem pe_tupN {es : List Expr} {pos : Pos} {t : TA} {x1} (h : PA X es t) : PE X (.Tuple es x1 pos) (tTupN t) := by
  refine ⟨fun pins s σ H Q I hq => ?_⟩
  refine wpAny_Tuple_spliced (thn (h.run pos pins s σ H _ I hq) fun us s1 ⟨xs, H1, I1, r, z, q⟩ => ⟨by rw [← r.length]; exact z, ?_⟩)
  obtain ⟨J, n⟩ := lay_nt (h' := s1.heap) (t := s1.toks) I1 (items := us.toArray) (by simp) (fun b u e => e) z r
  exact ⟨.ref s1.heap.objs.size, _, J, rfl, q _ _ Nt.mk n⟩
/-- tuple(xs) -/
def rTupOfN (K : PySem.W.Frag) : List V → Hp → VK → Prop := fun xs H Q => ∃ p ys, xs = [.ref p] ∧ ((SqL K H p ys ∧ ∀ l o, Nt o ys → H l = none → Q (.ref l) (upd H l o)) ∨ (SqT K H p ys ∧ Q (.ref p) H))
theorem call_tuple_ofN : CallR X (.type "tuple") (rTupOfN X.K) := by
  intro pins s σ H xs us Q I r h
  obtain ⟨p, ys, rfl, h⟩ := h
  rcases h with ⟨hq, q⟩ | h
  · obtain ⟨u, rfl, rx⟩ := vals1 r
    cases rx
    obtain ⟨its, r', pl, hz⟩ := I.list hq
    have hlen := r'.length
    refine call_tuple_list pl.isList (fun h' kp => ?_) (by simp only [List.size_toArray] <;> omega)
    obtain ⟨J, n⟩ := lay_nt (h' := h') (t := s.toks) I (items := its.toArray) (by simp) kp hz r'
    exact ⟨.ref h'.objs.size, _, J, rfl, q _ _ Nt.mk n⟩
  · exact call_tuple_of pins s σ H _ us Q I r ⟨p, ys, rfl, .inr h⟩
/-- t[lo:hi] -/
def rSlN (K : PySem.W.Frag) : V → Option Int → Option Int → Hp → VK → Prop := fun x lo hi H Q => ∃ a xs, x = .ref a ∧ SqT K H a xs ∧
  (HT.sIx xs.length 0 lo = 0 ∧ HT.sIx xs.length xs.length hi = xs.length → Q (.ref a) H) ∧ (¬ (HT.sIx xs.length 0 lo = 0 ∧ HT.sIx xs.length xs.length hi = xs.length) → ∀ p o, Nt o (cutV xs lo hi) → H p = none → Q (.ref p) (upd H p o))
theorem sl_tupN : SlR X (rSlN X.K) := by
  intro pins s σ H x v vl vu lo hi sl Q I rx hs pl pu h
  obtain ⟨a, xs, rfl, hx, q1, q2⟩ := h
  by_cases hw : HT.sIx xs.length 0 lo = 0 ∧ HT.sIx xs.length xs.length hi = xs.length
  · exact sl_tupA pins s σ H _ v vl vu lo hi sl Q I rx hs pl pu ⟨a, xs, rfl, hx, q1, fun z => absurd hw z⟩
  · cases rx
    obtain ⟨its, r, ht, hz⟩ := I.tuple hx
    have hlen : its.toArray.size = xs.length := by rw [List.size_toArray]; exact r.length.symm
    refine ⟨"tuple", _, PyProof.Rows.slot_tuple_getitem.lookup, ht.typeIs, ?_⟩
    refine HT.getItem_tuple_cut ht hs pl pu (by rw [hlen]; exact hw) ?_ (by rw [hlen]; exact hz)
    rw [hlen]
    obtain ⟨J, n⟩ := lay_nt (h' := s.heap) (t := s.toks) I (xs := cutV xs lo hi) rfl (fun b u e => e) (Nat.le_trans (cutV_length xs lo hi) hz) ((r.drop (HT.sIx xs.length 0 lo)).take (HT.sIx xs.length xs.length hi - HT.sIx xs.length 0 lo))
    exact ⟨.ref s.heap.objs.size, _, by simpa using J, rfl, q2 hw _ _ Nt.mk n⟩
/-- t + u -/
def rCatN (K : PySem.W.Frag) : R2 := fun x y H Q => ∃ a b xs ys, x = .ref a ∧ y = .ref b ∧ SqT K H a xs ∧ SqT K H b ys ∧ xs.length + ys.length ≤ sizeLine ∧
  (xs = [] → Q (.ref b) H) ∧ (xs ≠ [] → ys = [] → Q (.ref a) H) ∧ (xs ≠ [] → ys ≠ [] → ∀ p o, Nt o (xs ++ ys) → H p = none → Q (.ref p) (upd H p o))
theorem op_catN : OpR X (binaryOp .Add) (rCatN X.K) := by
  intro pins s σ H x y v u Q I rx ry h
  obtain ⟨a, b, xs, ys, rfl, rfl, ha, hb, hz, q0, q1, q2⟩ := h
  by_cases hx : xs = []
  · exact op_catA pins s σ H _ _ v u Q I rx ry ⟨a, b, xs, ys, rfl, rfl, ha, hb, hz, q0, q1, fun z => absurd hx z⟩
  by_cases hy : ys = []
  · exact op_catA pins s σ H _ _ v u Q I rx ry ⟨a, b, xs, ys, rfl, rfl, ha, hb, hz, q0, q1, fun _ z => absurd hy z⟩
  cases rx
  cases ry
  obtain ⟨its, r1, p1, _⟩ := I.tuple ha
  obtain ⟨its2, r2, p2, _⟩ := I.tuple hb
  refine HT.cat_tup p1 p2 (fun z => hx (r1.nil_iff.mp z)) (fun z => absurd (r2.nil_iff.mp z) hy) (fun z => ?_) (by rw [← r1.length, ← r2.length]; exact hz)
  obtain ⟨J, n⟩ := lay_nt (h' := s.heap) (t := s.toks) I (xs := xs ++ ys) rfl (fun b u e => e) (by rw [List.length_append]; exact hz) (r1.append r2)
  exact ⟨.ref s.heap.objs.size, _, by simpa using J, rfl, q2 hx hy _ _ Nt.mk n⟩
/-- t.m(e, ..), t a tuple without a dict -/
def tTM (K : PySem.W.Frag) (r : V → List V → Hp → VK → Prop) (to : TE) (t : TA) : TE := fun σ H Q => to σ H fun x H1 => (∃ a xs, x = .ref a ∧ SqN K H1 a xs) ∧ t σ H1 fun xs H2 => r x xs H2 Q
theorem pe_tm {o e : Expr} {es : List Expr} {to : TE} {t : TA} {name : Str} {apos cpos : Pos} {id : String} {r : V → List V → Hp → VK → Prop} (pa : PlainAttrs "tuple") (slot : Slot "tuple" name id) (hty : typeOf (.builtin id) = pure (.type "method_descriptor")) (hm : MtR X id r) (ho : PE X o to) (ha : PA X (e :: es) t)
    (hbase : attributeBase o name X.env (eval o X.env) = eval o X.env := by rfl)
    (hfew : ((backTo cpos (starEach (e :: es) X.env)).all (fun x => !x.1) && (backToKw cpos (keywordEach [] X.env)).all (fun x => x.1.isSome)
      && decide ((e :: es).length + ([] : List Keyword).length + (if ([] : List Keyword).isEmpty then 0 else 1) < 30)) = true := by rfl)
    (hline : (apos.endLine == cpos.line) = true := by rfl) (hs : starEach (e :: es) X.env = (false, eval e X.env) :: starEach es X.env := by rfl) (hplain : (backTo cpos (starEach es X.env)).any (·.1) = false := by rfl) :
    PE X (.Call (.Attribute o name apos) (e :: es) [] cpos) (tTM X.K r to t) := by
  refine ⟨fun pins s σ H Q I h => ?_⟩
  refine wpAny_Call_method_late hbase hfew hline rfl (thn (ho.run pins s σ H _ I h) fun v s1 ⟨x, H1, I1, r1, ⟨a, xs, ex, sn⟩, q1⟩ => ?_)
  subst ex
  cases (show v = Value.ref a from r1)
  obtain ⟨ob, e1, e2, e3⟩ := I1.ndict sn
  refine ⟨"tuple", id, pa, slot, hty, ⟨ob, e1, e2⟩, (fun b eb => by cases eb; exact ⟨ob, e1, e3⟩), ?_⟩
  have hA := ha.run cpos pins s1 σ H1 _ I1 q1
  rw [hs] at hA ⊢
  refine Calls.callWith_builtin (by show (false || (backTo cpos (starEach es X.env)).any (·.1)) = false; rw [hplain] <;> rfl) (Calls.evalArgs_plain ?_)
  exact thn hA fun us s2 ⟨vs, H2, I2, r2, q2⟩ => hm pins s2 σ H2 (.ref a) vs (.ref a) us Q I2 rfl r2 q2
end
end L2
/-! dicts whose keys are tuples of ints, each key's tuple a locked one -/
namespace L2
open PySem PySem.Spec PyProof.Rows
def tkH (ks : List Int) : Int := reduceHash (Builtin.Tuple.tupleHashOf (ks.map hashInt))
abbrev TEnt : Type := List Int × Addr × Value
def tent (x : TEnt) : DictEntry := ⟨tkH x.1, .ref x.2.1, x.2.2⟩
abbrev tkK (P : Program) (w : World) : HeapKind P w (List Int) := tupleKind (intKind P w)
def DTR (h : Heap) (a : Addr) (es : List TEnt) : Prop := (a == sysModules) = false ∧ es.length ≤ sizeLine ∧ ∃ o ar ep, h.get? a = some o ∧ o.ExactDict ∧ o.data = .dict ar ep ∧ ar.toList = es.map tent ∧ (es.map (·.1)).Nodup
/-- the dict at a: its keys, where each key's tuple stands, its values -/
def DTO (a : Addr) (ks : List (List Int)) (bs : List Addr) (xs : List V) : HO := .ext fun h => ∃ es : List TEnt, es.map (·.1) = ks ∧ es.map (·.2.1) = bs ∧ Vals xs (es.map (·.2.2)) ∧ DTR h a es
/-- .. as it is read: locked, perhaps -/
def RdT (H : Hp) (a : Addr) (ks : List (List Int)) (bs : List Addr) (xs : List V) : Prop := H a = some (DTO a ks bs xs) ∨ ∃ ob, H a = some (.frz ob (DTO a ks bs xs))
theorem dto_new {P : Program} {w : World} {H : Hp} {h : Heap} {a : Addr} {ks : List (List Int)} {bs : List Addr} {xs : List V} (R : ∃ es : List TEnt, es.map (·.1) = ks ∧ es.map (·.2.1) = bs ∧ Vals xs (es.map (·.2.2)) ∧ DTR h a es) : ObjOk P w H h a (DTO a ks bs xs) := by
  obtain ⟨es, e1, e2, e3, d1, d0, o, ar, ep, ho, r⟩ := R
  refine ⟨⟨es, e1, e2, e3, d1, d0, o, ar, ep, ho, r⟩, ⟨o, ho⟩, fun h1 h2 => ?_⟩
  rintro ⟨es, e1, e2, e3, d1, d0, o, ar, ep, ho, r⟩ k
  exact ⟨es, e1, e2, e3, d1, d0, o, ar, ep, k o ho, r⟩
section
variable {X : Cx} {pins : List (Addr × Obj)} {σ : St} {H : Hp} {s : Shared} {a b : Addr} {ks : List (List Int)} {bs : List Addr} {xs : List V} {k : List Int}
theorem ints_are {P : Program} {w : World} : ∀ {ks : List Int} {us : List Value}, Vals (ks.map V.int) us → ItemsAre (intKind P w) ks us
  | [], _, r => by rw [List.map_nil] at r; cases r; exact .nil
  | k :: ks, _, r => by
    rw [List.map_cons] at r
    cases r with
    | cons h t => exact .cons (intKind_is' h) (ints_are t)
where
  intKind_is' {P : Program} {w : World} {k : Int} {u : Value} (h : RelV (.int k) u) : (intKind P w).is k u := by
    obtain ⟨t, rfl⟩ := h
    exact intKind_is P w k t
theorem tup_key (I : Inv X pins σ H s) (h : SqT X.K H b (k.map V.int)) : (tkK X.prog X.w).is s.heap k b := by
  obtain ⟨its, r, ⟨o, ho, hc, n, hd⟩, z⟩ := I.tuple h
  exact ⟨o, its.toArray, n, ho, hc, hd, by simpa using ints_are r⟩
/-- each key's tuple stands -/
inductive KeysAt (K : PySem.W.Frag) (H : Hp) : List (List Int) → List Addr → Prop
  | nil : KeysAt K H [] []
  | cons {k : List Int} {ks : List (List Int)} {b : Addr} {bs : List Addr} : SqT K H b (k.map V.int) → KeysAt K H ks bs → KeysAt K H (k :: ks) (b :: bs)
theorem KeysAt.ents {K : PySem.W.Frag} {H : Hp} : ∀ {es : List TEnt}, KeysAt K H (es.map (·.1)) (es.map (·.2.1)) → ∀ x ∈ es, SqT K H x.2.1 (x.1.map V.int)
  | [], _, x, hx => nomatch hx
  | e :: es, h, x, hx => by
    rw [List.map_cons, List.map_cons] at h
    cases h with
    | cons h t =>
      rcases List.mem_cons.mp hx with rfl | hx
      · exact h
      · exact t.ents x hx
theorem KeysAt.append {K : PySem.W.Frag} {H : Hp} : ∀ {ks : List (List Int)} {bs : List Addr} {k : List Int} {b : Addr}, KeysAt K H ks bs → SqT K H b (k.map V.int) → KeysAt K H (ks ++ [k]) (bs ++ [b])
  | _, _, _, _, .nil, h => .cons h .nil
  | _, _, _, _, .cons g t, h => .cons g (t.append h)
theorem KeysAt.mono {K : PySem.W.Frag} {H H' : Hp} (f : ∀ b xs, SqT K H b xs → SqT K H' b xs) : ∀ {ks : List (List Int)} {bs : List Addr}, KeysAt K H ks bs → KeysAt K H' ks bs
  | _, _, .nil => .nil
  | _, _, .cons g t => .cons (f _ _ g) (t.mono f)
theorem KeysAt.length {K : PySem.W.Frag} {H : Hp} : ∀ {ks : List (List Int)} {bs : List Addr}, KeysAt K H ks bs → ks.length = bs.length
  | _, _, .nil => rfl
  | _, _, .cons g t => congrArg (· + 1) t.length
theorem dto_get (I : Inv X pins σ H s) (ha : RdT H a ks bs xs) (hk : KeysAt X.K H ks bs) : (a == sysModules) = false ∧ ∃ es : List TEnt, es.length ≤ sizeLine ∧ es.map (·.1) = ks ∧ es.map (·.2.1) = bs ∧ Vals xs (es.map (·.2.2)) ∧ s.heap.DictOfH (tkK X.prog X.w) a es := by
  have hφ : ∃ es : List TEnt, es.map (·.1) = ks ∧ es.map (·.2.1) = bs ∧ Vals xs (es.map (·.2.2)) ∧ DTR s.heap a es := by
    rcases ha with ha | ⟨ob, ha⟩
    · exact (I.hok a _ ha).1
    · exact (I.hok a _ ha).2.1
  obtain ⟨es, e1, e2, e3, d1, d0, o, ar, ep, ho, h1, h2, h3, h4⟩ := hφ
  subst e1 e2
  exact ⟨d1, es, d0, rfl, rfl, e3, o, ar, ep, ho, h1, h2, h3, fun x hx => tup_key I (hk.ents x hx), h4⟩
theorem atKey_some : ∀ {es : List TEnt} {i : Nat} {k : List Int}, (es.map (·.1)).Nodup → (es.map (·.1))[i]? = some k → ∃ p, atKey es k = some p ∧ (es.map (·.2.2))[i]? = some p.2
  | [], i, k, _, h => by simp at h
  | e :: es, 0, k, _, h => by
    have h : e.1 = k := by simpa using h
    exact ⟨e.2, by unfold atKey; simp [List.find?_cons, h], by simp⟩
  | e :: es, i + 1, k, nd, h => by
    rw [List.map_cons] at nd
    obtain ⟨n1, n2⟩ := List.nodup_cons.mp nd
    obtain ⟨p, h1, h2⟩ := atKey_some (i := i) n2 (by simpa using h)
    have ne : e.1 ≠ k := fun z => n1 (by
      rw [z]
      exact List.mem_of_getElem? (by simpa using h))
    refine ⟨p, ?_, by simpa using h2⟩
    unfold atKey at h1 ⊢
    rw [List.find?_cons]
    simp only [ne, decide_false]
    exact h1
theorem atKey_isSome {es : List TEnt} {k : List Int} : (atKey es k).isSome = decide (k ∈ es.map (·.1)) := by
  unfold atKey
  rw [Option.isSome_map]
  induction es with
  | nil => rfl
  | cons e es ih =>
    rw [List.find?_cons]
    by_cases h : e.1 = k
    · simp [h]
    · have h' : ¬ k = e.1 := fun z => h z.symm
      simp only [h, decide_false, List.map_cons, List.mem_cons, h', false_or]
      exact ih
/-- k in d -/
def rTIn (K : PySem.W.Frag) (neg : Bool) : R2 := fun x y H Q => ∃ (b a : Addr) (k : List Int) (ks : List (List Int)) (bs : List Addr) (xs : List V), x = .ref b ∧ y = .ref a ∧ SqT K H b (k.map V.int) ∧ RdT H a ks bs xs ∧ KeysAt K H ks bs ∧ Q (.bl (if neg then !decide (k ∈ ks) else decide (k ∈ ks))) H
theorem room_tk {A : Around} (hu : A.units + 1 < cLine) : (tkK X.prog X.w).room A.in1 := by
  show A.in1.units < cLine
  exact hu
theorem or_tin (hu : X.A.units + 1 < cLine) : OpR X (compareOp .In) (rTIn X.K false) := by
  intro pins s σ H x y iv u Q I rx ry ⟨b, a, k, ks, bs, xs, ex, ey, hb, ha, hk, q⟩
  subst ex ey
  cases rx
  cases ry
  obtain ⟨d1, es, d0, e1, e2, e3, dd⟩ := dto_get I ha hk
  refine wpAny_in_heap (room_tk hu) (tup_key I hb) d1 dd ?_
  rw [atKey_isSome, e1]
  exact ⟨.bl _, H, I.tok _, rfl, q⟩
theorem or_tnotin (hu : X.A.units + 1 < cLine) : OpR X (compareOp .NotIn) (rTIn X.K true) := by
  intro pins s σ H x y iv u Q I rx ry ⟨b, a, k, ks, bs, xs, ex, ey, hb, ha, hk, q⟩
  subst ex ey
  cases rx
  cases ry
  obtain ⟨d1, es, d0, e1, e2, e3, dd⟩ := dto_get I ha hk
  refine wpAny_notIn_heap (room_tk hu) (tup_key I hb) d1 dd ?_
  rw [atKey_isSome, e1]
  exact ⟨.bl _, H, I.tok _, rfl, q⟩
theorem Vals.getV : ∀ {xs : List V} {us : List Value} {i : Nat} {u : Value}, Vals xs us → us[i]? = some u → ∃ x, xs[i]? = some x ∧ RelV x u
  | _, _, i, u, .nil, e => by simp at e
  | _, _, 0, u, .cons h t, e => by
    have e := Option.some.inj (by simpa using e)
    subst e
    exact ⟨_, rfl, h⟩
  | _, _, i + 1, u, .cons h t, e => by
    obtain ⟨x, h1, h2⟩ := Vals.getV (i := i) (u := u) t (by simpa using e)
    exact ⟨x, by simpa using h1, h2⟩
/-- d[k] -/
def rTGet (K : PySem.W.Frag) : R2 := fun x y H Q => ∃ (a b : Addr) (k : List Int) (ks : List (List Int)) (bs : List Addr) (xs : List V) (i : Nat) (v : V), x = .ref a ∧ y = .ref b ∧ SqT K H b (k.map V.int) ∧ RdT H a ks bs xs ∧ KeysAt K H ks bs ∧ ks[i]? = some k ∧ xs[i]? = some v ∧ Q v H
theorem t_getItem {A : Around} {E : Value → Shared → Prop} {i : Nat} {v : V} {Q : Value → Shared → Prop} (hu : A.units + 1 < cLine) (I : Inv X pins σ H s) (hb : SqT X.K H b (k.map V.int)) (ha : RdT H a ks bs xs) (hk : KeysAt X.K H ks bs) (hi : ks[i]? = some k) (hv : xs[i]? = some v)
    (h : ∀ w' s', Inv X pins σ H s' → RelV v w' → Q w' s') : wpAny (model X.prog X.w) A (getItem (.ref a) (.ref b)) Q E s := by
  obtain ⟨d1, es, d0, e1, e2, e3, dd⟩ := dto_get I ha hk
  subst e1
  obtain ⟨p, h1, h2⟩ := atKey_some dd.nodup hi
  obtain ⟨y, h3, h4⟩ := e3.getV h2
  rw [hv] at h3
  cases h3
  exact wpAny_getItem_heap (hu) (tup_key I hb) dd h1 (h _ _ (I.tok _) h4)
/-- the heap behind d[k] = v -/
def TPut (K : PySem.W.Frag) (H : Hp) (a b : Addr) (v : V) (H' : Hp) : Prop := ∃ (k : List Int) (ks : List (List Int)) (bs : List Addr) (xs : List V), SqT K H b (k.map V.int) ∧ H a = some (DTO a ks bs xs) ∧ KeysAt K H ks bs ∧
  ((∃ i, ks[i]? = some k ∧ H' = upd H a (DTO a ks bs (xs.set i v))) ∨ (k ∉ ks ∧ ks.length < sizeLine ∧ H' = upd H a (DTO a (ks ++ [k]) (bs ++ [b]) (xs ++ [v]))))
theorem Vals.setV : ∀ {xs : List V} {us : List Value} {i : Nat} {v : V} {u : Value}, Vals xs us → RelV v u → Vals (xs.set i v) (us.set i u)
  | _, _, i, v, u, .nil, r => .nil
  | _, _, 0, v, u, .cons h t, r => .cons r t
  | _, _, i + 1, v, u, .cons h t, r => .cons h (Vals.setV t r)
theorem put_keys : ∀ {es : List TEnt} {k : List Int} {v : Value}, (es.map (putAt k v)).map (·.1) = es.map (·.1) ∧ (es.map (putAt k v)).map (·.2.1) = es.map (·.2.1)
  | [], _, _ => ⟨rfl, rfl⟩
  | e :: es, k, v => by
    obtain ⟨h1, h2⟩ := put_keys (es := es) (k := k) (v := v)
    constructor
    · simp only [List.map_cons, h1]
      congr 1
      unfold putAt
      split <;> rfl
    · simp only [List.map_cons, h2]
      congr 1
      unfold putAt
      split <;> rfl
theorem put_vals : ∀ {es : List TEnt} {k : List Int} {v : Value} {i : Nat}, (es.map (·.1)).Nodup → (es.map (·.1))[i]? = some k → (es.map (putAt k v)).map (·.2.2) = (es.map (·.2.2)).set i v
  | [], _, _, _, _, h => by simp at h
  | e :: es, k, v, 0, nd, h => by
    have h : e.1 = k := by simpa using h
    rw [List.map_cons] at nd
    obtain ⟨n1, n2⟩ := List.nodup_cons.mp nd
    simp only [List.map_cons, List.set_cons_zero]
    congr 1
    · unfold putAt; rw [if_pos h]
    · rw [List.map_map]
      refine List.map_congr_left fun x hx => ?_
      have : x.1 ≠ k := fun z => n1 (by rw [h, ← z]; exact List.mem_map.mpr ⟨x, hx, rfl⟩)
      show (putAt k v x).2.2 = x.2.2
      unfold putAt
      rw [if_neg this]
  | e :: es, k, v, i + 1, nd, h => by
    rw [List.map_cons] at nd
    obtain ⟨n1, n2⟩ := List.nodup_cons.mp nd
    have hi : (es.map (·.1))[i]? = some k := by simpa using h
    have ne : e.1 ≠ k := fun z => n1 (z ▸ List.mem_of_getElem? hi)
    simp only [List.map_cons, List.set_cons_succ]
    congr 1
    · unfold putAt; rw [if_neg ne]
    · exact put_vals n2 hi
theorem Vals.app : ∀ {xs : List V} {us : List Value} {v : V} {u : Value}, Vals xs us → RelV v u → Vals (xs ++ [v]) (us ++ [u])
  | _, _, v, u, .nil, r => .cons r .nil
  | _, _, v, u, .cons h t, r => .cons h (Vals.app t r)
theorem t_setItem {A : Around} {E : Value → Shared → Prop} {H' : Hp} {v : V} {r : Value} {Q : Unit → Shared → Prop} (hu : A.units + 1 < cLine) (I : Inv X pins σ H s) (g : TPut X.K H a b v H') (rv : RelV v r) (h : ∀ s', Inv X pins σ H' s' → Q () s') :
    wpAny (model X.prog X.w) A (setItem (.ref a) (.ref b) r) Q E s := by
  obtain ⟨k, ks, bs, xs, hb, ha, hk, g⟩ := g
  obtain ⟨d1, es, d0, e1, e2, e3, dd⟩ := dto_get I (.inl ha) hk
  subst e1 e2
  refine wpAny_setItem_heap (hsz := d0) (hu) (tup_key I hb) dd fun h' dd' hs => h _ ?_
  obtain ⟨q, ar, ep, hq, h2, h3, h4, _, h5⟩ := dd'
  rcases g with ⟨i, hi, rfl⟩ | ⟨hn, hl, rfl⟩
  · obtain ⟨p, h1, _⟩ := atKey_some dd.nodup hi
    rw [storedH_old h1] at h4 h5
    obtain ⟨k1, k2⟩ := put_keys (es := es) (k := k) (v := r)
    refine d_write I (by rw [ha]; exact True.intro) hs ⟨q, hq⟩ (dto_new ⟨es.map (putAt k r), k1, k2, ?_, d1, by rw [List.length_map]; exact d0, q, ar, ep, hq, h2, h3, h4, h5⟩)
    rw [put_vals dd.nodup hi]
    exact e3.setV rv
  · have hn' : atKey es k = none := by
      cases c : atKey es k with
      | none => rfl
      | some p =>
        have := atKey_isSome (es := es) (k := k)
        rw [c] at this
        exact absurd (of_decide_eq_true this.symm) hn
    rw [storedH_new hn'] at h4 h5
    refine d_write I (by rw [ha]; exact True.intro) hs ⟨q, hq⟩ (dto_new ⟨es ++ [(k, b, r)], by simp, by simp, ?_, d1, ?_, q, ar, ep, hq, h2, h3, h4, h5⟩)
    · rw [List.map_append]
      exact e3.app rv
    · rw [List.length_append]
      simp only [List.length_map] at hl
      simp only [List.length_cons, List.length_nil]
      omega
/-- list(d) -/
def rListT (K : PySem.W.Frag) : List V → Hp → VK → Prop := fun vs H Q => ∃ (a : Addr) (ks : List (List Int)) (bs : List Addr) (xs : List V), vs = [.ref a] ∧ RdT H a ks bs xs ∧ KeysAt K H ks bs ∧ ∀ p, H p = none → Q (.ref p) (upd H p (.lst (bs.map V.ref)))
theorem call_list_T (hc : X.calm = true) : CallR X (.type "list") (rListT X.K) := by
  intro pins s σ H vs us Q I r ⟨a, ks, bs, xs, e, ha, hk, q⟩
  subst e
  obtain ⟨u, rfl, rx⟩ := r.one
  cases rx
  obtain ⟨d1, es, d0, e1, e2, e3, dd⟩ := dto_get I ha hk
  obtain ⟨o, ar, ep, ho, hx, hdt, he, _, hn⟩ := dd
  have l1 : ar.size = es.length := size_of_entries he
  refine PySem.W.kdl_call (kdl_raw d1 hx hdt) (I.ok.hd hc) ho (by omega) fun h' tk acc' c' kp e it => ?_
  have ea : acc'.toList = es.map fun x => Value.ref x.2.1 := by
    have hl : acc'.toList.length = es.length := by rw [Array.length_toList, it.1]; exact l1
    apply List.ext_getElem?
    intro j
    rw [List.getElem?_map]
    cases hj : acc'.toList[j]? with
    | none =>
      have h1 := List.getElem?_eq_none_iff.mp hj
      rw [List.getElem?_eq_none (by omega)]
      all_goals rfl
    | some v =>
      obtain ⟨en, hen, hv⟩ := it.2 j v (by rw [← Array.getElem?_toList]; exact hj)
      have qe := entry_at he j
      rw [hen] at qe
      cases hb : es[j]? with
      | none =>
        rw [hb] at qe
        exact nomatch (show some en = none from qe)
      | some b =>
        rw [hb] at qe
        have e2 : en = tent b := Option.some.inj qe
        rw [hv, e2]
        all_goals rfl
  have lb : bs.length = es.length := by rw [← e2, List.length_map]
  refine ⟨.ref s.heap.objs.size, upd H s.heap.objs.size (.lst (bs.map V.ref)), I.laid kp (Nat.le_refl _) (show ObjOk X.prog X.w _ _ _ (.lst (bs.map V.ref)) from ⟨by rw [List.length_map]; omega, acc'.toList, c', ?_, ?_⟩), rfl, q _ (I.hok.fresh (Nat.le_refl _))⟩
  · rw [ea, ← e2, List.map_map]
    have : ∀ l : List TEnt, Vals (l.map (V.ref ∘ fun x => x.2.1)) (l.map fun x => Value.ref x.2.1) := by
      intro l
      induction l with
      | nil => exact .nil
      | cons x l ih => exact .cons rfl ih
    exact this es
  · rw [Array.toArray_toList]; exact e
end
end L2
namespace PV
open PySem PySem.Spec PyProof.Rows L2
structure Tx where
  mg : Str → Option Value
  K : PySem.W.Frag
  w : World
def _root_.L2.Cx.tx (X : Cx) : Tx := ⟨X.mg, X.K, X.w⟩
/-! ## pure data -/
inductive D where
  | non | bl (b : Bool) | int (i : Int) | str (x : Str)
  | lst (xs : List D) | tup (xs : List D) | tupU (xs : List D)
  | dic (ks : List Key) (ds : List D)
  | dicT (ks : List (List Int)) (ds : List D)
  | set (is : List Int)
  | obj (c : Str) (ns : List Str) (ds : List D)
def SetIs (S : Int → Bool) (n : Nat) (is : List Int) : Prop := is.Nodup ∧ n = is.length ∧ ∀ i, S i = decide (i ∈ is)
/-- each key's tuple stands, without a dict -/
inductive KeysN (K : PySem.W.Frag) (G : Hp) : List (List Int) → List Addr → Prop
  | nil : KeysN K G [] []
  | cons {k : List Int} {ks : List (List Int)} {b : Addr} {bs : List Addr} : SqN K G b (k.map V.int) → KeysN K G ks bs → KeysN K G (k :: ks) (b :: bs)
section
variable (T : Tx)
mutual
inductive Dat (G : Hp) : V → D → Prop
  | non : Dat G .non .non
  | bl (b : Bool) : Dat G (.bl b) (.bl b)
  | int (i : Int) : Dat G (.int i) (.int i)
  | str (x : Str) : Dat G (.str x) (.str x)
  | lst {a : Addr} {xs : List V} {ds : List D} : SqL T.K G a xs → DatAll G xs ds → Dat G (.ref a) (.lst ds)
  | tup {a : Addr} {xs : List V} {ds : List D} : SqN T.K G a xs → DatAll G xs ds → Dat G (.ref a) (.tup ds)
  | tupU {a : Addr} {xs : List V} {ds : List D} : SqT T.K G a xs → DatAll G xs ds → Dat G (.ref a) (.tupU ds)
  | dic {a : Addr} {ks : List Key} {xs : List V} {ds : List D} : G a = some (.dK (ks.zip xs)) → xs.length = ks.length → DatAll G xs ds → Dat G (.ref a) (.dic ks ds)
  | dicT {a : Addr} {ks : List (List Int)} {bs : List Addr} {xs : List V} {ds : List D} : G a = some (DTO a ks bs xs) → xs.length = ks.length → KeysN T.K G ks bs → DatAll G xs ds → Dat G (.ref a) (.dicT ks ds)
  | set {a : Addr} {S : Int → Bool} {n : Nat} {is : List Int} : G a = some (SetO T.w a S n) → SetIs S n is → Dat G (.ref a) (.set is)
  | obj {a C dx : Addr} {c : Str} {ns : List Str} {xs : List V} {ds : List D} : T.mg c = some (.ref C) → G a = some (.ins C dx (ns.zip xs)) → xs.length = ns.length → DatAll G xs ds → Dat G (.ref a) (.obj c ns ds)
inductive DatAll (G : Hp) : List V → List D → Prop
  | nil : DatAll G [] []
  | cons {v : V} {vs : List V} {d : D} {ds : List D} : Dat G v d → DatAll G vs ds → DatAll G (v :: vs) (d :: ds)
end
end
def Le (G G' : Hp) : Prop := ∀ a o, G a = some o → G' a = some o
theorem Le.refl (G : Hp) : Le G G := fun _ _ h => h
theorem Le.trans {A B C : Hp} (a : Le A B) (b : Le B C) : Le A C := fun x o h => b x o (a x o h)
theorem Le.upd {G : Hp} {p : Addr} {o : HO} (h : G p = none) : Le G (upd G p o) := fun a u e => by rw [upd_ne (ne_of_none e h)]; exact e
/-- a dict that may be walked -/
inductive LkT (a : Addr) where
  | dk (kvs : List (Key × V))
  | dt (ks : List (List Int)) (bs : List Addr) (xs : List V) (wit : ∃ (h : Heap) (es : List TEnt), es.map (·.1) = ks ∧ es.map (·.2.1) = bs ∧ Vals xs (es.map (·.2.2)) ∧ DTR h a es)
def LkT.ho {a : Addr} : LkT a → HO
  | .dk kvs => .dK kvs
  | .dt ks bs xs _ => DTO a ks bs xs
/-- o is a dict that is walked -/
def LockOf (o : HO) (H : Hp) (a : Addr) : Prop := ∃ (ob : Obj) (k : LkT a), o = k.ho ∧ H a = some (.frz ob o)
theorem LkT.no_lst {a : Addr} {k : LkT a} {xs : List V} (h : HO.lst xs = k.ho) : False := by cases k <;> cases h
theorem LkT.no_tup {a : Addr} {k : LkT a} {xs : List V} (h : HO.tup xs = k.ho) : False := by cases k <;> cases h
theorem LkT.no_frz {a : Addr} {k : LkT a} {ob : Obj} {o : HO} (h : HO.frz ob o = k.ho) : False := by cases k <;> cases h
theorem LkT.no_ins {a : Addr} {k : LkT a} {C dx : Addr} {fs : List (Str × V)} (h : HO.ins C dx fs = k.ho) : False := by cases k <;> cases h
theorem LkT.no_xd {a : Addr} {k : LkT a} {fs : List (Str × V)} (h : HO.xd fs = k.ho) : False := by cases k <;> cases h
theorem LkT.no_set {w : World} {a : Addr} {k : LkT a} {S : Int → Bool} {n : Nat} (h : SetO w a S n = k.ho) : False := by
  cases k with
  | dk kvs => cases h
  | dt ks bs xs wit =>
    obtain ⟨hp, es, e⟩ := wit
    unfold SetO LkT.ho DTO at h
    injection h with h
    have q := congrFun h hp
    have R : SetR w hp a S n := cast q.symm ⟨es, e⟩
    obtain ⟨o, _, _, _, ho, _, hd, _⟩ := R
    obtain ⟨_, _, _, _, _, o', ar, ep, ho', _, hd', _⟩ := e
    rw [ho] at ho'
    cases ho'
    rw [hd] at hd'
    cases hd'
def Sub (G H : Hp) : Prop := ∀ a o, G a = some o → H a = some o ∨ LockOf o H a
theorem Sub.seqL {K : PySem.W.Frag} {G H : Hp} (s : Sub G H) {a : Addr} {xs : List V} (h : SqL K G a xs) : SqL K H a xs := by
  rcases h with (h | ⟨o, h⟩) | h
  · rcases s _ _ h with h | ⟨_, _, e, _⟩
    · exact .inl (.inl h)
    · exact (LkT.no_lst e).elim
  · rcases s _ _ h with h | ⟨_, _, e, _⟩
    · exact .inl (.inr ⟨o, h⟩)
    · exact (LkT.no_frz e).elim
  · exact .inr h
theorem Sub.seqT {K : PySem.W.Frag} {G H : Hp} (s : Sub G H) {a : Addr} {xs : List V} (h : SqT K G a xs) : SqT K H a xs := by
  rcases h with (h | ⟨o, h⟩) | h
  · rcases s _ _ h with h | ⟨_, _, e, _⟩
    · exact .inl (.inl h)
    · exact (LkT.no_tup e).elim
  · rcases s _ _ h with h | ⟨_, _, e, _⟩
    · exact .inl (.inr ⟨o, h⟩)
    · exact (LkT.no_frz e).elim
  · exact .inr h
theorem Sub.seqN {K : PySem.W.Frag} {G H : Hp} (s : Sub G H) {a : Addr} {xs : List V} (h : SqN K G a xs) : SqN K H a xs := by
  rcases h with ⟨o, h, n⟩ | h
  · rcases s _ _ h with h | ⟨_, _, e, _⟩
    · exact .inl ⟨o, h, n⟩
    · obtain ⟨ob, e2, _⟩ := n
      rw [e2] at e
      exact (LkT.no_frz e).elim
  · exact .inr h
theorem le_seqN {K : PySem.W.Frag} {G H : Hp} (s : Le G H) {a : Addr} {xs : List V} (h : SqN K G a xs) : SqN K H a xs := Sub.seqN (fun a o e => .inl (s a o e)) h
theorem le_seqL {K : PySem.W.Frag} {G H : Hp} (s : Le G H) {a : Addr} {xs : List V} (h : SqL K G a xs) : SqL K H a xs := Sub.seqL (fun a o e => .inl (s a o e)) h
theorem le_seqT {K : PySem.W.Frag} {G H : Hp} (s : Le G H) {a : Addr} {xs : List V} (h : SqT K G a xs) : SqT K H a xs := Sub.seqT (fun a o e => .inl (s a o e)) h
theorem KeysN.mono {K : PySem.W.Frag} {G H : Hp} (f : ∀ {b : Addr} {xs : List V}, SqN K G b xs → SqN K H b xs) : ∀ {ks : List (List Int)} {bs : List Addr}, KeysN K G ks bs → KeysN K H ks bs
  | _, _, .nil => .nil
  | _, _, .cons g t => .cons (f g) (t.mono f)
theorem KeysN.at {K : PySem.W.Frag} {G : Hp} : ∀ {ks : List (List Int)} {bs : List Addr}, KeysN K G ks bs → KeysAt K G ks bs
  | _, _, .nil => .nil
  | _, _, .cons g t => .cons g.t t.at
theorem KeysN.append {K : PySem.W.Frag} {G : Hp} : ∀ {ks : List (List Int)} {bs : List Addr} {k : List Int} {b : Addr}, KeysN K G ks bs → SqN K G b (k.map V.int) → KeysN K G (ks ++ [k]) (bs ++ [b])
  | _, _, _, _, .nil, h => .cons h .nil
  | _, _, _, _, .cons g t, h => .cons g (t.append h)
section
variable {T : Tx} {G G' H H' : Hp}
mutual
theorem Dat.mono (s : Le G G') : ∀ {v : V} {d : D}, Dat T G v d → Dat T G' v d
  | _, _, .non => .non
  | _, _, .bl b => .bl b
  | _, _, .int i => .int i
  | _, _, .str x => .str x
  | _, _, .lst h t => .lst (le_seqL s h) (DatAll.mono s t)
  | _, _, .tup h t => .tup (le_seqN s h) (DatAll.mono s t)
  | _, _, .tupU h t => .tupU (le_seqT s h) (DatAll.mono s t)
  | _, _, .dic h e t => .dic (s _ _ h) e (DatAll.mono s t)
  | _, _, .dicT h e k t => .dicT (s _ _ h) e (k.mono (le_seqN s)) (DatAll.mono s t)
  | _, _, .set h e => .set (s _ _ h) e
  | _, _, .obj m h e t => .obj m (s _ _ h) e (DatAll.mono s t)
theorem DatAll.mono (s : Le G G') : ∀ {vs : List V} {ds : List D}, DatAll T G vs ds → DatAll T G' vs ds
  | _, _, .nil => .nil
  | _, _, .cons h t => .cons (Dat.mono s h) (DatAll.mono s t)
end
theorem DatAll.length : ∀ {vs : List V} {ds : List D}, DatAll T G vs ds → vs.length = ds.length
  | _, _, .nil => rfl
  | _, _, .cons _ t => congrArg (· + 1) (DatAll.length t)
theorem DatAll.append : ∀ {vs ws : List V} {ds es : List D}, DatAll T G vs ds → DatAll T G ws es → DatAll T G (vs ++ ws) (ds ++ es)
  | _, _, _, _, .nil, h => h
  | _, _, _, _, .cons h t, u => .cons h (DatAll.append t u)
theorem DatAll.get : ∀ {vs : List V} {ds : List D} {i : Nat} {d : D}, DatAll T G vs ds → ds[i]? = some d → ∃ v, vs[i]? = some v ∧ Dat T G v d
  | _, _, _, _, .nil, e => by simp at e
  | _, _, 0, _, .cons h _, e => by simp at e; subst e; exact ⟨_, rfl, h⟩
  | _, _, i + 1, d, .cons _ t, e => by
    obtain ⟨v, h1, h2⟩ := DatAll.get (i := i) (d := d) t (by simpa using e)
    exact ⟨v, by simpa using h1, h2⟩
theorem DatAll.getV : ∀ {vs : List V} {ds : List D} {i : Nat} {v : V}, DatAll T G vs ds → vs[i]? = some v → ∃ d, ds[i]? = some d ∧ Dat T G v d
  | _, _, _, _, .nil, e => by simp at e
  | _, _, 0, _, .cons h _, e => by simp at e; subst e; exact ⟨_, rfl, h⟩
  | _, _, i + 1, d, .cons _ t, e => by
    obtain ⟨v, h1, h2⟩ := DatAll.getV (i := i) (v := d) t (by simpa using e)
    exact ⟨v, by simpa using h1, h2⟩
theorem DatAll.set {v : V} {d : D} (r : Dat T G v d) : ∀ {vs : List V} {ds : List D} (i : Nat), DatAll T G vs ds → DatAll T G (vs.set i v) (ds.set i d)
  | _, _, _, .nil => .nil
  | _, _, 0, .cons _ t => .cons r t
  | _, _, i + 1, .cons q t => .cons q (DatAll.set r i t)
theorem DatAll.take : ∀ {vs : List V} {ds : List D} (n : Nat), DatAll T G vs ds → DatAll T G (vs.take n) (ds.take n)
  | _, _, 0, _ => .nil
  | _, _, _ + 1, .nil => .nil
  | _, _, n + 1, .cons r t => .cons r (DatAll.take n t)
theorem DatAll.drop : ∀ {vs : List V} {ds : List D} (n : Nat), DatAll T G vs ds → DatAll T G (vs.drop n) (ds.drop n)
  | _, _, 0, r => r
  | _, _, _ + 1, .nil => .nil
  | _, _, n + 1, .cons _ t => DatAll.drop n t
theorem DatAll.rev : ∀ {vs : List V} {ds : List D}, DatAll T G vs ds → DatAll T G vs.reverse ds.reverse
  | _, _, .nil => .nil
  | _, _, .cons r t => by
    rw [List.reverse_cons, List.reverse_cons]
    exact DatAll.append (DatAll.rev t) (.cons r .nil)
end
/-- a container that stands at p, its items frozen -/
def Ob (T : Tx) (G H : Hp) (p : Addr) : D → Prop
  | .lst ds => ∃ xs, H p = some (.lst xs) ∧ DatAll T G xs ds
  | .dic ks ds => ∃ xs, H p = some (.dK (ks.zip xs)) ∧ xs.length = ks.length ∧ DatAll T G xs ds
  | .dicT ks ds => ∃ bs xs, H p = some (DTO p ks bs xs) ∧ xs.length = ks.length ∧ KeysN T.K G ks bs ∧ DatAll T G xs ds
  | .set is => ∃ S n, H p = some (SetO T.w p S n) ∧ SetIs S n is
  | .obj c ns ds => ∃ C dx xs, T.mg c = some (.ref C) ∧ H p = some (.ins C dx (ns.zip xs)) ∧ xs.length = ns.length ∧ DatAll T G xs ds
  | _ => False
/-- what is read: its own object in H, what is in it in G -/
def Top (T : Tx) (G H : Hp) (v : V) : D → Prop
  | .lst ds => ∃ a xs, v = .ref a ∧ SqL T.K H a xs ∧ DatAll T G xs ds
  | .dic ks ds => ∃ a xs, v = .ref a ∧ Rd H a (.dK (ks.zip xs)) ∧ xs.length = ks.length ∧ DatAll T G xs ds
  | .dicT ks ds => ∃ a bs xs, v = .ref a ∧ RdT H a ks bs xs ∧ xs.length = ks.length ∧ KeysN T.K G ks bs ∧ DatAll T G xs ds
  | .set is => ∃ a S n, v = .ref a ∧ H a = some (SetO T.w a S n) ∧ SetIs S n is
  | .non => Dat T G v .non
  | .bl b => Dat T G v (.bl b)
  | .int i => Dat T G v (.int i)
  | .str x => Dat T G v (.str x)
  | .tup ds => Dat T G v (.tup ds)
  | .tupU ds => Dat T G v (.tupU ds)
  | .obj c ns ds => ∃ a C dx xs, v = .ref a ∧ T.mg c = some (.ref C) ∧ H a = some (.ins C dx (ns.zip xs)) ∧ xs.length = ns.length ∧ DatAll T G xs ds
section
variable {T : Tx} {G G' H H' : Hp} {p : Addr} {v : V} {d : D}
theorem Ob.mono (s : Le G G') (e : H' p = H p) (h : Ob T G H p d) : Ob T G' H' p d := by
  cases d with
  | lst ds => obtain ⟨xs, h1, h2⟩ := h; exact ⟨xs, e.trans h1, h2.mono s⟩
  | dic ks ds => obtain ⟨xs, h1, h2, h3⟩ := h; exact ⟨xs, e.trans h1, h2, h3.mono s⟩
  | dicT ks ds => obtain ⟨bs, xs, h1, h2, h3, h4⟩ := h; exact ⟨bs, xs, e.trans h1, h2, h3.mono (le_seqN s), h4.mono s⟩
  | set is => obtain ⟨S, n, h1, h2⟩ := h; exact ⟨S, n, e.trans h1, h2⟩
  | obj c ns ds => obtain ⟨C, dx, xs, h1, h2, h3, h4⟩ := h; exact ⟨C, dx, xs, h1, e.trans h2, h3, h4.mono s⟩
  | _ => exact h.elim
theorem Ob.some (h : Ob T G H p d) : ∃ o, H p = Option.some o := by
  cases d with
  | lst ds => obtain ⟨xs, h1, h2⟩ := h; exact ⟨_, h1⟩
  | dic ks ds => obtain ⟨xs, h1, h2, h3⟩ := h; exact ⟨_, h1⟩
  | dicT ks ds => obtain ⟨bs, xs, h1, h2, h3, h4⟩ := h; exact ⟨_, h1⟩
  | set is => obtain ⟨S, n, h1, h2⟩ := h; exact ⟨_, h1⟩
  | obj c ns ds => obtain ⟨C, dx, xs, h1, h2, h3, h4⟩ := h; exact ⟨_, h2⟩
  | _ => exact h.elim
theorem Ob.top (h : Ob T G H p d) : Top T G H (.ref p) d := by
  cases d with
  | lst ds => obtain ⟨xs, h1, h2⟩ := h; exact ⟨p, xs, rfl, SqL.of h1, h2⟩
  | dic ks ds => obtain ⟨xs, h1, h2, h3⟩ := h; exact ⟨p, xs, rfl, .inl h1, h2, h3⟩
  | dicT ks ds => obtain ⟨bs, xs, h1, h2, h3, h4⟩ := h; exact ⟨p, bs, xs, rfl, .inl h1, h2, h3, h4⟩
  | set is => obtain ⟨S, n, h1, h2⟩ := h; exact ⟨p, S, n, rfl, h1, h2⟩
  | obj c ns ds => obtain ⟨C, dx, xs, h1, h2, h3, h4⟩ := h; exact ⟨p, C, dx, xs, rfl, h1, h2, h3, h4⟩
  | _ => exact h.elim
/-- it is given away: it stays as it is from now on -/
theorem Ob.freeze {o : HO} (h : Ob T G H p d) (hp : G p = none) (e : H p = Option.some o) : Dat T (upd G p o) (.ref p) d := by
  have s : Le G (upd G p o) := Le.upd hp
  cases d with
  | lst ds => obtain ⟨xs, h1, h2⟩ := h; rw [h1] at e; cases e; exact .lst (SqL.of upd_same) (h2.mono s)
  | dic ks ds => obtain ⟨xs, h1, h2, h3⟩ := h; rw [h1] at e; cases e; exact .dic upd_same h2 (h3.mono s)
  | dicT ks ds => obtain ⟨bs, xs, h1, h2, h3, h4⟩ := h; rw [h1] at e; cases e; exact .dicT upd_same h2 (h3.mono (le_seqN s)) (h4.mono s)
  | set is => obtain ⟨S, n, h1, h2⟩ := h; rw [h1] at e; cases e; exact .set upd_same h2
  | obj c ns ds => obtain ⟨C, dx, xs, h1, h2, h3, h4⟩ := h; rw [h2] at e; cases e; exact .obj h1 upd_same h3 (h4.mono s)
  | _ => exact h.elim
theorem Dat.top (s : Sub G H) (h : Dat T G v d) : Top T G H v d := by
  cases h with
  | non => exact .non
  | bl b => exact .bl b
  | int i => exact .int i
  | str x => exact .str x
  | lst h t => exact ⟨_, _, rfl, s.seqL h, t⟩
  | tup h t => exact .tup h t
  | tupU h t => exact .tupU h t
  | dic h e t =>
    refine ⟨_, _, rfl, ?_, e, t⟩
    rcases s _ _ h with q | ⟨ob, _, _, q⟩
    · exact .inl q
    · exact .inr ⟨ob, q⟩
  | dicT h e k t =>
    rcases s _ _ h with q | ⟨ob, _, _, q⟩
    · exact ⟨_, _, _, rfl, .inl q, e, k, t⟩
    · exact ⟨_, _, _, rfl, .inr ⟨ob, q⟩, e, k, t⟩
  | set h e =>
    rcases s _ _ h with q | ⟨_, _, q, _⟩
    · exact ⟨_, _, _, rfl, q, e⟩
    · exact (LkT.no_set q).elim
  | obj m h e t =>
    rcases s _ _ h with q | ⟨_, _, q, _⟩
    · exact ⟨_, _, _, _, rfl, m, q, e, t⟩
    · exact (LkT.no_ins q).elim
end
/-! ## slots, results -/
inductive Sl where
  | any | frz (d : D) | own (d : D) | ref (d : D) | exc (f : Str) (d : D) | par (d : D) | fre (c : Option Nat) (d : D)
abbrev Rho := List Sl
inductive R where
  | dat (d : D) | new (d : D) | loc (i : Nat) | fre (c : Option Nat) (d : D)
structure Exn where
  c : Str
  d : D
/-- what stands fixed through a body: the heap and the frozen part at its entry, the parameters that may be changed, the caught error -/
structure Fm where
  H0 : Hp
  G0 : Hp
  refs : List (Nat × Addr)
  ex : Option (Nat × Addr × Addr) := none
  lk : List (Addr × HO) := []
/-- a list that was not frozen at the entry: v itself, or the item c of the tuple v -/
def Fr (T : Tx) (F : Fm) (G : Hp) (v : V) (d : D) : Option Nat → Prop
  | none => ∃ l ys es, v = .ref l ∧ d = .lst es ∧ G l = some (.lst ys) ∧ DatAll T G ys es ∧ F.G0 l = none
  | some c => ∃ t o xs ds l ys es, v = .ref t ∧ d = .tup ds ∧ G t = some o ∧ Nt o xs ∧ DatAll T G xs ds ∧ xs[c]? = some (.ref l) ∧ ds[c]? = some (.lst es) ∧ G l = some (.lst ys) ∧ DatAll T G ys es ∧ F.G0 t = none ∧ F.G0 l = none
theorem Fr.mono {T : Tx} {F : Fm} {G G' : Hp} {v : V} {d : D} (s : Le G G') : ∀ {c : Option Nat}, Fr T F G v d c → Fr T F G' v d c
  | none, ⟨l, ys, es, a, b, c, d, e⟩ => ⟨l, ys, es, a, b, s _ _ c, d.mono s, e⟩
  | some _, ⟨t, o, xs, ds, l, ys, es, a, b, c, d, e, f, g, h, i, j, k⟩ => ⟨t, o, xs, ds, l, ys, es, a, b, s _ _ c, d, e.mono s, f, g, s _ _ h, i.mono s, j, k⟩
def SlOk (T : Tx) (F : Fm) (G : Hp) (σ : L2.St) (H : Hp) (i : Nat) : Sl → Prop
  | .any => True
  | .frz d => ∃ v, σ[i]? = some (some v) ∧ Dat T G v d
  | .own d => ∃ p, σ[i]? = some (some (.ref p)) ∧ G p = none ∧ F.H0 p = none ∧ Ob T G H p d
  | .ref d => ∃ p, σ[i]? = some (some (.ref p)) ∧ (i, p) ∈ F.refs ∧ G p = none ∧ Ob T G H p d
  | .par d => ∃ v, σ[i]? = some (some v) ∧ Dat T F.G0 v d
  | .fre c d => ∃ v, σ[i]? = some (some v) ∧ Dat T G v d ∧ Fr T F G v d c
  | .exc f d => ∃ a dd v, F.ex = some (i, a, dd) ∧ σ[i]? = some (some (.ref a)) ∧ H dd = some (.xd [(f, v)]) ∧ Dat T G v d
/-- the slot's own object may change -/
def Sl.mut : Sl → Bool
  | .own _ => true
  | .ref _ => true
  | _ => false
structure Rel (T : Tx) (F : Fm) (pd : List (Addr × D)) (G : Hp) (ρ : Rho) (σ : L2.St) (H : Hp) : Prop where
  len : ρ.length = σ.length
  sub : Sub G H
  old : Le F.G0 G
  new : ∀ a o, F.G0 a = none → G a = some o → F.H0 a = none
  keep : ∀ a o, F.H0 a = some o → a ∉ F.refs.map (·.2) → H a = some o ∨ (F.G0 a = some o ∧ LockOf o H a)
  slot : ∀ (i : Nat) (s : Sl), ρ[i]? = some s → SlOk T F G σ H i s
  apart : ∀ (i j : Nat) (s t : Sl) (p : Addr), ρ[i]? = some s → ρ[j]? = some t → s.mut = true → t.mut = true → σ[i]? = some (some (.ref p)) → σ[j]? = some (some (.ref p)) → i = j
  pds : ∀ q ∈ pd, G q.1 = none ∧ F.H0 q.1 = none ∧ Ob T G H q.1 q.2
  pnd : (pd.map (·.1)).Nodup
  pap : ∀ (i : Nat) (s : Sl), ρ[i]? = some s → s.mut = true → ∀ q ∈ pd, σ[i]? ≠ some (some (.ref q.1))
  lck : ∀ q ∈ F.lk, H q.1 = some q.2 ∧ G q.1 ≠ none ∧ ∃ ob u, q.2 = .frz ob u
  rfs : ∀ q ∈ F.refs, σ[q.1]? = some (some (.ref q.2)) ∧ ∃ d, ρ[q.1]? = some (.ref d)
end PV
namespace PV
open PySem PySem.Spec PyProof.Rows L2
/-- new objects alone, some of them frozen at once -/
structure Grow (G H G' H' : Hp) : Prop where
  le : Le G G'
  same : Same H H'
  new : ∀ a o, G' a = some o → G a = none → H a = none ∧ H' a = some o
theorem Grow.refl (G H : Hp) : Grow G H G H := ⟨Le.refl _, Same.refl _, fun a o e n => by rw [n] at e; cases e⟩
theorem Grow.laid {G H : Hp} {p : Addr} {o : HO} (h : H p = none) : Grow G H G (upd H p o) := ⟨Le.refl _, fun a u e => by rw [upd_ne (ne_of_none e h)]; exact e, fun a o e n => by rw [n] at e; cases e⟩
section
variable {T : Tx} {F : Fm} {pd : List (Addr × D)} {G G' H H' : Hp} {ρ : Rho} {σ : L2.St} {p : Addr} {d d' : D} {v : V} {i : Nat} {o : HO}
theorem Sub.none {G H : Hp} (s : Sub G H) {a : Addr} (h : H a = none) : G a = none := by
  cases q : G a with
  | none => rfl
  | some o =>
    rcases s _ _ q with z | ⟨_, _, _, z⟩
    · rw [h] at z; cases z
    · rw [h] at z; cases z
theorem Grow.laidF {G H : Hp} {p : Addr} {o : HO} (s : Sub G H) (h : H p = none) : Grow G H (upd G p o) (upd H p o) :=
  ⟨Le.upd (s.none h), fun a u e => by rw [upd_ne (ne_of_none e h)]; exact e, fun a u e n => by
    by_cases q : a = p
    · subst q
      rw [upd_same] at e
      exact ⟨h, by rw [upd_same]; exact e⟩
    · rw [upd_ne q, n] at e; cases e⟩
theorem Rel.h0 (R : Rel T F pd G ρ σ H) {a : Addr} (h : H a = none) : F.H0 a = none := by
  cases q : F.H0 a with
  | none => rfl
  | some o =>
    by_cases m : a ∈ F.refs.map (·.2)
    · obtain ⟨⟨j, b⟩, hm, e⟩ := List.mem_map.mp m
      have e : b = a := e
      subst e
      obtain ⟨e1, d, e2⟩ := R.rfs _ hm
      obtain ⟨p, e3, _, _, ob⟩ := R.slot _ _ e2
      rw [e1] at e3
      cases e3
      obtain ⟨o', e4⟩ := ob.some
      rw [h] at e4; cases e4
    · rcases R.keep a o q m with z | ⟨_, _, _, _, z⟩
      · rw [h] at z; cases z
      · rw [h] at z; cases z
theorem SlOk.grow (g : Grow G H G' H') {s : Sl} (h : SlOk T F G σ H i s) : SlOk T F G' σ H' i s := by
  have k : ∀ {p : Addr} {d : D}, G p = none → Ob T G H p d → G' p = none ∧ Ob T G' H' p d := fun {p d} n ob => by
    obtain ⟨o, e⟩ := ob.some
    refine ⟨?_, ob.mono g.le ((g.same _ _ e).trans e.symm)⟩
    cases q : G' p with
    | none => rfl
    | some u =>
      have := (g.new _ _ q n).1
      rw [e] at this; cases this
  cases s with
  | any => trivial
  | frz d => obtain ⟨v, e, h⟩ := h; exact ⟨v, e, h.mono g.le⟩
  | par d => obtain ⟨v, e, h⟩ := h; exact ⟨v, e, h⟩
  | fre c d => obtain ⟨v, e, h, f⟩ := h; exact ⟨v, e, h.mono g.le, f.mono g.le⟩
  | own d => obtain ⟨p, e, n, z, ob⟩ := h; exact ⟨p, e, (k n ob).1, z, (k n ob).2⟩
  | ref d => obtain ⟨p, e, z, n, ob⟩ := h; exact ⟨p, e, z, (k n ob).1, (k n ob).2⟩
  | exc f d => obtain ⟨a, dd, v, e1, e2, e3, e4⟩ := h; exact ⟨a, dd, v, e1, e2, g.same _ _ e3, e4.mono g.le⟩
theorem Rel.grow (R : Rel T F pd G ρ σ H) (g : Grow G H G' H') : Rel T F pd G' ρ σ H' where
  len := R.len
  sub := fun a o e => by
    cases q : G a with
    | none => exact .inl (g.new a o e q).2
    | some u =>
      have := g.le _ _ q
      rw [e] at this
      cases this
      rcases R.sub _ _ q with z | ⟨ob, kvs, e1, z⟩
      · exact .inl (g.same _ _ z)
      · exact .inr ⟨ob, kvs, e1, g.same _ _ z⟩
  old := R.old.trans g.le
  new := fun a o n e => by
    cases q : G a with
    | some u => exact R.new a u n q
    | none => exact R.h0 (g.new a o e q).1
  keep := fun a o e m => by
    rcases R.keep a o e m with z | ⟨z0, ob, kvs, e1, z⟩
    · exact .inl (g.same _ _ z)
    · exact .inr ⟨z0, ob, kvs, e1, g.same _ _ z⟩
  slot := fun i s e => (R.slot i s e).grow g
  apart := R.apart
  pds := fun q hq => by
    obtain ⟨n, z, ob⟩ := R.pds q hq
    obtain ⟨o, e⟩ := ob.some
    refine ⟨?_, z, ob.mono g.le ((g.same _ _ e).trans e.symm)⟩
    cases w : G' q.1 with
    | none => rfl
    | some u =>
      have := (g.new _ _ w n).1
      rw [e] at this; cases this
  pnd := R.pnd
  pap := R.pap
  lck := fun q hq => ⟨g.same _ _ (R.lck q hq).1, (fun z => by
    cases w : G q.1 with
    | none => exact (R.lck q hq).2.1 w
    | some o => have := g.le _ _ w; rw [z] at this; cases this), (R.lck q hq).2.2⟩
  rfs := R.rfs
/-- where a slot's own object stands -/
theorem Rel.mutOb (R : Rel T F pd G ρ σ H) {s : Sl} (e : ρ[i]? = some s) (m : s.mut = true) : ∃ p d, σ[i]? = some (some (.ref p)) ∧ G p = none ∧ Ob T G H p d ∧ (s = .own d ∧ F.H0 p = none ∨ s = .ref d ∧ (i, p) ∈ F.refs) := by
  have h := R.slot i s e
  cases s with
  | own d => obtain ⟨p, e, n, z, ob⟩ := h; exact ⟨p, d, e, n, ob, .inl ⟨rfl, z⟩⟩
  | ref d => obtain ⟨p, e, z, n, ob⟩ := h; exact ⟨p, d, e, n, ob, .inr ⟨rfl, z⟩⟩
  | any => cases m
  | frz _ => cases m
  | exc _ _ => cases m
  | par _ => cases m
  | fre _ _ => cases m
/-- a new object, pending -/
theorem Rel.push (R : Rel T F pd G ρ σ H) (g : Grow G H G' H') (hp : H p = none) (gp : G' p = none) (ob : Ob T G' H' p d) : Rel T F ((p, d) :: pd) G' ρ σ H' := by
  have R' := R.grow g
  refine ⟨R'.len, R'.sub, R'.old, R'.new, R'.keep, R'.slot, R'.apart, fun q hq => ?_, ?_, fun i s e m q hq => ?_, R'.lck, R'.rfs⟩
  · rcases List.mem_cons.mp hq with rfl | hq
    · exact ⟨gp, R.h0 hp, ob⟩
    · exact R'.pds q hq
  · show (p :: pd.map (·.1)).Nodup
    refine List.nodup_cons.mpr ⟨fun hm => ?_, R.pnd⟩
    obtain ⟨q, hq, e⟩ := List.mem_map.mp hm
    obtain ⟨o, e2⟩ := (R.pds q hq).2.2.some
    have e : q.1 = p := e
    rw [e, hp] at e2; cases e2
  · rcases List.mem_cons.mp hq with rfl | hq
    · intro z
      obtain ⟨p', d', e1, _, ob', _⟩ := R.mutOb e m
      rw [z] at e1
      cases e1
      obtain ⟨o, e2⟩ := ob'.some
      rw [hp] at e2; cases e2
    · exact R'.pap i s e m q hq
theorem Rel.drop {q : Addr × D} (R : Rel T F (q :: pd) G ρ σ H) : Rel T F pd G ρ σ H :=
  ⟨R.len, R.sub, R.old, R.new, R.keep, R.slot, R.apart, fun q hq => R.pds q (List.mem_cons_of_mem _ hq), (List.nodup_cons.mp R.pnd).2, fun i s e m q hq => R.pap i s e m q (List.mem_cons_of_mem _ hq), R.lck, R.rfs⟩
theorem Rel.nil (R : Rel T F pd G ρ σ H) : Rel T F [] G ρ σ H :=
  ⟨R.len, R.sub, R.old, R.new, R.keep, R.slot, R.apart, fun q hq => (nomatch hq), List.nodup_nil, fun i s e m q hq => (nomatch hq), R.lck, R.rfs⟩
/-- G grows by one object p that no own slot and no pending one has -/
theorem Rel.frz1 (R : Rel T F pd G ρ σ H) (gp : G p = none) (hp : F.H0 p = none) (e : H p = some o) (na : ∀ (j : Nat) (s : Sl), ρ[j]? = some s → s.mut = true → σ[j]? ≠ some (some (.ref p))) (nq : ∀ q ∈ pd, q.1 ≠ p) :
    Rel T F pd (upd G p o) ρ σ H := by
  have le : Le G (upd G p o) := Le.upd gp
  refine ⟨R.len, fun a u h => ?_, R.old.trans le, fun a u n h => ?_, R.keep, fun j s h => ?_, R.apart, fun q hq => ?_, R.pnd, R.pap, fun q hq => ⟨(R.lck q hq).1, fun z => (R.lck q hq).2.1 (by
    cases w : G q.1 with
    | none => rfl
    | some u => have := le _ _ w; rw [z] at this; cases this), (R.lck q hq).2.2⟩, R.rfs⟩
  · by_cases q : a = p
    · subst q
      rw [upd_same] at h
      cases h
      exact .inl e
    · rw [upd_ne q] at h
      exact R.sub a u h
  · by_cases q : a = p
    · subst q
      exact hp
    · rw [upd_ne q] at h
      exact R.new a u n h
  · have k := R.slot j s h
    cases s with
    | any => trivial
    | frz d => obtain ⟨v, e, h⟩ := k; exact ⟨v, e, h.mono le⟩
    | par d => obtain ⟨v, e, h⟩ := k; exact ⟨v, e, h⟩
    | fre c d => obtain ⟨v, e, h, f⟩ := k; exact ⟨v, e, h.mono le, f.mono le⟩
    | own d =>
      obtain ⟨p', e1, n, z, ob⟩ := k
      refine ⟨p', e1, ?_, z, ob.mono le rfl⟩
      rw [upd_ne (fun q => na j _ h rfl (by rw [e1, q]))]
      exact n
    | ref d =>
      obtain ⟨p', e1, z, n, ob⟩ := k
      refine ⟨p', e1, z, ?_, ob.mono le rfl⟩
      rw [upd_ne (fun q => na j _ h rfl (by rw [e1, q]))]
      exact n
    | exc f d => obtain ⟨a, dd, v, e1, e2, e3, e4⟩ := k; exact ⟨a, dd, v, e1, e2, e3, e4.mono le⟩
  · obtain ⟨n, z, ob⟩ := R.pds q hq
    refine ⟨?_, z, ob.mono le rfl⟩
    rw [upd_ne (nq q hq)]
    exact n
/-- the pending object is given away -/
theorem Rel.freeze (R : Rel T F ((p, d) :: pd) G ρ σ H) : ∃ G', Le G G' ∧ Rel T F pd G' ρ σ H ∧ Dat T G' (.ref p) d := by
  obtain ⟨n, z, ob⟩ := R.pds (p, d) List.mem_cons_self
  have n : G p = none := n
  obtain ⟨o, e⟩ := ob.some
  have e : H p = some o := e
  refine ⟨upd G p o, Le.upd n, R.drop.frz1 n z e (fun j s h m => R.pap j s h m (p, d) List.mem_cons_self) (fun q hq w => ?_), Ob.freeze ob n e⟩
  have nd := List.nodup_cons.mp R.pnd
  exact nd.1 (List.mem_map.mpr ⟨q, hq, w⟩)
theorem set_get {α : Type} {l : List α} {i j : Nat} {x y : α} (h : (l.set i x)[j]? = some y) : (j = i ∧ y = x) ∨ (j ≠ i ∧ l[j]? = some y) := by
  by_cases e : j = i
  · subst e
    have hl : j < l.length := by
      have := (List.getElem?_eq_some_iff.mp h).1
      simpa using this
    rw [List.getElem?_set_self hl] at h
    cases h
    exact .inl ⟨rfl, rfl⟩
  · rw [List.getElem?_set_ne (Ne.symm e)] at h
    exact .inr ⟨e, h⟩
theorem set_in {α : Type} {l : List α} {i : Nat} {x y : α} (h : l[i]? = some y) : (l.set i x)[i]? = some x := List.getElem?_set_self (List.getElem?_eq_some_iff.mp h).1
/-- the slot's own object is given away -/
theorem Rel.freezeS (R : Rel T F pd G ρ σ H) (hs : ρ[i]? = some (.own d)) (hv : σ[i]? = some (some v)) : ∃ G', Le G G' ∧ Rel T F pd G' (ρ.set i (.frz d)) σ H ∧ Dat T G' v d := by
  obtain ⟨p, e1, n, z, ob⟩ := R.slot _ _ hs
  rw [e1] at hv
  cases hv
  obtain ⟨o, e⟩ := ob.some
  -- first forget it
  have R1 : Rel T F pd G (ρ.set i .any) σ H := by
    refine ⟨by rw [List.length_set]; exact R.len, R.sub, R.old, R.new, R.keep, fun j s h => ?_, fun j k s t q h1 h2 m1 m2 => ?_, R.pds, R.pnd, fun j s h m => ?_, R.lck, fun q hq => ?_⟩
    · rcases set_get h with ⟨_, rfl⟩ | ⟨_, h⟩
      · trivial
      · exact R.slot j s h
    · rcases set_get h1 with ⟨_, rfl⟩ | ⟨_, h1⟩
      · cases m1
      · rcases set_get h2 with ⟨_, rfl⟩ | ⟨_, h2⟩
        · cases m2
        · exact R.apart j k s t q h1 h2 m1 m2
    · rcases set_get h with ⟨_, rfl⟩ | ⟨_, h⟩
      · cases m
      · exact R.pap j s h m
    · obtain ⟨e1, d', e2⟩ := R.rfs q hq
      refine ⟨e1, d', ?_⟩
      by_cases w : q.1 = i
      · rw [w, hs] at e2; cases e2
      · rw [List.getElem?_set_ne (Ne.symm w)]; exact e2
  have R2 := R1.frz1 n z e (fun j s h m w => by
    rcases set_get h with ⟨_, rfl⟩ | ⟨ne, h⟩
    · cases m
    · exact ne (R.apart j i s _ p h hs m rfl w e1)) (fun q hq w => R.pap i _ hs rfl q hq (by rw [w]; exact e1))
  have dt := Ob.freeze ob n e
  refine ⟨_, Le.upd n, ?_, dt⟩
  refine ⟨by rw [List.length_set]; exact R.len, R2.sub, R2.old, R2.new, R2.keep, fun j s h => ?_, fun j k s t q h1 h2 m1 m2 => ?_, R2.pds, R2.pnd, fun j s h m => ?_, R2.lck, fun q hq => ?_⟩
  · rcases set_get h with ⟨rfl, rfl⟩ | ⟨ne, h⟩
    · exact ⟨_, e1, dt⟩
    · exact R2.slot j s (by rw [List.getElem?_set_ne (Ne.symm ne)]; exact h)
  · rcases set_get h1 with ⟨_, rfl⟩ | ⟨_, h1⟩
    · cases m1
    · rcases set_get h2 with ⟨_, rfl⟩ | ⟨_, h2⟩
      · cases m2
      · exact R.apart j k s t q h1 h2 m1 m2
  · rcases set_get h with ⟨_, rfl⟩ | ⟨_, h⟩
    · cases m
    · exact R.pap j s h m
  · obtain ⟨e1, d', e2⟩ := R.rfs q hq
    refine ⟨e1, d', ?_⟩
    by_cases w : q.1 = i
    · rw [w, hs] at e2; cases e2
    · rw [List.getElem?_set_ne (Ne.symm w)]; exact e2
/-- no by-ref parameter at i -/
def noRef (ρ : Rho) (i : Nat) : Prop := ∀ d, ρ[i]? ≠ some (.ref d)
/-- a slot is stored: s fits v, and is own only where nothing else has it -/
theorem Rel.store {s : Sl} {x : Option V} {pd' : List (Addr × D)} (R : Rel T F pd G ρ σ H) (nr : noRef ρ i) (ok : i < σ.length → SlOk T F G (σ.set i x) H i s)
    (na : s.mut = true → ∀ p, x = some (.ref p) → (∀ (j : Nat) (t : Sl), ρ[j]? = some t → t.mut = true → j ≠ i → σ[j]? ≠ some (some (.ref p))) ∧ ∀ q ∈ pd', q.1 ≠ p) (hp : ∀ q ∈ pd', q ∈ pd) (hn : (pd'.map (·.1)).Nodup) :
    Rel T F pd' G (ρ.set i s) (σ.set i x) H := by
  have σne : ∀ {j : Nat}, j ≠ i → (σ.set i x)[j]? = σ[j]? := fun {j} h => List.getElem?_set_ne (Ne.symm h)
  refine ⟨by rw [List.length_set, List.length_set]; exact R.len, R.sub, R.old, R.new, R.keep, fun j t h => ?_, fun j k t u q h1 h2 m1 m2 e1 e2 => ?_, fun q hq => R.pds q (hp q hq), hn, fun j t h m q hq e => ?_, R.lck, fun q hq => ?_⟩
  · have hl : j < σ.length := by
      have := (List.getElem?_eq_some_iff.mp h).1
      rw [List.length_set, R.len] at this
      exact this
    rcases set_get h with ⟨rfl, rfl⟩ | ⟨ne, h⟩
    · exact ok hl
    · have k := R.slot j t h
      cases t with
      | any => trivial
      | frz d => obtain ⟨v, e, h⟩ := k; exact ⟨v, (σne ne).trans e, h⟩
      | par d => obtain ⟨v, e, h⟩ := k; exact ⟨v, (σne ne).trans e, h⟩
      | fre c d => obtain ⟨v, e, h⟩ := k; exact ⟨v, (σne ne).trans e, h⟩
      | own d => obtain ⟨p', e1, r⟩ := k; exact ⟨p', (σne ne).trans e1, r⟩
      | ref d => obtain ⟨p', e1, r⟩ := k; exact ⟨p', (σne ne).trans e1, r⟩
      | exc f d => obtain ⟨a, dd, v, e1, e2, r⟩ := k; exact ⟨a, dd, v, e1, (σne ne).trans e2, r⟩
  · have xi : ∀ {p : Addr} {y : Option V}, (σ.set i x)[i]? = some y → y = x := fun {p y} z => by
      rcases set_get z with ⟨_, w⟩ | ⟨w, _⟩
      · exact w
      · exact absurd rfl w
    rcases set_get h1 with ⟨w1, w2⟩ | ⟨n1, k1⟩
    · rcases set_get h2 with ⟨w3, w4⟩ | ⟨n2, k2⟩
      · exact w1.trans w3.symm
      · rw [σne n2] at e2
        rw [w1] at e1
        have := xi (p := q) e1
        rw [w2] at m1
        exact absurd e2 ((na m1 q this.symm).1 k u k2 m2 n2)
    · rcases set_get h2 with ⟨w3, w4⟩ | ⟨n2, k2⟩
      · rw [σne n1] at e1
        rw [w3] at e2
        have := xi (p := q) e2
        rw [w4] at m2
        exact absurd e1 ((na m2 q this.symm).1 j t k1 m1 n1)
      · rw [σne n1] at e1
        rw [σne n2] at e2
        exact R.apart j k t u q k1 k2 m1 m2 e1 e2
  · rcases set_get h with ⟨rfl, rfl⟩ | ⟨ne, h⟩
    · rcases set_get e with ⟨_, w⟩ | ⟨w, _⟩
      · exact (na m q.1 w.symm).2 q hq rfl
      · exact absurd rfl w
    · rw [σne ne] at e
      exact R.pap j t h m q (hp q hq) e
  · obtain ⟨e1, d', e2⟩ := R.rfs q hq
    have w : q.1 ≠ i := fun w => nr d' (w ▸ e2)
    exact ⟨(σne w).trans e1, d', by rw [List.getElem?_set_ne (Ne.symm w)]; exact e2⟩
theorem Rel.setDat (R : Rel T F pd G ρ σ H) (nr : noRef ρ i) (h : Dat T G v d) : Rel T F pd G (ρ.set i (.frz d)) (σ.set i (some v)) H :=
  R.store nr (fun hl => ⟨v, List.getElem?_set_self hl, h⟩) (fun m => nomatch m) (fun _ h => h) R.pnd
theorem Rel.setAny {x : Option V} (R : Rel T F pd G ρ σ H) (nr : noRef ρ i) : Rel T F pd G (ρ.set i .any) (σ.set i x) H :=
  R.store nr (fun hl => trivial) (fun m => nomatch m) (fun _ h => h) R.pnd
theorem Rel.setNew (R : Rel T F ((p, d) :: pd) G ρ σ H) (nr : noRef ρ i) : Rel T F pd G (ρ.set i (.own d)) (σ.set i (some (.ref p))) H := by
  obtain ⟨n, z, ob⟩ := R.pds (p, d) List.mem_cons_self
  refine R.store nr (fun hl => ⟨p, List.getElem?_set_self hl, n, z, ob⟩) (fun _ q e => ?_) (fun _ h => List.mem_cons_of_mem _ h) (List.nodup_cons.mp R.pnd).2
  cases e
  exact ⟨fun j t h m _ => R.pap j t h m (p, d) List.mem_cons_self, fun q hq w => (List.nodup_cons.mp R.pnd).1 (List.mem_map.mpr ⟨q, hq, w⟩)⟩
end
end PV
namespace PV
open PySem PySem.Spec PyProof.Rows L2
def Sl.put : Sl → D → Sl
  | .own _, d => .own d
  | .ref _, d => .ref d
  | s, _ => s
section
variable {T : Tx} {F : Fm} {pd : List (Addr × D)} {G G' H H' : Hp} {ρ : Rho} {σ : L2.St} {p : Addr} {d d' : D} {v : V} {i : Nat} {o : HO}
theorem Ob.noXd {G H : Hp} {p : Addr} {fs : List (Str × V)} (h : Ob T G H p d) : H p ≠ Option.some (.xd fs) := by
  cases d with
  | lst ds => obtain ⟨xs, h1, h2⟩ := h; rw [h1]; intro z; cases z
  | dic ks ds => obtain ⟨xs, h1, h2, h3⟩ := h; rw [h1]; intro z; cases z
  | dicT ks ds => obtain ⟨bs, xs, h1, h2, h3, h4⟩ := h; rw [h1]; intro z; cases z
  | set is => obtain ⟨S, n, h1, h2⟩ := h; rw [h1]; intro z; cases z
  | obj c ns ds => obtain ⟨C, dx, xs, h1, h2, h3, h4⟩ := h; rw [h2]; intro z; cases z
  | _ => exact h.elim
/-- an object at p that is not frozen and no reference's is changed: what lies apart stays -/
theorem Rel.wr (sub : Sub G H) (gp : G p = none) : Sub G (upd H p o) := fun a u e => by
  have ne : a ≠ p := fun w => by rw [w, gp] at e; cases e
  rcases sub a u e with z | ⟨ob, kvs, e1, z⟩
  · exact .inl (by rw [upd_ne ne]; exact z)
  · exact .inr ⟨ob, kvs, e1, by rw [upd_ne ne]; exact z⟩
/-- a slot's own object is changed -/
theorem Rel.mutS {s : Sl} (R : Rel T F pd G ρ σ H) (hs : ρ[i]? = some s) (hm : s.mut = true) (hv : σ[i]? = some (some (.ref p))) (ob' : Ob T G (upd H p o) p d') : Rel T F pd G (ρ.set i (s.put d')) σ (upd H p o) := by
  obtain ⟨p', d0, e1, gp, ob, fl⟩ := R.mutOb hs hm
  rw [hv] at e1
  cases e1
  have far : ∀ {j : Nat} {t : Sl} {q : Addr}, ρ[j]? = some t → t.mut = true → j ≠ i → σ[j]? = some (some (.ref q)) → q ≠ p := fun {j t q} h m ne e w => by
    subst w
    exact ne (R.apart j i t s q h hs m hm e hv)
  refine ⟨by rw [List.length_set]; exact R.len, Rel.wr R.sub gp, R.old, R.new, fun a u e m => ?_, fun j t h => ?_, fun j k t u q h1 h2 m1 m2 => ?_, fun q hq => ?_, R.pnd, fun j t h m => ?_, fun q hq => ⟨by rw [upd_ne (show q.1 ≠ p from fun w => (R.lck q hq).2.1 (by rw [w]; exact gp))]; exact (R.lck q hq).1, (R.lck q hq).2⟩, fun q hq => ?_⟩
  · have ne : a ≠ p := fun w => by
      subst w
      rcases fl with ⟨_, z⟩ | ⟨_, z⟩
      · rw [e] at z; cases z
      · exact m (List.mem_map.mpr ⟨(i, a), z, rfl⟩)
    rcases R.keep a u e m with z | ⟨z0, ob, kvs, e1, z⟩
    · exact .inl (by rw [upd_ne ne]; exact z)
    · exact .inr ⟨z0, ob, kvs, e1, by rw [upd_ne ne]; exact z⟩
  · rcases set_get h with ⟨rfl, rfl⟩ | ⟨ne, h⟩
    · rcases fl with ⟨rfl, z⟩ | ⟨rfl, z⟩
      · exact ⟨p, hv, gp, z, ob'⟩
      · exact ⟨p, hv, z, gp, ob'⟩
    · have k := R.slot j t h
      cases t with
      | any => trivial
      | frz d => exact k
      | par d => exact k
      | fre c d => exact k
      | own d =>
        obtain ⟨q, e1, n, z, ob⟩ := k
        exact ⟨q, e1, n, z, ob.mono (Le.refl _) (upd_ne (far h rfl ne e1))⟩
      | ref d =>
        obtain ⟨q, e1, z, n, ob⟩ := k
        exact ⟨q, e1, z, n, ob.mono (Le.refl _) (upd_ne (far h rfl ne e1))⟩
      | exc f d =>
        obtain ⟨a, dd, v, e1, e2, e3, e4⟩ := k
        refine ⟨a, dd, v, e1, e2, ?_, e4⟩
        rw [upd_ne (fun w => Ob.noXd ob (w ▸ e3))]
        exact e3
  · have mm : ∀ {l : Nat} {t : Sl}, (ρ.set i (s.put d'))[l]? = some t → t.mut = true → ∃ t', ρ[l]? = some t' ∧ t'.mut = true := fun {l t} h m => by
      rcases set_get h with ⟨rfl, rfl⟩ | ⟨_, h⟩
      · exact ⟨s, hs, hm⟩
      · exact ⟨t, h, m⟩
    obtain ⟨t', h1', m1'⟩ := mm h1 m1
    obtain ⟨u', h2', m2'⟩ := mm h2 m2
    exact R.apart j k t' u' q h1' h2' m1' m2'
  · obtain ⟨n, z, ob⟩ := R.pds q hq
    have ne : q.1 ≠ p := fun w => R.pap i s hs hm q hq (by rw [w]; exact hv)
    exact ⟨n, z, ob.mono (Le.refl _) (upd_ne ne)⟩
  · rcases set_get h with ⟨rfl, rfl⟩ | ⟨_, h⟩
    · exact R.pap j s hs hm
    · exact R.pap j t h m
  · obtain ⟨e1, d1, e2⟩ := R.rfs q hq
    by_cases w : q.1 = i
    · rw [w] at e2
      rw [hs] at e2
      cases e2
      exact ⟨e1, d', by rw [w]; exact set_in hs⟩
    · exact ⟨e1, d1, by rw [List.getElem?_set_ne (Ne.symm w)]; exact e2⟩
/-- the pending object is changed -/
theorem Rel.mutP (R : Rel T F ((p, d) :: pd) G ρ σ H) (ob' : Ob T G (upd H p o) p d') : Rel T F ((p, d') :: pd) G ρ σ (upd H p o) := by
  obtain ⟨gp, hp, ob⟩ := R.pds (p, d) List.mem_cons_self
  have gp : G p = none := gp
  have hp : F.H0 p = none := hp
  have ob : Ob T G H p d := ob
  have nd := List.nodup_cons.mp R.pnd
  have far : ∀ {j : Nat} {t : Sl} {q : Addr}, ρ[j]? = some t → t.mut = true → σ[j]? = some (some (.ref q)) → q ≠ p := fun {j t q} h m e w => by
    subst w
    exact R.pap j t h m (q, d) List.mem_cons_self e
  refine ⟨R.len, Rel.wr R.sub gp, R.old, R.new, fun a u e m => ?_, fun j t h => ?_, R.apart, fun q hq => ?_, R.pnd, fun j t h m q hq => ?_, fun q hq => ⟨by rw [upd_ne (show q.1 ≠ p from fun w => (R.lck q hq).2.1 (by rw [w]; exact gp))]; exact (R.lck q hq).1, (R.lck q hq).2⟩, R.rfs⟩
  · have ne : a ≠ p := fun w => by rw [w, hp] at e; cases e
    rcases R.keep a u e m with z | ⟨z0, ob, kvs, e1, z⟩
    · exact .inl (by rw [upd_ne ne]; exact z)
    · exact .inr ⟨z0, ob, kvs, e1, by rw [upd_ne ne]; exact z⟩
  · have k := R.slot j t h
    cases t with
    | any => trivial
    | frz d => exact k
    | par d => exact k
    | fre c d => exact k
    | own d =>
      obtain ⟨q, e1, n, z, ob⟩ := k
      exact ⟨q, e1, n, z, ob.mono (Le.refl _) (upd_ne (far h rfl e1))⟩
    | ref d =>
      obtain ⟨q, e1, z, n, ob⟩ := k
      exact ⟨q, e1, z, n, ob.mono (Le.refl _) (upd_ne (far h rfl e1))⟩
    | exc f d =>
      obtain ⟨a, dd, v, e1, e2, e3, e4⟩ := k
      refine ⟨a, dd, v, e1, e2, ?_, e4⟩
      rw [upd_ne (fun w => Ob.noXd ob (w ▸ e3))]
      exact e3
  · rcases List.mem_cons.mp hq with rfl | hq
    · exact ⟨gp, hp, ob'⟩
    · obtain ⟨n, z, ob⟩ := R.pds q (List.mem_cons_of_mem _ hq)
      have ne : q.1 ≠ p := fun w => nd.1 (List.mem_map.mpr ⟨q, hq, w⟩)
      exact ⟨n, z, ob.mono (Le.refl _) (upd_ne ne)⟩
  · rcases List.mem_cons.mp hq with rfl | hq
    · exact R.pap j t h m (p, d) List.mem_cons_self
    · exact R.pap j t h m q (List.mem_cons_of_mem _ hq)
end
/-! ## the judgements -/
abbrev TPe := Rho → (R → Rho → Prop) → (Exn → Rho → Prop) → Prop
abbrev TPt := Rho → (Bool → Rho → Prop) → (Exn → Rho → Prop) → Prop
abbrev TPa := Rho → (List R → Rho → Prop) → (Exn → Rho → Prop) → Prop
def fld (c : Str) : Str := if c = "NoSlot" ∨ c = "NotAllowed" then "slot" else if c = "NoAppointment" then "appointment" else if c = "Frozen" then "slots" else if c = "TooMany" then "most" else if c = "NoWish" then "key" else "index"
def XOk (T : Tx) (G H : Hp) (e : Exn) (cls : Value) (dd : Option Addr) : Prop :=
  ∃ C a v, T.mg e.c = some (.ref C) ∧ cls = .ref C ∧ dd = some a ∧ H a = some (.xd [(fld e.c, v)]) ∧ Dat T G v e.d
def VPost (T : Tx) (F : Fm) (pd : List (Addr × D)) (G : Hp) (σ : L2.St) (H : Hp) (v : V) (ρ : Rho) : R → Prop
  | .dat d => Rel T F pd G ρ σ H ∧ Dat T G v d
  | .new d => ∃ p, v = .ref p ∧ Rel T F ((p, d) :: pd) G ρ σ H
  | .fre c d => Rel T F pd G ρ σ H ∧ Dat T G v d ∧ Fr T F G v d c
  | .loc i => Rel T F pd G ρ σ H ∧ σ[i]? = some (some v)
/-- one that stays as it is while others are reckoned -/
def RHold (T : Tx) (G : Hp) (σ : L2.St) (v : V) : R → Prop
  | .dat d => Dat T G v d
  | .new _ => False
  | .fre _ _ => False
  | .loc i => σ[i]? = some (some v)
inductive RAll (T : Tx) (G : Hp) (σ : L2.St) : List V → List R → Prop
  | nil : RAll T G σ [] []
  | cons {v : V} {vs : List V} {r : R} {rs : List R} : RHold T G σ v r → RAll T G σ vs rs → RAll T G σ (v :: vs) (r :: rs)
theorem RHold.mono {T : Tx} {G G' : Hp} {σ : L2.St} {v : V} {r : R} (l : Le G G') (h : RHold T G σ v r) : RHold T G' σ v r := by
  cases r with
  | dat d => exact Dat.mono l h
  | new d => exact h
  | fre _ _ => exact h
  | loc i => exact h
def WOk (X : Cx) (W : WX) (F : Fm) (x : Exn → Rho → Prop) (G : Hp) (σ : L2.St) : Prop :=
  ∀ e ρ' G' H' cls dd, Le G G' → Rel X.tx F [] G' ρ' σ H' → XOk X.tx G' H' e cls dd → x e ρ' → W cls dd σ H'
theorem WOk.mono {X : Cx} {W : WX} {F : Fm} {x : Exn → Rho → Prop} {G G' : Hp} {σ : L2.St} (l : Le G G') (h : WOk X W F x G σ) : WOk X W F x G' σ := fun e ρ' G2 H' cls dd l2 => h e ρ' G2 H' cls dd (l.trans l2)
structure VEw (X : Cx) (W : WX) (F : Fm) (te : TE) (t : TPe) : Prop where
  ok : ∀ (pd : List (Addr × D)) (G : Hp) (ρ : Rho) (σ : L2.St) (H : Hp) (Q : VK) (q : R → Rho → Prop) (x : Exn → Rho → Prop), Rel X.tx F pd G ρ σ H → t ρ q x →
    (∀ r ρ' v G' H', Le G G' → VPost X.tx F pd G' σ H' v ρ' r → q r ρ' → Q v H') → WOk X W F x G σ → te σ H Q
structure VTw (X : Cx) (W : WX) (F : Fm) (te : TT) (t : TPt) : Prop where
  ok : ∀ (pd : List (Addr × D)) (G : Hp) (ρ : Rho) (σ : L2.St) (H : Hp) (Q : Bool → Hp → Prop) (q : Bool → Rho → Prop) (x : Exn → Rho → Prop), Rel X.tx F pd G ρ σ H → t ρ q x →
    (∀ b ρ' G' H', Le G G' → Rel X.tx F pd G' ρ' σ H' → q b ρ' → Q b H') → WOk X W F x G σ → te σ H Q
structure VAw (X : Cx) (W : WX) (F : Fm) (ta : TA) (t : TPa) : Prop where
  ok : ∀ (pd : List (Addr × D)) (G : Hp) (ρ : Rho) (σ : L2.St) (H : Hp) (Q : List V → Hp → Prop) (q : List R → Rho → Prop) (x : Exn → Rho → Prop), Rel X.tx F pd G ρ σ H → t ρ q x →
    (∀ rs ρ' vs G' H', Le G G' → Rel X.tx F pd G' ρ' σ H' → RAll X.tx G' σ vs rs → q rs ρ' → Q vs H') → WOk X W F x G σ → ta σ H Q
abbrev Ex : Type := Option (Nat × Addr × Addr)
def VE (X : Cx) (W : WX) (ex : Ex) (e : Expr) (t : TPe) : Prop := ∃ te, PE X e te ∧ ∀ F, F.ex = ex → VEw X W F te t
def VT (X : Cx) (W : WX) (ex : Ex) (e : Expr) (t : TPt) : Prop := ∃ te, PT X e te ∧ ∀ F, F.ex = ex → VTw X W F te t
def VW (X : Cx) (W : WX) (ex : Ex) (e : Expr) (t : TPt) : Prop := ∃ te, PW X e te ∧ ∀ F, F.ex = ex → VTw X W F te t
def VA (X : Cx) (W : WX) (ex : Ex) (es : List Expr) (t : TPa) : Prop := ∃ te, PA X es te ∧ ∀ F, F.ex = ex → VAw X W F te t
/-- the content of a result where it is used -/
def cont (ρ : Rho) (r : R) (k : D → Prop) : Prop := match r with
  | .dat d => k d
  | .new d => k d
  | .fre _ d => k d
  | .loc i => match ρ[i]? with
    | some (.frz d) => k d
    | some (.own d) => k d
    | some (.ref d) => k d
    | _ => False
/-- given away for good -/
def fix (ρ : Rho) (r : R) (k : D → Rho → Prop) : Prop := match r with
  | .dat d => k d ρ
  | .new d => k d ρ
  | .fre _ d => k d ρ
  | .loc i => match ρ[i]? with
    | some (.frz d) => k d ρ
    | some (.own d) => k d (ρ.set i (.frz d))
    | _ => False
/-- held while others are reckoned: a new one is given away -/
def hold (r : R) : R := match r with
  | .dat d => .dat d
  | .new d => .dat d
  | .fre _ d => .dat d
  | .loc i => .loc i
section
variable {T : Tx} {F : Fm} {pd : List (Addr × D)} {G G' H H' : Hp} {ρ : Rho} {σ : L2.St} {v : V}
theorem VPost.hold {r : R} (h : VPost T F pd G σ H v ρ r) : ∃ G', Le G G' ∧ Rel T F pd G' ρ σ H ∧ RHold T G' σ v (hold r) := by
  cases r with
  | dat d => exact ⟨G, Le.refl _, h.1, h.2⟩
  | fre _ d => exact ⟨G, Le.refl _, h.1, h.2.1⟩
  | new d =>
    obtain ⟨p, rfl, R⟩ := h
    obtain ⟨G', l, R', dt⟩ := R.freeze
    exact ⟨G', l, R', dt⟩
  | loc i => exact ⟨G, Le.refl _, h.1, h.2⟩
theorem VPost.fix {r : R} {k : D → Rho → Prop} (h : VPost T F pd G σ H v ρ r) (q : fix ρ r k) : ∃ G' ρ' d, Le G G' ∧ Rel T F pd G' ρ' σ H ∧ Dat T G' v d ∧ k d ρ' := by
  cases r with
  | dat d => exact ⟨G, ρ, d, Le.refl _, h.1, h.2, q⟩
  | fre _ d => exact ⟨G, ρ, d, Le.refl _, h.1, h.2.1, q⟩
  | new d =>
    obtain ⟨p, rfl, R⟩ := h
    obtain ⟨G', l, R', dt⟩ := R.freeze
    exact ⟨G', ρ, d, l, R', dt, q⟩
  | loc i =>
    obtain ⟨R, hv⟩ := h
    unfold PV.fix at q
    cases e : ρ[i]? with
    | none => simp only [e] at q
    | some s =>
      simp only [e] at q
      cases s with
      | frz d =>
        obtain ⟨w, e1, dt⟩ := R.slot _ _ e
        rw [hv] at e1
        cases e1
        exact ⟨G, ρ, d, Le.refl _, R, dt, q⟩
      | own d =>
        obtain ⟨G', l, R', dt⟩ := R.freezeS e hv
        exact ⟨G', _, d, l, R', dt, q⟩
      | any => exact q.elim
      | ref d => exact q.elim
      | exc _ _ => exact q.elim
      | par _ => exact q.elim
      | fre _ _ => exact q.elim
theorem RHold.cont {r : R} {k : D → Prop} (R : Rel T F pd G ρ σ H) (h : RHold T G σ v r) (q : cont ρ r k) : ∃ d, Top T G H v d ∧ k d := by
  cases r with
  | dat d => exact ⟨d, Dat.top R.sub h, q⟩
  | new d => exact h.elim
  | fre _ _ => exact h.elim
  | loc i =>
    have hv : σ[i]? = some (some v) := h
    unfold PV.cont at q
    cases e : ρ[i]? with
    | none => simp only [e] at q
    | some s =>
      simp only [e] at q
      have k := R.slot _ _ e
      cases s with
      | frz d =>
        obtain ⟨w, e1, dt⟩ := k
        rw [hv] at e1
        cases e1
        exact ⟨d, dt.top R.sub, q⟩
      | own d =>
        obtain ⟨p, e1, _, _, ob⟩ := k
        rw [hv] at e1
        cases e1
        exact ⟨d, ob.top, q⟩
      | ref d =>
        obtain ⟨p, e1, _, _, ob⟩ := k
        rw [hv] at e1
        cases e1
        exact ⟨d, ob.top, q⟩
      | any => exact q.elim
      | exc _ _ => exact q.elim
      | par _ => exact q.elim
      | fre _ _ => exact q.elim
theorem VPost.cont {r : R} {k : D → Prop} (h : VPost T F pd G σ H v ρ r) (q : cont ρ r k) : ∃ d, Rel T F pd G ρ σ H ∧ Top T G H v d ∧ k d := by
  cases r with
  | dat d => exact ⟨d, h.1, Dat.top h.1.sub h.2, q⟩
  | fre _ d => exact ⟨d, h.1, Dat.top h.1.sub h.2.1, q⟩
  | new d =>
    obtain ⟨p, rfl, R⟩ := h
    exact ⟨d, R.drop, (R.pds _ List.mem_cons_self).2.2.top, q⟩
  | loc i =>
    obtain ⟨R, hv⟩ := h
    obtain ⟨d, t, q⟩ := RHold.cont R (r := .loc i) hv q
    exact ⟨d, R, t, q⟩
end
/-- a list, or a tuple with it, that did not stand in H -/
def FrN (T : Tx) (H G' : Hp) (v : V) (d : D) : Option Nat → Prop
  | none => ∃ l ys es, v = .ref l ∧ d = .lst es ∧ G' l = some (.lst ys) ∧ DatAll T G' ys es ∧ H l = none
  | some c => ∃ t o xs ds l ys es, v = .ref t ∧ d = .tup ds ∧ G' t = some o ∧ Nt o xs ∧ DatAll T G' xs ds ∧ xs[c]? = some (.ref l) ∧ ds[c]? = some (.lst es) ∧ G' l = some (.lst ys) ∧ DatAll T G' ys es ∧ H t = none ∧ H l = none
theorem FrN.fr {T : Tx} {F : Fm} {pd : List (Addr × D)} {G G' H : Hp} {ρ : Rho} {σ : L2.St} {v : V} {d : D} (R : Rel T F pd G ρ σ H) : ∀ {c : Option Nat}, FrN T H G' v d c → Fr T F G' v d c := by
  have key : ∀ {a : Addr}, H a = none → F.G0 a = none := fun {a} h => by
    cases q : F.G0 a with
    | none => rfl
    | some o =>
      have z := R.old a o q
      rw [R.sub.none h] at z
      cases z
  intro c
  cases c with
  | none => rintro ⟨l, ys, es, a, b, c, d, e⟩; exact ⟨l, ys, es, a, b, c, d, key e⟩
  | some c => rintro ⟨t, o, xs, ds, l, ys, es, a, b, c, d, e, f, g, h, i, j, k⟩; exact ⟨t, o, xs, ds, l, ys, es, a, b, c, d, e, f, g, h, i, key j, key k⟩
theorem Fr.frN {T : Tx} {F : Fm} {pd : List (Addr × D)} {G H : Hp} {ρ : Rho} {σ : L2.St} {v : V} {d : D} (R : Rel T F pd G ρ σ H) : ∀ {c : Option Nat}, Fr T F G v d c → FrN T F.H0 G v d c
  | none, ⟨l, ys, es, a, b, c, d, e⟩ => ⟨l, ys, es, a, b, c, d, R.new _ _ e c⟩
  | some _, ⟨t, o, xs, ds, l, ys, es, a, b, c, d, e, f, g, h, i, j, k⟩ => ⟨t, o, xs, ds, l, ys, es, a, b, c, d, e, f, g, h, i, R.new _ _ j c, R.new _ _ k h⟩
/-- a result of new objects -/
def ROk (T : Tx) (H G' H' : Hp) (w : V) : R → Prop
  | .dat d => Dat T G' w d
  | .fre c d => Dat T G' w d ∧ FrN T H G' w d c
  | .new d => ∃ p, w = .ref p ∧ H p = none ∧ G' p = none ∧ Ob T G' H' p d
  | .loc _ => False
theorem ROk.post {T : Tx} {F : Fm} {pd : List (Addr × D)} {G G' H H' : Hp} {ρ : Rho} {σ : L2.St} {w : V} {r : R} (R : Rel T F pd G ρ σ H) (g : Grow G H G' H') (h : ROk T H G' H' w r) : VPost T F pd G' σ H' w ρ r := by
  cases r with
  | dat d => exact ⟨R.grow g, h⟩
  | new d => obtain ⟨p, e, hp, gp, ob⟩ := h; exact ⟨p, e, R.push g hp gp ob⟩
  | loc _ => exact h.elim
  | fre c d => exact ⟨R.grow g, h.1, h.2.fr R⟩
end PV
namespace PV
open PySem PySem.Spec PyProof.Rows L2
theorem VPost.rel {T : Tx} {F : Fm} {pd : List (Addr × D)} {G H : Hp} {ρ : Rho} {σ : L2.St} {v : V} {r : R} (h : VPost T F pd G σ H v ρ r) : Rel T F pd G ρ σ H := by
  cases r with
  | dat d => exact h.1
  | fre _ _ => exact h.1
  | new d => obtain ⟨_, _, R⟩ := h; exact R.drop
  | loc i => exact h.1
/-! ## readings -/
/-- no error -/
abbrev W0 : WX := fun _ _ _ _ => False
def yVar (i : Nat) : TPe := fun ρ q _ => match ρ[i]? with
  | some (.frz d) => q (.dat d) ρ
  | some (.own _) => q (.loc i) ρ
  | some (.ref _) => q (.loc i) ρ
  | some (.par d) => q (.dat d) ρ
  | some (.fre c d) => q (.fre c d) ρ
  | _ => False
def yC (d : D) : TPe := fun ρ q _ => q (.dat d) ρ
def yU (f : D → (R → Prop) → Prop) (ta : TPe) : TPe := fun ρ q x => ta ρ (fun r ρ1 => cont ρ1 r fun d => f d fun res => q res ρ1) x
def yB (f : D → D → (R → Prop) → Prop) (ta tb : TPe) : TPe := fun ρ q x => ta ρ (fun r ρ1 => tb ρ1 (fun s ρ2 => cont ρ2 (hold r) fun d => cont ρ2 s fun e => f d e fun res => q res ρ2) x) x
def yNil : TPa := fun ρ q _ => q [] ρ
def yCons (ta : TPe) (tr : TPa) : TPa := fun ρ q x => ta ρ (fun r ρ1 => tr ρ1 (fun rs ρ2 => q (hold r :: rs) ρ2) x) x
/-- the contents of several results -/
def conts (ρ : Rho) : List R → (List D → Prop) → Prop
  | [], k => k []
  | r :: rs, k => cont ρ r fun d => conts ρ rs fun ds => k (d :: ds)
/-- several given away -/
def fixs (ρ : Rho) : List R → (List D → Rho → Prop) → Prop
  | [], k => k [] ρ
  | r :: rs, k => fix ρ r fun d ρ1 => fixs ρ1 rs fun ds ρ2 => k (d :: ds) ρ2
/-- f(a, ..) by the contents -/
def yF (f : List D → (R → Prop) → Prop) (ta : TPa) : TPe := fun ρ q x => ta ρ (fun rs ρ1 => conts ρ1 rs fun ds => f ds fun res => q res ρ1) x
inductive TopAll (T : Tx) (G H : Hp) : List V → List D → Prop
  | nil : TopAll T G H [] []
  | cons {v : V} {vs : List V} {d : D} {ds : List D} : Top T G H v d → TopAll T G H vs ds → TopAll T G H (v :: vs) (d :: ds)
/-- by values: a rule that makes new objects at most -/
structure UOk (X : Cx) (r : V → Hp → VK → Prop) (f : D → (R → Prop) → Prop) : Prop where
  ok : ∀ (G H : Hp) (v : V) (d : D) (Q : VK) (q : R → Prop), Sub G H → Top X.tx G H v d → f d q → (∀ res w G' H', Grow G H G' H' → ROk X.tx H G' H' w res → q res → Q w H') → r v H Q
structure BOk (X : Cx) (r : V → V → Hp → VK → Prop) (f : D → D → (R → Prop) → Prop) : Prop where
  ok : ∀ (G H : Hp) (v u : V) (d e : D) (Q : VK) (q : R → Prop), Sub G H → Top X.tx G H v d → Top X.tx G H u e → f d e q → (∀ res w G' H', Grow G H G' H' → ROk X.tx H G' H' w res → q res → Q w H') → r v u H Q
structure FOk (X : Cx) (r : List V → Hp → VK → Prop) (f : List D → (R → Prop) → Prop) : Prop where
  ok : ∀ (G H : Hp) (vs : List V) (ds : List D) (Q : VK) (q : R → Prop), Sub G H → TopAll X.tx G H vs ds → f ds q → (∀ res w G' H', Grow G H G' H' → ROk X.tx H G' H' w res → q res → Q w H') → r vs H Q
/-- a scalar result -/
theorem ret_s {T : Tx} {G H : Hp} {Q : VK} {q : R → Prop} {w : V} {d : D} (k : ∀ res w G' H', Grow G H G' H' → ROk T H G' H' w res → q res → Q w H') (h : Dat T G w d) (hq : q (.dat d)) : Q w H := k (.dat d) w G H (Grow.refl _ _) h hq
section
variable {X : Cx} {W : WX} {ex : Ex} {a b e : Expr} {es : List Expr} {ta tb : TPe} {t : TPa} {pos : Pos}
theorem ve_var (i : Nat) {x : Str} {pos : Pos} (hN : X.N[i]? = some x := by rfl) (hv : Vis X.env.scope x := by first | exact Or.inl rfl | exact Or.inr (Or.inl rfl) | exact Or.inr (Or.inr rfl)) (hd : (x == ("__debug__" : Str)) = false := by decide)
    (hcd : (x == ("__classdict__" : Str)) = false := by decide) : VE X W ex (.Name x pos) (yVar i) := by
  refine ⟨_, pe_var hN hv hd hcd, fun F _ => ⟨fun pd G ρ σ H Q q x R t k w => ?_⟩⟩
  unfold yVar at t
  cases e : ρ[i]? with
  | none => simp only [e] at t
  | some s =>
    simp only [e] at t
    have ok := R.slot _ _ e
    cases s with
    | frz d =>
      obtain ⟨v, e1, dt⟩ := ok
      exact ⟨v, e1, k (.dat d) ρ v G H (Le.refl _) ⟨R, dt⟩ t⟩
    | own d =>
      obtain ⟨p, e1, _⟩ := ok
      exact ⟨.ref p, e1, k (.loc i) ρ _ G H (Le.refl _) ⟨R, e1⟩ t⟩
    | ref d =>
      obtain ⟨p, e1, _⟩ := ok
      exact ⟨.ref p, e1, k (.loc i) ρ _ G H (Le.refl _) ⟨R, e1⟩ t⟩
    | any => exact t.elim
    | exc _ _ => exact t.elim
    | par d =>
      obtain ⟨v, e1, dt⟩ := ok
      exact ⟨v, e1, k (.dat d) ρ v G H (Le.refl _) ⟨R, dt.mono R.old⟩ t⟩
    | fre c d =>
      obtain ⟨v, e1, dt, f⟩ := ok
      exact ⟨v, e1, k (.fre c d) ρ v G H (Le.refl _) ⟨R, dt, f⟩ t⟩
theorem ve_c {v : V} {d : D} (h : PE X e (tC v)) (hd : ∀ G, Dat X.tx G v d) : VE X W ex e (yC d) := ⟨_, h, fun F _ => ⟨fun pd G ρ σ H Q q x R t k w => k (.dat d) ρ v G H (Le.refl _) ⟨R, hd G⟩ t⟩⟩
theorem ve_int {i j pos} : VE X W ex (.Constant (.int i) j pos) (yC (.int i)) := ve_c pe_int fun _ => .int i
theorem ve_bl {b j pos} : VE X W ex (.Constant (.bool b) j pos) (yC (.bl b)) := ve_c pe_bl fun _ => .bl b
theorem ve_non {j pos} : VE X W ex (.Constant .none j pos) (yC .non) := ve_c pe_non fun _ => .non
theorem ve_str {s j pos} : VE X W ex (.Constant (.str s) j pos) (yC (.str s)) := ve_c pe_str fun _ => .str s
theorem ve_globI {x : Str} {i : Int} (hg : Gl X x) (hm : ∃ t, X.mg x = some (.int i t)) (hd : (x == ("__debug__" : Str)) = false := by decide) : VE X W ex (.Name x pos) (yC (.int i)) := by
  obtain ⟨t, hm⟩ := hm
  exact ve_c (pe_glob (v := .int i) hg hm ⟨t, rfl⟩ hd) fun _ => .int i
theorem ve_u {r : V → Hp → VK → Prop} {f : D → (R → Prop) → Prop} (ho : ∀ te, PE X a te → PE X e (tUn r te)) (ok : UOk X r f) (ha : VE X W ex a ta) : VE X W ex e (yU f ta) := by
  obtain ⟨te, pa, wa⟩ := ha
  refine ⟨_, ho _ pa, fun F hF => ⟨fun pd G ρ σ H Q q x R t k w => (wa F hF).ok pd G ρ σ H _ _ _ R t (fun r1 ρ1 v G1 H1 l1 p1 q1 => ?_) w⟩⟩
  obtain ⟨d, R1, tp, fd⟩ := p1.cont q1
  exact ok.ok G1 H1 v d _ _ R1.sub tp fd fun res w G2 H2 g rk qr => k res ρ1 w G2 H2 (l1.trans g.le) (ROk.post R1 g rk) qr
theorem ve_b {r : V → V → Hp → VK → Prop} {f : D → D → (R → Prop) → Prop} (ho : ∀ te tf, PE X a te → PE X b tf → PE X e (tOp r te tf)) (ok : BOk X r f) (ha : VE X W ex a ta) (hb : VE X W ex b tb) : VE X W ex e (yB f ta tb) := by
  obtain ⟨te, pa, wa⟩ := ha
  obtain ⟨tf, pb, wb⟩ := hb
  refine ⟨_, ho _ _ pa pb, fun F hF => ⟨fun pd G ρ σ H Q q x R t k w => (wa F hF).ok pd G ρ σ H _ _ _ R t (fun r1 ρ1 v G1 H1 l1 p1 q1 => ?_) w⟩⟩
  obtain ⟨G1', l1', R1, h1⟩ := p1.hold
  refine (wb F hF).ok pd G1' ρ1 σ H1 _ _ _ R1 q1 (fun r2 ρ2 u G2 H2 l2 p2 q2 => ?_) ((w.mono l1).mono l1')
  obtain ⟨d, tp1, q2⟩ := RHold.cont p2.rel (h1.mono l2) q2
  obtain ⟨e, R2, tp2, fd⟩ := p2.cont q2
  exact ok.ok G2 H2 v u d e _ _ R2.sub tp1 tp2 fd fun res w G3 H3 g rk qr => k res ρ2 w G3 H3 (((l1.trans l1').trans l2).trans g.le) (ROk.post R2 g rk) qr
theorem va_nil : VA X W ex [] yNil := ⟨_, pa_nil, fun F hF => ⟨fun pd G ρ σ H Q q x R t k w => k [] ρ [] G H (Le.refl _) R .nil t⟩⟩
theorem va_cons (ha : VE X W ex e ta) (hr : VA X W ex es t) (hs : starEach (e :: es) X.env = (false, eval e X.env) :: starEach es X.env := by rfl) : VA X W ex (e :: es) (yCons ta t) := by
  obtain ⟨te, pa, wa⟩ := ha
  obtain ⟨tr, pr, wr⟩ := hr
  refine ⟨_, pa_cons pa pr hs, fun F hF => ⟨fun pd G ρ σ H Q q x R t k w => (wa F hF).ok pd G ρ σ H _ _ _ R t (fun r1 ρ1 v G1 H1 l1 p1 q1 => ?_) w⟩⟩
  obtain ⟨G1', l1', R1, h1⟩ := p1.hold
  refine (wr F hF).ok pd G1' ρ1 σ H1 _ _ _ R1 q1 (fun rs ρ2 vs G2 H2 l2 R2 h2 q2 => ?_) ((w.mono l1).mono l1')
  exact k _ ρ2 _ G2 H2 ((l1.trans l1').trans l2) R2 (.cons (h1.mono l2) h2) q2
theorem RAll.conts {T : Tx} {F : Fm} {pd : List (Addr × D)} {G H : Hp} {ρ : Rho} {σ : L2.St} (rl : Rel T F pd G ρ σ H) : ∀ {vs : List V} {rs : List R} {k : List D → Prop}, RAll T G σ vs rs → conts ρ rs k → ∃ ds, TopAll T G H vs ds ∧ k ds
  | _, _, _, .nil, q => ⟨[], .nil, q⟩
  | _, _, _, .cons h t, q => by
    obtain ⟨d, tp, q⟩ := RHold.cont rl h q
    obtain ⟨ds, tps, q⟩ := RAll.conts rl t q
    exact ⟨d :: ds, .cons tp tps, q⟩
theorem ve_f {r : List V → Hp → VK → Prop} {f : List D → (R → Prop) → Prop} (ho : ∀ te, PA X es te → PE X e (tCB r te)) (ok : FOk X r f) (ha : VA X W ex es t) : VE X W ex e (yF f t) := by
  obtain ⟨te, pa, wa⟩ := ha
  refine ⟨_, ho _ pa, fun F hF => ⟨fun pd G ρ σ H Q q x R t k w => (wa F hF).ok pd G ρ σ H _ _ _ R t (fun rs ρ1 vs G1 H1 l1 R1 h1 q1 => ?_) w⟩⟩
  obtain ⟨ds, tp, fd⟩ := RAll.conts R1 h1 q1
  exact ok.ok G1 H1 vs ds _ _ R1.sub tp fd fun res w G2 H2 g rk qr => k res ρ1 w G2 H2 (l1.trans g.le) (ROk.post R1 g rk) qr
/-- a built-in by its name -/
theorem ve_B {id : String} {x : Str} {p pos : Pos} {r : List V → Hp → VK → Prop} {f : List D → (R → Prop) → Prop} (hc : CallR X (.builtin id) r) (ok : FOk X r f) (hg : Gl X x) (hm : X.mg x = none) (hv : bootBuiltins x = some (.builtin id)) (ha : VA X W ex (e :: es) t) (hn : x ≠ "__name__" := by decide) (hdb : (x == ("__debug__" : Str)) = false := by decide)
    (he : starEach (e :: es) X.env = (false, eval e X.env) :: starEach es X.env := by rfl) (hpl : (backTo pos (starEach es X.env)).any (·.1) = false := by rfl) : VE X W ex (.Call (.Name x p) (e :: es) [] pos) (yF f t) :=
  ve_f (fun _ h => pe_callB hc hg hm hv h hn hdb he hpl) ok ha
theorem ve_Ty {T : String} {x : Str} {p pos : Pos} {r : List V → Hp → VK → Prop} {f : List D → (R → Prop) → Prop} (hc : CallR X (.type T) r) (ok : FOk X r f) (hg : Gl X x) (hm : X.mg x = none) (hv : bootBuiltins x = some (.type T)) (ha : VA X W ex (e :: es) t) (hn : x ≠ "__name__" := by decide) (hdb : (x == ("__debug__" : Str)) = false := by decide)
    (he : starEach (e :: es) X.env = (false, eval e X.env) :: starEach es X.env := by rfl) (hpl : (backTo pos (starEach es X.env)).any (·.1) = false := by rfl) : VE X W ex (.Call (.Name x p) (e :: es) [] pos) (yF f t) :=
  ve_f (fun _ h => pe_callTy hc hg hm hv h hn hdb he hpl) ok ha
theorem ve_Ty0 {T : String} {x : Str} {p pos : Pos} {r : List V → Hp → VK → Prop} {f : List D → (R → Prop) → Prop} (hc : CallR X (.type T) r) (ok : FOk X r f) (hg : Gl X x) (hm : X.mg x = none) (hv : bootBuiltins x = some (.type T)) (hn : x ≠ "__name__" := by decide) (hdb : (x == ("__debug__" : Str)) = false := by decide) :
    VE X W ex (.Call (.Name x p) [] [] pos) (yF f yNil) := by
  refine ⟨_, pe_callTy0 hc hg hm hv hn hdb, fun F hF => ⟨fun pd G ρ σ H Q q x R t k w => ?_⟩⟩
  exact ok.ok G H [] [] _ _ R.sub .nil t fun res w G2 H2 g rk qr => k res ρ w G2 H2 g.le (ROk.post R g rk) qr
end
end PV
namespace L2
open PySem PySem.Spec PyProof.Rows
/-- list + list, each tracked, locked or written -/
def rCatS (K : PySem.W.Frag) : R2 := fun x y H Q => ∃ l b xs zs, x = .ref l ∧ y = .ref b ∧ SqL K H l xs ∧ SqL K H b zs ∧ xs.length + zs.length ≤ sizeLine ∧ ∀ p, H p = none → Q (.ref p) (upd H p (.lst (xs ++ zs)))
theorem op_catS {X : Cx} : OpR X (binaryOp .Add) (rCatS X.K) := by
  intro pins s σ H x y v u Q I rx ry h
  obtain ⟨l, b, xs, zs, rfl, rfl, hH, hB, hz, q⟩ := h
  cases rx
  cases ry
  obtain ⟨its, r, ⟨o, n, ho, hc, hd, hs⟩, z⟩ := I.list hH
  obtain ⟨its2, r2, ⟨o2, n2, ho2, hc2, hd2, hs2⟩, z2⟩ := I.list hB
  obtain ⟨cls, dd, data, sl⟩ := o
  obtain ⟨cls2, dd2, data2, sl2⟩ := o2
  simp only at hc hd hs hc2 hd2 hs2
  subst hc hd hs hc2 hd2 hs2
  have l1 := r.length
  have l2 := r2.length
  have ea : its.toArray ++ its2.toArray = (its ++ its2).toArray := by simp
  refine concat_meets ⟨_, ho, rfl⟩ ⟨_, ho2, rfl⟩ noFill_list_add seq_list_add PySem.F.slot_list_add PySem.F.entry_list_add (PySem.F.args_list_add_2 _ _) (list_addW l b its.toArray its2.toArray n n2 none none sl sl2 (by rw [List.size_toArray, List.size_toArray]; omega)) ⟨ho, ho2, ?_⟩
  rw [ea]
  exact ⟨.ref _, _, I.lnew (t' := s.toks) (r.append r2) (by rw [List.length_append]; omega), rfl, q _ I.fresh⟩
theorem OpR.or' {X : Cx} {f : Value → Value → Sem Value} {r r' : R2} (h : OpR X f r) (h' : OpR X f r') : OpR X f (fun x y H Q => r x y H Q ∨ r' x y H Q) := by
  intro pins s σ H x y v u Q I rx ry q
  rcases q with q | q
  · exact h pins s σ H x y v u Q I rx ry q
  · exact h' pins s σ H x y v u Q I rx ry q
theorem CallR.or' {X : Cx} {f : Value} {r r' : List V → Hp → VK → Prop} (h : CallR X f r) (h' : CallR X f r') : CallR X f (fun xs H Q => r xs H Q ∨ r' xs H Q) := by
  intro pins s σ H xs us Q I rx q
  rcases q with q | q
  · exact h pins s σ H xs us Q I rx q
  · exact h' pins s σ H xs us Q I rx q
end L2
namespace PV
open PySem PySem.Spec PyProof.Rows L2
/-! ## data as PyData, for == and in -/
mutual
def D.py : D → PyData
  | .non => .none | .bl b => .bool b | .int i => .int i | .str x => .str x
  | .lst xs => .list (D.pys xs) | .tup xs => .tuple (D.pys xs) | .tupU xs => .tuple (D.pys xs)
  | .dic _ _ => .dict [] | .dicT _ _ => .dict [] | .set _ => .dict [] | .obj _ _ _ => .dict []
def D.pys : List D → List PyData
  | [] => []
  | d :: r => D.py d :: D.pys r
end
theorem py_list {xs : List D} : (D.lst xs).py = .list (D.pys xs) := by simp only [D.py]
mutual
theorem Dat.dp {T : Tx} {G H : Hp} (s : Sub G H) : ∀ {v : V} {d : D}, Dat T G v d → d.py.canLay0 = true → Dp T.K H v d.py
  | _, _, .non, _ => by simp only [D.py]; exact .non
  | _, _, .bl b, _ => by simp only [D.py]; exact .bl b
  | _, _, .int i, _ => by simp only [D.py]; exact .int i
  | _, _, .str x, _ => by simp only [D.py]; exact .str x
  | _, _, .lst h t, c => by
    simp only [D.py, PyData.canLay0] at c ⊢
    exact .lst (s.seqL h) (DatAll.dp s t c)
  | _, _, .tup h t, c => by
    simp only [D.py, PyData.canLay0] at c ⊢
    exact .tup (s.seqN h).t (DatAll.dp s t c)
  | _, _, .tupU h t, c => by
    simp only [D.py, PyData.canLay0] at c ⊢
    exact .tup (s.seqT h) (DatAll.dp s t c)
  | _, _, .dic h e t, c => by simp only [D.py, PyData.canLay0] at c; cases c
  | _, _, .dicT h e k t, c => by simp only [D.py, PyData.canLay0] at c; cases c
  | _, _, .set h e, c => by simp only [D.py, PyData.canLay0] at c; cases c
  | _, _, .obj m h e t, c => by simp only [D.py, PyData.canLay0] at c; cases c
theorem DatAll.dp {T : Tx} {G H : Hp} (s : Sub G H) : ∀ {vs : List V} {ds : List D}, DatAll T G vs ds → PyData.canLayAll0 (D.pys ds) = true → DpAll T.K H vs (D.pys ds)
  | _, _, .nil, _ => by simp only [D.pys]; exact .nil
  | _, _, .cons h t, c => by
    simp only [D.pys, PyData.canLayAll0, Bool.and_eq_true] at c ⊢
    exact .cons (Dat.dp s h c.1) (DatAll.dp s t c.2)
end
theorem Top.dp {T : Tx} {G H : Hp} (s : Sub G H) {v : V} {d : D} (h : Top T G H v d) (c : SeqAt.shaped d.py = true) : Dp T.K H v d.py := by
  have c := SeqAt.canLay_of_shaped c
  cases d with
  | lst ds =>
    obtain ⟨a, xs, rfl, h1, h2⟩ := h
    simp only [D.py, PyData.canLay0] at c ⊢
    exact .lst h1 (h2.dp s c)
  | dic _ _ => simp only [D.py, PyData.canLay0] at c; cases c
  | dicT _ _ => simp only [D.py, PyData.canLay0] at c; cases c
  | set _ => simp only [D.py, PyData.canLay0] at c; cases c
  | non => exact Dat.dp s h c
  | bl _ => exact Dat.dp s h c
  | int _ => exact Dat.dp s h c
  | str _ => exact Dat.dp s h c
  | tup _ => exact Dat.dp s h c
  | tupU _ => exact Dat.dp s h c
  | obj _ _ _ => simp only [D.py, PyData.canLay0] at c; cases c
theorem Top.tup {T : Tx} {G H : Hp} (s : Sub G H) {v : V} {ds : List D} (h : Top T G H v (.tup ds)) : ∃ a xs, v = .ref a ∧ SqT T.K H a xs ∧ DatAll T G xs ds := by
  cases (show Dat T G v (.tup ds) from h) with
  | tup h1 t1 => exact ⟨_, _, rfl, (s.seqN h1).t, t1⟩
theorem Top.tupN {T : Tx} {G H : Hp} (s : Sub G H) {v : V} {ds : List D} (h : Top T G H v (.tup ds)) : ∃ a xs, v = .ref a ∧ SqN T.K H a xs ∧ DatAll T G xs ds := by
  cases (show Dat T G v (.tup ds) from h) with
  | tup h1 t1 => exact ⟨_, _, rfl, s.seqN h1, t1⟩
theorem Top.tupU {T : Tx} {G H : Hp} (s : Sub G H) {v : V} {ds : List D} (h : Top T G H v (.tupU ds)) : ∃ a xs, v = .ref a ∧ SqT T.K H a xs ∧ DatAll T G xs ds := by
  cases (show Dat T G v (.tupU ds) from h) with
  | tupU h1 t1 => exact ⟨_, _, rfl, s.seqT h1, t1⟩
abbrev D.ok (d : D) : Prop := SeqAt.shaped d.py = true
def D.eqv (d e : D) : Bool := PyData.eqv d.py e.py
section
variable {X : Cx}
/-- new lists, tuples -/
theorem ret_lst {T : Tx} {G H : Hp} {Q : VK} {q : R → Prop} {xs : List V} {ds : List D} (s : Sub G H) (k : ∀ res w G' H', Grow G H G' H' → ROk T H G' H' w res → q res → Q w H') (h : DatAll T G xs ds) (hq : q (.new (.lst ds))) : ∀ p, H p = none → Q (.ref p) (upd H p (.lst xs)) :=
  fun p hp => k (.new (.lst ds)) (.ref p) G (upd H p (.lst xs)) (Grow.laid hp) ⟨p, rfl, hp, s.none hp, xs, upd_same, h⟩ hq
theorem ret_tup {T : Tx} {G H : Hp} {Q : VK} {q : R → Prop} {xs : List V} {ds : List D} (s : Sub G H) (k : ∀ res w G' H', Grow G H G' H' → ROk T H G' H' w res → q res → Q w H') (h : DatAll T G xs ds) (hq : q (.dat (.tup ds))) : ∀ p o, Nt o xs → H p = none → Q (.ref p) (upd H p o) :=
  fun p o ho hp => k (.dat (.tup ds)) (.ref p) (upd G p o) (upd H p o) (Grow.laidF s hp) (.tup (.inl ⟨o, upd_same, ho⟩) (h.mono (Le.upd (s.none hp)))) hq
/-! ### + -/
def fAdd : D → D → (R → Prop) → Prop
  | .int i, .int j, q => q (.dat (.int (i + j)))
  | .lst a, .lst b, q => a.length + b.length ≤ sizeLine ∧ q (.new (.lst (a ++ b)))
  | .tup a, .tup b, q => a.length + b.length ≤ sizeLine ∧ q (.dat (.tup (a ++ b)))
  | .str a, .str b, q => a.length + b.length ≤ sizeLine ∧ q (.dat (.str (a ++ b)))
  | _, _, _ => False
def rAddA (K : PySem.W.Frag) : R2 := fun x y H Q => rI0 (fun i j => .int (i + j)) x y H Q ∨ rCatS K x y H Q ∨ rCatN K x y H Q ∨ (∃ i j, x = .str i ∧ y = .str j ∧ i.length + j.length ≤ sizeLine ∧ Q (.str (i ++ j)) H)
theorem op_addA : OpR X (binaryOp .Add) (rAddA X.K) := op_add.or' (op_catS.or' (op_catN.or' op_add_str))
theorem bok_add : BOk X (rAddA X.K) fAdd := by
  refine ⟨fun G H v u d e Q q s h1 h2 f k => ?_⟩
  unfold fAdd at f
  split at f
  · cases h1; cases h2
    exact .inl ⟨_, _, rfl, rfl, ret_s k (.int _) f⟩
  · obtain ⟨a, xs, rfl, s1, t1⟩ := h1
    obtain ⟨b, ys, rfl, s2, t2⟩ := h2
    exact .inr (.inl ⟨a, b, xs, ys, rfl, rfl, s1, s2, by rw [t1.length, t2.length]; exact f.1, ret_lst s k (t1.append t2) f.2⟩)
  · rename_i d1 e1
    have hd := h1; have he := h2
    obtain ⟨a, xs, rfl, s1, t1⟩ := h1.tup s
    obtain ⟨b, ys, rfl, s2, t2⟩ := h2.tup s
    refine .inr (.inr (.inl ⟨a, b, xs, ys, rfl, rfl, s1, s2, by rw [t1.length, t2.length]; exact f.1, fun z => ?_, fun _ z => ?_, fun _ _ => ret_tup s k (t1.append t2) f.2⟩))
    · subst z
      cases t1
      exact ret_s k he f.2
    · subst z
      cases t2
      rw [List.append_nil] at f
      exact ret_s k hd f.2
  · cases h1; cases h2
    exact .inr (.inr (.inr ⟨_, _, rfl, rfl, f.1, ret_s k (.str _) f.2⟩))
  · exact f.elim
end
end PV
namespace L2
open PySem PySem.Spec PyProof.Rows
/-- x in a tuple of data at any depth -/
def rInDT (K : PySem.W.Frag) (neg : Bool) : R2 := fun x y H Q => ∃ d ds, Dp K H x d ∧ Dp K H y (.tuple ds) ∧ SeqAt.shaped d = true ∧ SeqAt.shaped (.tuple ds) = true ∧ Q (.bl (if neg then !ds.any fun z => PyData.eqv z d else ds.any fun z => PyData.eqv z d)) H
end L2
namespace PV
open PySem PySem.Spec PyProof.Rows L2
section
variable {X : Cx}
/-- a scalar operator on two ints -/
theorem bok_i {C : Int → Int → Prop} {g : Int → Int → V} {g' : Int → Int → D} (hg : ∀ i j G, Dat X.tx G (g i j) (g' i j)) : BOk X (rI C g) (fun d e q => match d, e with
    | .int i, .int j => C i j ∧ q (.dat (g' i j))
    | _, _ => False) := by
  refine ⟨fun G H v u d e Q q s h1 h2 f k => ?_⟩
  split at f
  · cases h1; cases h2
    exact ⟨_, _, rfl, rfl, f.1, ret_s k (hg _ _ _) f.2⟩
  · exact f.elim
theorem bok_i0 {g : Int → Int → V} {g' : Int → Int → D} (hg : ∀ i j G, Dat X.tx G (g i j) (g' i j)) : BOk X (rI0 g) (fun d e q => match d, e with
    | .int i, .int j => q (.dat (g' i j))
    | _, _ => False) := by
  refine ⟨fun G H v u d e Q q s h1 h2 f k => ?_⟩
  split at f
  · cases h1; cases h2
    exact ⟨_, _, rfl, rfl, ret_s k (hg _ _ _) f⟩
  · exact f.elim
def fI (C : Int → Int → Prop) (g : Int → Int → D) : D → D → (R → Prop) → Prop := fun d e q => match d, e with
  | .int i, .int j => C i j ∧ q (.dat (g i j))
  | _, _ => False
def fI0 (g : Int → Int → D) : D → D → (R → Prop) → Prop := fun d e q => match d, e with
  | .int i, .int j => q (.dat (g i j))
  | _, _ => False
def fSub := fI0 fun i j => .int (i - j)
def fFdiv := fI CDivN fun i j => .int (i.fdiv j)
def fMod := fI (fun _ j => j ≠ 0) fun i j => .int (i.fmod j)
def fPow := fI CPow fun i j => .int (i ^ j.toNat)
def fShl := fI CPow fun i j => .int (i * 2 ^ j.toNat)
def fShr := fI (fun _ j => 0 ≤ j) fun i j => .int (i / 2 ^ j.toNat)
def fAnd := fI0 fun i j => .int (Builtin.bitAnd i j)
def fOr := fI0 fun i j => .int (Builtin.bitOr i j)
def fXor := fI0 fun i j => .int (Builtin.bitXor i j)
def fLt := fI0 fun i j => .bl (decide (i < j))
def fLe := fI0 fun i j => .bl (decide (i ≤ j))
def fGt := fI0 fun i j => .bl (decide (j < i))
def fGe := fI0 fun i j => .bl (decide (j ≤ i))
theorem bok_sub : BOk X (rI0 fun i j => .int (i - j)) fSub := bok_i0 (g := fun i j => .int (i - j)) fun _ _ _ => .int _
theorem bok_fdiv : BOk X (rI CDivN fun i j => .int (i.fdiv j)) fFdiv := bok_i (C := CDivN) (g := fun i j => .int (i.fdiv j)) fun _ _ _ => .int _
theorem bok_mod : BOk X (rI (fun _ j => j ≠ 0) fun i j => .int (i.fmod j)) fMod := bok_i (C := fun _ j => j ≠ 0) (g := fun i j => .int (i.fmod j)) fun _ _ _ => .int _
theorem bok_pow : BOk X (rI CPow fun i j => .int (i ^ j.toNat)) fPow := bok_i (C := CPow) (g := fun i j => .int (i ^ j.toNat)) fun _ _ _ => .int _
theorem bok_shl : BOk X (rI CPow fun i j => .int (i * 2 ^ j.toNat)) fShl := bok_i (C := CPow) (g := fun i j => .int (i * 2 ^ j.toNat)) fun _ _ _ => .int _
theorem bok_shr : BOk X (rI (fun _ j => 0 ≤ j) fun i j => .int (i / 2 ^ j.toNat)) fShr := bok_i (C := fun _ j => 0 ≤ j) (g := fun i j => .int (i / 2 ^ j.toNat)) fun _ _ _ => .int _
theorem bok_and : BOk X (rI0 fun i j => .int (Builtin.bitAnd i j)) fAnd := bok_i0 (g := fun i j => .int (Builtin.bitAnd i j)) fun _ _ _ => .int _
theorem bok_or : BOk X (rI0 fun i j => .int (Builtin.bitOr i j)) fOr := bok_i0 (g := fun i j => .int (Builtin.bitOr i j)) fun _ _ _ => .int _
theorem bok_lt : BOk X (rI0 fun i j => .bl (decide (i < j))) fLt := bok_i0 (g := fun i j => .bl (decide (i < j))) fun _ _ _ => .bl _
theorem bok_le : BOk X (rI0 fun i j => .bl (decide (i ≤ j))) fLe := bok_i0 (g := fun i j => .bl (decide (i ≤ j))) fun _ _ _ => .bl _
theorem bok_gt : BOk X (rI0 fun i j => .bl (decide (j < i))) fGt := bok_i0 (g := fun i j => .bl (decide (j < i))) fun _ _ _ => .bl _
theorem bok_ge : BOk X (rI0 fun i j => .bl (decide (j ≤ i))) fGe := bok_i0 (g := fun i j => .bl (decide (j ≤ i))) fun _ _ _ => .bl _
/-! ### * : ints, a tracked list and an int -/
def fMul : D → D → (R → Prop) → Prop
  | .int i, .int j, q => CMul i j ∧ q (.dat (.int (i * j)))
  | .lst a, .int k, q => -(2 ^ 63) ≤ k ∧ k < 2 ^ 63 ∧ a.length * k.toNat ≤ sizeLine ∧ q (.new (.lst (List.replicate k.toNat a).flatten))
  | _, _, _ => False
theorem DatAll.rep {T : Tx} {G : Hp} {vs : List V} {ds : List D} (h : DatAll T G vs ds) : ∀ n : Nat, DatAll T G (List.replicate n vs).flatten (List.replicate n ds).flatten
  | 0 => .nil
  | n + 1 => by
    rw [List.replicate_succ, List.replicate_succ, List.flatten_cons, List.flatten_cons]
    exact h.append (DatAll.rep h n)
/-! ### == and != -/
def fEq : D → D → (R → Prop) → Prop := fun d e q => d.ok ∧ e.ok ∧ q (.dat (.bl (d.eqv e)))
def fNe : D → D → (R → Prop) → Prop := fun d e q => d.ok ∧ e.ok ∧ q (.dat (.bl (!d.eqv e)))
theorem bok_eq : BOk X (rEqD X.K) fEq := ⟨fun G H v u d e Q q s h1 h2 f k => ⟨_, _, h1.dp s f.1, h2.dp s f.2.1, f.1, f.2.1, ret_s k (.bl _) f.2.2⟩⟩
theorem bok_ne : BOk X (rNeD X.K) fNe := ⟨fun G H v u d e Q q s h1 h2 f k => ⟨_, _, h1.dp s f.1, h2.dp s f.2.1, f.1, f.2.1, ret_s k (.bl _) f.2.2⟩⟩
/-! ### is None -/
def fIsN : D → D → (R → Prop) → Prop := fun d e q => match d, e with
  | .non, .non => q (.dat (.bl true))
  | _, .non => q (.dat (.bl false))
  | _, _ => False
def fNotN : D → D → (R → Prop) → Prop := fun d e q => match d, e with
  | .non, .non => q (.dat (.bl false))
  | _, .non => q (.dat (.bl true))
  | _, _ => False
theorem top_non {T : Tx} {G H : Hp} {v : V} : Top T G H v .non → v = .non := fun h => by
  cases (show Dat T G v .non from h); rfl
theorem top_notN {T : Tx} {G H : Hp} {v : V} {d : D} (h : Top T G H v d) (hd : d ≠ .non) : v ≠ .non := by
  cases d with
  | non => exact absurd rfl hd
  | bl b => cases h; intro z; cases z
  | int b => cases h; intro z; cases z
  | str b => cases h; intro z; cases z
  | lst ds => obtain ⟨a, xs, rfl, _⟩ := h; intro z; cases z
  | tup ds => cases (show Dat T G v (.tup ds) from h); intro z; cases z
  | tupU ds => cases (show Dat T G v (.tupU ds) from h); intro z; cases z
  | dic _ _ => obtain ⟨a, xs, rfl, _⟩ := h; intro z; cases z
  | dicT _ _ => obtain ⟨a, _, _, rfl, _⟩ := h; intro z; cases z
  | set _ => obtain ⟨a, _, _, rfl, _⟩ := h; intro z; cases z
  | obj _ _ _ => obtain ⟨a, _, _, _, rfl, _⟩ := h; intro z; cases z
theorem bok_notN : BOk X (fun x y H Q => y = .non ∧ Q (.bl (!decide (x = .non))) H) fNotN := by
  refine ⟨fun G H v u d e Q q s h1 h2 f k => ?_⟩
  unfold fNotN at f
  split at f
  · cases top_non h1
    exact ⟨top_non h2, ret_s k (.bl false) f⟩
  · rename_i hd
    have e := top_notN h1 (hd)
    refine ⟨top_non h2, ?_⟩
    rw [decide_eq_false e]
    exact ret_s k (.bl true) f
  · exact f.elim
/-! ### in: lists, tuples (of data), dicts, sets -/
def keyOf? : D → Option Key
  | .int i => some (.inl i)
  | .str x => some (.inr x)
  | _ => none
def hasK (ks : List Key) (k : Key) : Bool := ks.any fun a => decide (a = k)
def fIn (neg : Bool) : D → D → (R → Prop) → Prop := fun d e q => match e with
  | .lst ds => d.ok ∧ (D.lst ds).ok ∧ q (.dat (.bl (if neg then !ds.any (fun z => z.eqv d) else ds.any fun z => z.eqv d)))
  | .tup ds => d.ok ∧ (D.tup ds).ok ∧ q (.dat (.bl (if neg then !ds.any (fun z => z.eqv d) else ds.any fun z => z.eqv d)))
  | .dic ks ds => ∃ k, keyOf? d = some k ∧ q (.dat (.bl (if neg then !hasK ks k else hasK ks k)))
  | .dicT ks ds => ∃ k : List Int, d = .tup (k.map D.int) ∧ q (.dat (.bl (if neg then !decide (k ∈ ks) else decide (k ∈ ks))))
  | .set is => ∃ i, d = .int i ∧ q (.dat (.bl (if neg then !decide (i ∈ is) else decide (i ∈ is))))
  | _ => False
theorem pys_any {d : D} : ∀ {ds : List D}, (D.pys ds).any (fun z => PyData.eqv z d.py) = ds.any fun z => z.eqv d
  | [] => by simp only [D.pys, List.any_nil]
  | x :: r => by
    rw [D.pys, List.any_cons, List.any_cons, pys_any]
    rfl
def rDIn (neg : Bool) : R2 := fun y x H Q => ∃ a o, x = .ref a ∧ DGet H a y o ∧ Q (.bl (if neg then !o.isSome else o.isSome)) H
theorem or_din (hu : X.A.units + 1 < cLine) : OpR X (compareOp .In) (rDIn false) := by
  intro pins s σ H y x iv u Q I ry rx ⟨a, o, e, g, q⟩
  subst e
  cases rx
  exact d_in hu I g ry fun s3 I3 => ⟨.bl o.isSome, H, I3, rfl, q⟩
theorem or_dnotin (hu : X.A.units + 1 < cLine) : OpR X (compareOp .NotIn) (rDIn true) := by
  intro pins s σ H y x iv u Q I ry rx ⟨a, o, e, g, q⟩
  subst e
  cases rx
  exact d_notIn hu I g ry fun s3 I3 => ⟨.bl (!o.isSome), H, I3, rfl, q⟩
theorem or_tupIn (hu : X.A.units + 65 < cLine) : OpR X (compareOp .In) (rInDT X.K false) := by
  intro pins s σ H x y v u Q I rx ry ⟨d, ds, hd, he, sd, se, q⟩
  obtain ⟨as, p1⟩ := hd.reads I _ _ _ rx
  obtain ⟨bs, p2⟩ := he.reads I _ _ _ ry
  have hc := SeqAt.canLay_of_shaped se
  exact SeqAt.in_tuple_reads p2 p1 (by simpa only [PyData.canLay0] using hc) (SeqAt.canLay_of_shaped sd) (room_in_shaped sd hu) ⟨.bl _, H, I, rfl, q⟩
theorem or_tupNotIn (hu : X.A.units + 65 < cLine) : OpR X (compareOp .NotIn) (rInDT X.K true) := by
  intro pins s σ H x y v u Q I rx ry ⟨d, ds, hd, he, sd, se, q⟩
  obtain ⟨as, p1⟩ := hd.reads I _ _ _ rx
  obtain ⟨bs, p2⟩ := he.reads I _ _ _ ry
  have hc := SeqAt.canLay_of_shaped se
  exact SeqAt.notIn_tuple_reads p2 p1 (by simpa only [PyData.canLay0] using hc) (SeqAt.canLay_of_shaped sd) (room_in_shaped sd hu) ⟨.bl _, H, I, rfl, q⟩
def rInA (K : PySem.W.Frag) (w : World) : R2 := fun x y H Q => rInD K x y H Q ∨ rInDT K false x y H Q ∨ rDIn false x y H Q ∨ rSIn w x y H Q ∨ rTIn K false x y H Q
def rNotInA (K : PySem.W.Frag) (w : World) : R2 := fun x y H Q => rNotInD K x y H Q ∨ rInDT K true x y H Q ∨ rDIn true x y H Q ∨ rSNotIn w x y H Q ∨ rTIn K true x y H Q
theorem op_inA (hu : X.A.units + 65 < cLine) : OpR X (compareOp .In) (rInA X.K X.w) := (op_inD hu).or' ((or_tupIn hu).or' ((or_din (by omega)).or' (or_sin.or' (or_tin (by omega)))))
theorem op_notInA (hu : X.A.units + 65 < cLine) : OpR X (compareOp .NotIn) (rNotInA X.K X.w) := (op_notInD hu).or' ((or_tupNotIn hu).or' ((or_dnotin (by omega)).or' (or_snotin.or' (or_tnotin (by omega)))))
theorem valV_zip {ks : List Key} {xs : List V} (e : xs.length = ks.length) {k : Key} : (valV (ks.zip xs) k).isSome = hasK ks k := by
  induction ks generalizing xs with
  | nil => cases xs <;> rfl
  | cons a r ih =>
    cases xs with
    | nil => cases e
    | cons x xs =>
      have ih := ih (xs := xs) (by simpa using e)
      rw [List.zip_cons_cons]
      unfold hasK at ih ⊢
      rw [List.any_cons]
      by_cases h : a = k
      · rw [valV_pos (p := (a, x)) h]
        simp [h]
      · rw [valV_neg (p := (a, x)) h, ih]
        simp [h]
theorem find_zip {xs : List V} {ds : List D} {T : Tx} {G : Hp} {k : Key} : ∀ {ks : List Key}, DatAll T G xs ds → ks.length = xs.length →
    (∀ v, valV (ks.zip xs) k = some v → ∃ d, ((ks.zip ds).find? fun kd => decide (kd.1 = k)).map (·.2) = some d ∧ Dat T G v d) ∧ (valV (ks.zip xs) k = none → ((ks.zip ds).find? fun kd => decide (kd.1 = k)).map (·.2) = none) := by
  intro ks h e
  induction ks generalizing xs ds with
  | nil => exact ⟨fun v z => (nomatch z), fun _ => rfl⟩
  | cons a r ih =>
    cases h with
    | nil => cases e
    | cons hd tl =>
      rw [List.zip_cons_cons, List.zip_cons_cons]
      unfold valV
      by_cases q : a = k
      · simp only [List.find?_cons, q, decide_true, Option.map_some]
        exact ⟨fun v z => by cases z; exact ⟨_, rfl, hd⟩, fun z => nomatch z⟩
      · simp only [List.find?_cons, q, decide_false]
        exact ih tl (by simpa using e)
def dget (ks : List Key) (ds : List D) (k : Key) : Option D := ((ks.zip ds).find? fun kd => decide (kd.1 = k)).map (·.2)
def dput (ks : List Key) (ds : List D) (k : Key) (d : D) : List Key × List D := if hasK ks k then (ks, (ks.zip ds).map fun kd => if kd.1 = k then d else kd.2) else (ks ++ [k], ds ++ [d])
theorem keyOf_top {T : Tx} {G H : Hp} {v : V} {d : D} {k : Key} (h : Top T G H v d) (e : keyOf? d = some k) : v = kV k := by
  cases d with
  | int i => cases h; cases e; rfl
  | str i => cases h; cases e; rfl
  | _ => cases e
theorem dget_of {T : Tx} {G H : Hp} {a : Addr} {ks : List Key} {xs : List V} (h : Rd H a (.dK (ks.zip xs))) (k : Key) : DGet H a (kV k) (valV (ks.zip xs) k) := .inl ⟨_, k, h, rfl, rfl⟩
theorem tup_ints {T : Tx} {G : Hp} : ∀ {ys : List V} {k : List Int}, DatAll T G ys (k.map D.int) → ys = k.map V.int
  | _, [], h => by rw [List.map_nil] at h; cases h; rfl
  | _, i :: k, h => by
    rw [List.map_cons] at h
    cases h with
    | cons h t =>
      cases h
      rw [tup_ints t]
      rfl
theorem bok_in : BOk X (rInA X.K X.w) (fIn false) := by
  refine ⟨fun G H v u d e Q q s h1 h2 f k => ?_⟩
  cases e with
  | lst ds =>
    obtain ⟨f1, f2, f3⟩ := f
    have p2 := h2.dp s f2
    have f2 : SeqAt.shaped (D.lst ds).py = true := f2
    rw [py_list] at p2 f2
    refine .inl ⟨_, _, h1.dp s f1, p2, f1, f2, ?_⟩
    rw [pys_any]
    exact ret_s k (.bl _) f3
  | tup ds =>
    obtain ⟨f1, f2, f3⟩ := f
    have p2 := h2.dp s f2
    have f2 : SeqAt.shaped (D.tup ds).py = true := f2
    rw [show (D.tup ds).py = .tuple (D.pys ds) by simp only [D.py]] at p2 f2
    refine .inr (.inl ⟨_, _, h1.dp s f1, p2, f1, f2, ?_⟩)
    rw [pys_any]
    exact ret_s k (.bl _) f3
  | dic ks ds =>
    obtain ⟨ky, e, f⟩ := f
    obtain ⟨a, xs, rfl, h3, h4, h5⟩ := h2
    cases keyOf_top h1 e
    refine .inr (.inr (.inl ⟨a, _, rfl, dget_of (T := X.tx) (G := G) h3 ky, ?_⟩))
    rw [valV_zip h4]
    exact ret_s k (.bl _) f
  | dicT ks ds =>
    obtain ⟨kk, rfl, f⟩ := f
    obtain ⟨a, bs, xs, rfl, h3, h4, h5, h6⟩ := h2
    obtain ⟨b, ys, rfl, g1, g2⟩ := h1.tupN s
    have e := tup_ints g2
    subst e
    exact .inr (.inr (.inr (.inr ⟨b, a, kk, ks, bs, xs, rfl, rfl, g1.t, h3, (h5.mono (Sub.seqN s)).at, ret_s k (.bl _) f⟩)))
  | set is =>
    obtain ⟨i, rfl, f⟩ := f
    obtain ⟨a, S, n, rfl, h3, h4⟩ := h2
    cases h1
    refine .inr (.inr (.inr (.inl ⟨i, a, S, n, rfl, rfl, h3, ?_⟩)))
    rw [h4.2.2]
    exact ret_s k (.bl _) f
  | _ => exact f.elim
theorem bok_notIn : BOk X (rNotInA X.K X.w) (fIn true) := by
  refine ⟨fun G H v u d e Q q s h1 h2 f k => ?_⟩
  cases e with
  | lst ds =>
    obtain ⟨f1, f2, f3⟩ := f
    have p2 := h2.dp s f2
    have f2 : SeqAt.shaped (D.lst ds).py = true := f2
    rw [py_list] at p2 f2
    refine .inl ⟨_, _, h1.dp s f1, p2, f1, f2, ?_⟩
    rw [pys_any]
    exact ret_s k (.bl _) f3
  | tup ds =>
    obtain ⟨f1, f2, f3⟩ := f
    have p2 := h2.dp s f2
    have f2 : SeqAt.shaped (D.tup ds).py = true := f2
    rw [show (D.tup ds).py = .tuple (D.pys ds) by simp only [D.py]] at p2 f2
    refine .inr (.inl ⟨_, _, h1.dp s f1, p2, f1, f2, ?_⟩)
    rw [pys_any]
    exact ret_s k (.bl _) f3
  | dic ks ds =>
    obtain ⟨ky, e, f⟩ := f
    obtain ⟨a, xs, rfl, h3, h4, h5⟩ := h2
    cases keyOf_top h1 e
    refine .inr (.inr (.inl ⟨a, _, rfl, dget_of (T := X.tx) (G := G) h3 ky, ?_⟩))
    rw [valV_zip h4]
    exact ret_s k (.bl _) f
  | dicT ks ds =>
    obtain ⟨kk, rfl, f⟩ := f
    obtain ⟨a, bs, xs, rfl, h3, h4, h5, h6⟩ := h2
    obtain ⟨b, ys, rfl, g1, g2⟩ := h1.tupN s
    have e := tup_ints g2
    subst e
    exact .inr (.inr (.inr (.inr ⟨b, a, kk, ks, bs, xs, rfl, rfl, g1.t, h3, (h5.mono (Sub.seqN s)).at, ret_s k (.bl _) f⟩)))
  | set is =>
    obtain ⟨i, rfl, f⟩ := f
    obtain ⟨a, S, n, rfl, h3, h4⟩ := h2
    cases h1
    refine .inr (.inr (.inr (.inl ⟨i, a, S, n, rfl, rfl, h3, ?_⟩)))
    rw [h4.2.2]
    exact ret_s k (.bl _) f
  | _ => exact f.elim
end
end PV
namespace PV
open PySem PySem.Spec PyProof.Rows L2
/-! ## subscripts -/
def fIx : D → D → (R → Prop) → Prop := fun d e q => match d, e with
  | .lst ds, .int i => match atI ds i with
    | some x => q (.dat x)
    | none => False
  | .tup ds, .int i => match atI ds i with
    | some x => q (.dat x)
    | none => False
  | .tupU ds, .int i => match atI ds i with
    | some x => q (.dat x)
    | none => False
  | _, _ => False
theorem DatAll.atI {T : Tx} {G : Hp} {vs : List V} {ds : List D} (h : DatAll T G vs ds) {i : Int} {d : D} (e : L2.atI ds i = some d) : ∃ v, L2.atI vs i = some v ∧ Dat T G v d := by
  unfold L2.atI at e ⊢
  rw [h.length]
  cases q : ixN ds.length i with
  | none => rw [q] at e; cases e
  | some j =>
    rw [q] at e
    exact h.get e
def rIxA (K : PySem.W.Frag) : R2 := fun x y H Q => rIxL K x y H Q ∨ rIxT K x y H Q
theorem ix_any {X : Cx} : IxR X (rIxA X.K) := ix_list.or ix_tup
theorem bok_ix {X : Cx} : BOk X (rIxA X.K) fIx := by
  refine ⟨fun G H v u d e Q q s h1 h2 f k => ?_⟩
  cases d with
  | lst ds =>
    cases e with
    | int i =>
      obtain ⟨a, xs, rfl, h3, h4⟩ := h1
      cases h2
      have f : (match atI ds i with | some x => q (.dat x) | none => False) := f
      cases w : atI ds i with
      | none => rw [w] at f; exact f.elim
      | some x =>
        rw [w] at f
        obtain ⟨y, e1, e2⟩ := h4.atI w
        exact .inl ⟨a, xs, i, y, rfl, rfl, h3, e1, ret_s k e2 f⟩
    | _ => exact f.elim
  | tup ds =>
    cases e with
    | int i =>
      obtain ⟨a, xs, rfl, h3, h4⟩ := h1.tup s
      cases h2
      have f : (match atI ds i with | some x => q (.dat x) | none => False) := f
      cases w : atI ds i with
      | none => rw [w] at f; exact f.elim
      | some x =>
        rw [w] at f
        obtain ⟨y, e1, e2⟩ := h4.atI w
        exact .inr ⟨a, xs, i, y, rfl, rfl, h3, e1, ret_s k e2 f⟩
    | _ => exact f.elim
  | tupU ds =>
    cases e with
    | int i =>
      obtain ⟨a, xs, rfl, h3, h4⟩ := h1.tupU s
      cases h2
      have f : (match atI ds i with | some x => q (.dat x) | none => False) := f
      cases w : atI ds i with
      | none => rw [w] at f; exact f.elim
      | some x =>
        rw [w] at f
        obtain ⟨y, e1, e2⟩ := h4.atI w
        exact .inr ⟨a, xs, i, y, rfl, rfl, h3, e1, ret_s k e2 f⟩
    | _ => exact f.elim
  | _ => exact f.elim
def rDGetR : R2 := fun x y H Q => ∃ a v, x = .ref a ∧ DGet H a y (some v) ∧ Q v H
def fDGet : D → D → (R → Prop) → Prop := fun d e q => match d with
  | .dic ks ds => ∃ k x, keyOf? e = some k ∧ dget ks ds k = some x ∧ q (.dat x)
  | _ => False
theorem bok_dget {X : Cx} : BOk X rDGetR fDGet := by
  refine ⟨fun G H v u d e Q q s h1 h2 f k => ?_⟩
  cases d with
  | dic ks ds =>
    obtain ⟨ky, x, e1, e2, f⟩ := f
    obtain ⟨a, xs, rfl, h3, h4, h5⟩ := h1
    cases keyOf_top h2 e1
    obtain ⟨g1, g2⟩ := find_zip (k := ky) h5 h4.symm
    cases w : valV (ks.zip xs) ky with
    | none =>
      have e2' : ((ks.zip ds).find? fun kd => decide (kd.1 = ky)).map (·.2) = some x := e2
      rw [g2 w] at e2'
      cases e2'
    | some y =>
      obtain ⟨d', e3, dt⟩ := g1 y w
      have e2' : ((ks.zip ds).find? fun kd => decide (kd.1 = ky)).map (·.2) = some x := e2
      rw [e3] at e2'
      cases e2'
      have g := dget_of (T := X.tx) (G := G) h3 ky
      rw [w] at g
      exact ⟨a, y, rfl, g, ret_s k dt f⟩
  | _ => exact f.elim
/-! ## slices -/
def cutD (xs : List D) (lo hi : Option Int) : List D := (xs.drop (HT.sIx xs.length 0 lo)).take (HT.sIx xs.length xs.length hi - HT.sIx xs.length 0 lo)
theorem DatAll.cut {T : Tx} {G : Hp} {vs : List V} {ds : List D} (h : DatAll T G vs ds) (lo hi : Option Int) : DatAll T G (cutV vs lo hi) (cutD ds lo hi) := by
  unfold cutV cutD
  rw [h.length]
  exact (h.drop _).take _
theorem cutD_whole {xs : List D} {lo hi : Option Int} (h : HT.sIx xs.length 0 lo = 0 ∧ HT.sIx xs.length xs.length hi = xs.length) : cutD xs lo hi = xs := by
  unfold cutD
  rw [h.1, h.2]
  simp
abbrev TPo := Rho → (Option Int → Rho → Prop) → (Exn → Rho → Prop) → Prop
structure VOw (X : Cx) (W : WX) (F : Fm) (te : TO) (t : TPo) : Prop where
  ok : ∀ (pd : List (Addr × D)) (G : Hp) (ρ : Rho) (σ : L2.St) (H : Hp) (Q : Option Int → Hp → Prop) (q : Option Int → Rho → Prop) (x : Exn → Rho → Prop), Rel X.tx F pd G ρ σ H → t ρ q x →
    (∀ b ρ' G' H', Le G G' → Rel X.tx F pd G' ρ' σ H' → q b ρ' → Q b H') → WOk X W F x G σ → te σ H Q
def VO (X : Cx) (W : WX) (ex : Ex) (e : Option Expr) (t : TPo) : Prop := ∃ te, PO X e te ∧ ∀ F, F.ex = ex → VOw X W F te t
def yNoPart : TPo := fun ρ q _ => q none ρ
def yPart (t : TPe) : TPo := fun ρ q x => t ρ (fun r ρ' => match r with
  | .dat (.int i) => q (some i) ρ'
  | _ => False) x
def fSl : D → Option Int → Option Int → (R → Prop) → Prop := fun d lo hi q => match d with
  | .lst ds => q (.new (.lst (cutD ds lo hi)))
  | .tup ds => q (.dat (.tup (cutD ds lo hi)))
  | _ => False
def ySl (ta : TPe) (tl th : TPo) : TPe := fun ρ q x => ta ρ (fun r ρ1 => tl ρ1 (fun lo ρ2 => th ρ2 (fun hi ρ3 => cont ρ3 (hold r) fun d => fSl d lo hi fun res => q res ρ3) x) x) x
def rSlAny (K : PySem.W.Frag) : V → Option Int → Option Int → Hp → VK → Prop := fun x lo hi H Q => rSlL K x lo hi H Q ∨ rSlN K x lo hi H Q
section
variable {X : Cx} {W : WX} {ex : Ex} {a b c e : Expr} {es : List Expr} {ta tb tc : TPe} {t : TPa} {pos : Pos} {lo hi : Option Expr} {tl th : TPo}
theorem vo_none : VO X W ex none yNoPart := ⟨_, po_none, fun F hF => ⟨fun pd G ρ σ H Q q x R t k w => k none ρ G H (Le.refl _) R t⟩⟩
theorem vo_some (ha : VE X W ex e ta) : VO X W ex (some e) (yPart ta) := by
  obtain ⟨te, pa, wa⟩ := ha
  refine ⟨_, po_some pa, fun F hF => ⟨fun pd G ρ σ H Q q x R t k w => (wa F hF).ok pd G ρ σ H _ _ _ R t (fun r1 ρ1 v G1 H1 l1 p1 q1 => ?_) w⟩⟩
  cases r1 with
  | dat d =>
    cases d with
    | int i =>
      obtain ⟨R1, dt⟩ := p1
      cases dt
      exact ⟨i, rfl, k _ ρ1 G1 H1 l1 R1 q1⟩
    | _ => exact q1.elim
  | _ => exact q1.elim
theorem ve_sl {p2 : Pos} (ha : VE X W ex e ta) (hl : VO X W ex lo tl) (hh : VO X W ex hi th) : VE X W ex (.Subscript e (.Slice lo hi none p2) pos) (ySl ta tl th) := by
  obtain ⟨te, pa, wa⟩ := ha
  obtain ⟨tlo, pl, wl⟩ := hl
  obtain ⟨thi, ph, wh⟩ := hh
  refine ⟨_, pe_slice (r := rSlAny X.K) (sl_list.or sl_tupN) pa pl ph, fun F hF => ⟨fun pd G ρ σ H Q q x R t k w => (wa F hF).ok pd G ρ σ H _ _ _ R t (fun r1 ρ1 v G1 H1 l1 p1 q1 => ?_) w⟩⟩
  obtain ⟨G1', l1', R1, h1⟩ := p1.hold
  refine (wl F hF).ok pd G1' ρ1 σ H1 _ _ _ R1 q1 (fun l ρ2 G2 H2 l2 R2 q2 => ?_) ((w.mono l1).mono l1')
  refine (wh F hF).ok pd G2 ρ2 σ H2 _ _ _ R2 q2 (fun u ρ3 G3 H3 l3 R3 q3 => ?_) (((w.mono l1).mono l1').mono l2)
  obtain ⟨d, tp, f⟩ := RHold.cont R3 ((h1.mono l2).mono l3) q3
  have kk : ∀ res w G' H', Grow G3 H3 G' H' → ROk X.tx H3 G' H' w res → q res ρ3 → Q w H' := fun res w G4 H4 g rk qr => k res ρ3 w G4 H4 ((((l1.trans l1').trans l2).trans l3).trans g.le) (ROk.post R3 g rk) qr
  cases d with
  | lst ds =>
    obtain ⟨a, xs, rfl, h3, h4⟩ := tp
    exact .inl ⟨a, xs, rfl, h3, ret_lst R3.sub (q := fun res => q res ρ3) kk (h4.cut l u) f⟩
  | tup ds =>
    have tp0 := tp
    obtain ⟨a, xs, rfl, h3, h4⟩ := tp.tup R3.sub
    refine .inr ⟨a, xs, rfl, h3, fun z => ?_, fun _ => ret_tup R3.sub (q := fun res => q res ρ3) kk (h4.cut l u) f⟩
    rw [h4.length] at z
    have f : q (.dat (.tup (cutD ds l u))) ρ3 := f
    rw [cutD_whole z] at f
    exact ret_s (q := fun res => q res ρ3) kk tp0 f
  | _ => exact f.elim
/-! ## xs[::-1] -/
def fRev : D → (R → Prop) → Prop := fun d q => match d with
  | .lst ds => q (.new (.lst ds.reverse))
  | _ => False
/-! ## displays -/
def yLst (ta : TPa) : TPe := fun ρ q x => ta ρ (fun rs ρ1 => fixs ρ1 rs fun ds ρ2 => ds.length ≤ sizeLine ∧ q (.new (.lst ds)) ρ2) x
def yTup (ta : TPa) : TPe := fun ρ q x => ta ρ (fun rs ρ1 => fixs ρ1 rs fun ds ρ2 => ds.length ≤ sizeLine ∧ q (.dat (.tup ds)) ρ2) x
theorem RHold.fix {T : Tx} {F : Fm} {pd : List (Addr × D)} {G H : Hp} {ρ : Rho} {σ : L2.St} {v : V} {r : R} {k : D → Rho → Prop} (rl : Rel T F pd G ρ σ H) (h : RHold T G σ v r) (q : fix ρ r k) : ∃ G' ρ' d, Le G G' ∧ Rel T F pd G' ρ' σ H ∧ Dat T G' v d ∧ k d ρ' := by
  cases r with
  | dat d => exact VPost.fix (r := .dat d) ⟨rl, h⟩ q
  | new d => exact h.elim
  | fre _ _ => exact h.elim
  | loc i => exact VPost.fix (r := .loc i) ⟨rl, h⟩ q
theorem RAll.mono {T : Tx} {G G' : Hp} {σ : L2.St} (l : Le G G') : ∀ {vs : List V} {rs : List R}, RAll T G σ vs rs → RAll T G' σ vs rs
  | _, _, .nil => .nil
  | _, _, .cons h t => .cons (h.mono l) (RAll.mono l t)
theorem RAll.fixs {T : Tx} {F : Fm} {pd : List (Addr × D)} {H : Hp} {σ : L2.St} : ∀ {vs : List V} {rs : List R} {G : Hp} {ρ : Rho} {k : List D → Rho → Prop}, Rel T F pd G ρ σ H → RAll T G σ vs rs → fixs ρ rs k → ∃ G' ρ' ds, Le G G' ∧ Rel T F pd G' ρ' σ H ∧ DatAll T G' vs ds ∧ k ds ρ'
  | _, _, G, ρ, _, rl, .nil, q => ⟨G, ρ, [], Le.refl _, rl, .nil, q⟩
  | _, _, G, ρ, _, rl, .cons h t, q => by
    obtain ⟨G1, ρ1, d, l1, R1, dt, q⟩ := RHold.fix rl h q
    obtain ⟨G2, ρ2, ds, l2, R2, dts, q⟩ := RAll.fixs R1 (t.mono l1) q
    exact ⟨G2, ρ2, d :: ds, l1.trans l2, R2, .cons (dt.mono l2) dts, q⟩
theorem ve_lst (ha : VA X W ex es t) : VE X W ex (.List es pos) (yLst t) := by
  obtain ⟨te, pa, wa⟩ := ha
  refine ⟨_, pe_lst pa, fun F hF => ⟨fun pd G ρ σ H Q q x R t k w => (wa F hF).ok pd G ρ σ H _ _ _ R t (fun rs ρ1 vs G1 H1 l1 R1 h1 q1 => ?_) w⟩⟩
  obtain ⟨G2, ρ2, ds, l2, R2, dts, hl, q2⟩ := RAll.fixs R1 h1 q1
  refine ⟨by rw [dts.length]; exact hl, fun p hp => ?_⟩
  exact k (.new (.lst ds)) ρ2 _ G2 _ (l1.trans l2) (ROk.post (G' := G2) (r := .new (.lst ds)) R2 (Grow.laid hp) ⟨p, rfl, hp, R2.sub.none hp, vs, upd_same, dts⟩) q2
theorem ve_tup {x1} (ha : VA X W ex es t) : VE X W ex (.Tuple es x1 pos) (yTup t) := by
  obtain ⟨te, pa, wa⟩ := ha
  refine ⟨_, pe_tupN pa, fun F hF => ⟨fun pd G ρ σ H Q q x R t k w => (wa F hF).ok pd G ρ σ H _ _ _ R t (fun rs ρ1 vs G1 H1 l1 R1 h1 q1 => ?_) w⟩⟩
  obtain ⟨G2, ρ2, ds, l2, R2, dts, hl, q2⟩ := RAll.fixs R1 h1 q1
  refine ⟨by rw [dts.length]; exact hl, fun p o ho hp => ?_⟩
  have gn := R2.sub.none hp
  exact k (.dat (.tup ds)) ρ2 _ (upd G2 p o) _ ((l1.trans l2).trans (Le.upd gn)) (ROk.post (r := .dat (.tup ds)) R2 (Grow.laidF R2.sub hp) (.tup (.inl ⟨o, upd_same, ho⟩) (dts.mono (Le.upd gn)))) q2
def yDNew : TPe := fun ρ q _ => q (.new (.dic [] [])) ρ
/-! ## tests -/
def asB (r : R) (k : Bool → Prop) : Prop := match r with
  | .dat (.bl b) => k b
  | _ => False
def yT (te : TPe) : TPt := fun ρ q x => te ρ (fun r ρ' => asB r fun b => q b ρ') x
theorem yT_of {T : Tx} {F : Fm} {pd : List (Addr × D)} {G H : Hp} {ρ : Rho} {σ : L2.St} {v : V} {r : R} {k : Bool → Prop} (p : VPost T F pd G σ H v ρ r) (h : asB r k) : ∃ b, v = .bl b ∧ Rel T F pd G ρ σ H ∧ k b := by
  cases r with
  | dat d =>
    cases d with
    | bl b =>
      obtain ⟨R1, dt⟩ := p
      cases dt
      exact ⟨b, rfl, R1, h⟩
    | _ => exact h.elim
  | _ => exact h.elim
theorem ve_cmp {op : CmpOp} {r : V → V → Hp → VK → Prop} {f : D → D → (R → Prop) → Prop} (ho : OpR X (compareOp op) r) (ok : BOk X r f) (ha : VE X W ex a ta) (hb : VE X W ex b tb) (hm : behindInMarks op b = false := by first | exact nobehind _ (by decide) (by decide) | rfl) :
    VE X W ex (.Compare a [op] [b] pos) (yB f ta tb) := ve_b (fun _ _ h1 h2 => pe_cmpR ho h1 h2 hm) ok ha hb
theorem ve_bw {r : V → V → Hp → VK → Prop} {f : D → D → (R → Prop) → Prop} {F : Fm} {te tf : TE} (ok : BOk X r f) (wa : VEw X W F te ta) (wb : VEw X W F tf tb) : VEw X W F (tOp r te tf) (yB f ta tb) := by
  refine ⟨fun pd G ρ σ H Q q x R t k w => wa.ok pd G ρ σ H _ _ _ R t (fun r1 ρ1 v G1 H1 l1 p1 q1 => ?_) w⟩
  obtain ⟨G1', l1', R1, h1⟩ := p1.hold
  refine wb.ok pd G1' ρ1 σ H1 _ _ _ R1 q1 (fun r2 ρ2 u G2 H2 l2 p2 q2 => ?_) ((w.mono l1).mono l1')
  obtain ⟨d, tp1, q2⟩ := RHold.cont p2.rel (h1.mono l2) q2
  obtain ⟨e, R2, tp2, fd⟩ := p2.cont q2
  exact ok.ok G2 H2 v u d e _ _ R2.sub tp1 tp2 fd fun res w G3 H3 g rk qr => k res ρ2 w G3 H3 (((l1.trans l1').trans l2).trans g.le) (ROk.post R2 g rk) qr
theorem vt_of {F : Fm} {te : TE} (wa : VEw X W F te ta) : VTw X W F (fun σ H Q => te σ H fun x H' => ∃ k, x = .bl k ∧ Q k H') (yT ta) := by
  refine ⟨fun pd G ρ σ H Q q x R t k w => wa.ok pd G ρ σ H _ _ _ R t (fun r1 ρ1 v G1 H1 l1 p1 q1 => ?_) w⟩
  obtain ⟨b, rfl, R1, qb⟩ := yT_of p1 q1
  exact ⟨b, rfl, k b ρ1 G1 H1 l1 R1 qb⟩
theorem vt_cmp {op : CmpOp} {r : V → V → Hp → VK → Prop} {f : D → D → (R → Prop) → Prop} (ho : OpR X (compareOp op) r) (ok : BOk X r f) (ha : VE X W ex a ta) (hb : VE X W ex b tb) (hm : behindInMarks op b = false := by first | exact nobehind _ (by decide) (by decide) | rfl) :
    VT X W ex (.Compare a [op] [b] pos) (yT (yB f ta tb)) := by
  obtain ⟨te, pa, wa⟩ := ha
  obtain ⟨tf, pb, wb⟩ := hb
  exact ⟨_, pt_cmpR ho pa pb hm, fun F hF => vt_of (ve_bw ok (wa F hF) (wb F hF))⟩
/-- a op b op' c -/
def yCh (f g : D → D → (R → Prop) → Prop) (ta tb tc : TPe) : TPe := fun ρ q x => ta ρ (fun r ρ1 => tb ρ1 (fun s ρ2 => cont ρ2 (hold r) fun d => cont ρ2 (hold s) fun e => f d e fun res => asB res fun b =>
  if b = true then tc ρ2 (fun u ρ3 => cont ρ3 (hold s) fun e' => cont ρ3 u fun k => g e' k fun res => q res ρ3) x else q (.dat (.bl false)) ρ2) x) x
theorem ve_chw {r r' : V → V → Hp → VK → Prop} {f g : D → D → (R → Prop) → Prop} {F : Fm} {te tf tg : TE} (ok : BOk X r f) (ok' : BOk X r' g) (wa : VEw X W F te ta) (wb : VEw X W F tf tb) (wc : VEw X W F tg tc) : VEw X W F (tChain r r' te tf tg) (yCh f g ta tb tc) := by
  refine ⟨fun pd G ρ σ H Q q x R t k w => wa.ok pd G ρ σ H _ _ _ R t (fun r1 ρ1 v G1 H1 l1 p1 q1 => ?_) w⟩
  obtain ⟨G1', l1', R1, h1⟩ := p1.hold
  refine wb.ok pd G1' ρ1 σ H1 _ _ _ R1 q1 (fun r2 ρ2 u G2 H2 l2 p2 q2 => ?_) ((w.mono l1).mono l1')
  obtain ⟨G2', l2', R2, h2⟩ := p2.hold
  obtain ⟨d, tp1, q2⟩ := RHold.cont R2 ((h1.mono l2).mono l2') q2
  obtain ⟨e, tp2, fd⟩ := RHold.cont R2 h2 q2
  refine ok.ok G2' H2 v u d e _ _ R2.sub tp1 tp2 fd fun res y G3 H3 gr rk qr => ?_
  obtain ⟨b, rfl, R3, qb⟩ := yT_of (ROk.post R2 gr rk) qr
  refine ⟨b, rfl, ?_⟩
  have l3 : Le G G3 := (((l1.trans l1').trans l2).trans l2').trans gr.le
  cases b with
  | false => exact iteF (k (.dat (.bl false)) ρ2 _ G3 H3 l3 ⟨R3, .bl false⟩ (by simpa using qb))
  | true =>
    have qb : tc ρ2 (fun u ρ3 => cont ρ3 (hold r2) fun e' => cont ρ3 u fun k' => g e' k' fun res => q res ρ3) x := by simpa using qb
    refine iteT (wc.ok pd G3 ρ2 σ H3 _ _ _ R3 qb (fun r4 ρ4 z G4 H4 l4 p4 q4 => ?_) (w.mono l3))
    obtain ⟨e', tp3, q5⟩ := RHold.cont p4.rel ((h2.mono gr.le).mono l4) q4
    obtain ⟨e4, R4, tp4, fd4⟩ := p4.cont q5
    exact ok'.ok G4 H4 u z e' e4 _ _ R4.sub tp3 tp4 fd4 fun res y G5 H5 g5 rk5 qr5 => k res ρ4 y G5 H5 ((l3.trans l4).trans g5.le) (ROk.post R4 g5 rk5) qr5
theorem ve_ch {op op' : CmpOp} {r r' : V → V → Hp → VK → Prop} {f g : D → D → (R → Prop) → Prop} (ho : OpR X (compareOp op) r) (ok : BOk X r f) (ho' : OpR X (compareOp op') r') (ok' : BOk X r' g) (ha : VE X W ex a ta) (hb : VE X W ex b tb) (hc : VE X W ex c tc)
    (hm : lastMarks [op, op'] [b, c] = false := by with_unfolding_all rfl) : VE X W ex (.Compare a [op, op'] [b, c] pos) (yCh f g ta tb tc) := by
  obtain ⟨te, pa, wa⟩ := ha
  obtain ⟨tf, pb, wb⟩ := hb
  obtain ⟨tg, pc, wc⟩ := hc
  exact ⟨_, pe_chain ho ho' pa pb pc hm, fun F hF => ve_chw ok ok' (wa F hF) (wb F hF) (wc F hF)⟩
theorem vt_ch {op op' : CmpOp} {r r' : V → V → Hp → VK → Prop} {f g : D → D → (R → Prop) → Prop} (ho : OpR X (compareOp op) r) (ok : BOk X r f) (ho' : OpR X (compareOp op') r') (ok' : BOk X r' g) (ha : VE X W ex a ta) (hb : VE X W ex b tb) (hc : VE X W ex c tc)
    (hm : lastMarks [op, op'] [b, c] = false := by with_unfolding_all rfl) : VT X W ex (.Compare a [op, op'] [b, c] pos) (yT (yCh f g ta tb tc)) := by
  obtain ⟨te, pa, wa⟩ := ha
  obtain ⟨tf, pb, wb⟩ := hb
  obtain ⟨tg, pc, wc⟩ := hc
  exact ⟨_, pt_chain ho ho' pa pb pc hm, fun F hF => vt_of (ve_chw ok ok' (wa F hF) (wb F hF) (wc F hF))⟩
/-! ### and, or, not -/
def yAnd (t u : TPt) : TPt := fun ρ q x => t ρ (fun b ρ1 => if b = true then u ρ1 q x else q false ρ1) x
def yOr (t u : TPt) : TPt := fun ρ q x => t ρ (fun b ρ1 => if b = true then q true ρ1 else u ρ1 q x) x
def yNot (t : TPt) : TPt := fun ρ q x => t ρ (fun b ρ1 => q (!b) ρ1) x
variable {tA tB : TPt} {rest : List Expr}
theorem vw_and1 (ha : VT X W ex a tA) : VW X W ex (.BoolOp .And [a] pos) tA := let ⟨_, pa, wa⟩ := ha; ⟨_, pw_and1 pa, wa⟩
theorem vw_or1 (ha : VT X W ex a tA) : VW X W ex (.BoolOp .Or [a] pos) tA := let ⟨_, pa, wa⟩ := ha; ⟨_, pw_or1 pa, wa⟩
theorem vw_and (ha : VT X W ex a tA) (hb : VW X W ex (.BoolOp .And (b :: rest) pos) tB) : VW X W ex (.BoolOp .And (a :: b :: rest) pos) (yAnd tA tB) := by
  obtain ⟨te, pa, wa⟩ := ha
  obtain ⟨tf, pb, wb⟩ := hb
  refine ⟨_, pw_and pa pb, fun F hF => ⟨fun pd G ρ σ H Q q x R t k w => (wa F hF).ok pd G ρ σ H _ _ _ R t (fun c ρ1 G1 H1 l1 R1 q1 => ?_) w⟩⟩
  cases c with
  | true => exact (wb F hF).ok pd G1 ρ1 σ H1 _ _ _ R1 (by simpa using q1) (fun b ρ2 G2 H2 l2 R2 q2 => k b ρ2 G2 H2 (l1.trans l2) R2 q2) (w.mono l1)
  | false => exact k false ρ1 G1 H1 l1 R1 (by simpa using q1)
theorem vw_or (ha : VT X W ex a tA) (hb : VW X W ex (.BoolOp .Or (b :: rest) pos) tB) : VW X W ex (.BoolOp .Or (a :: b :: rest) pos) (yOr tA tB) := by
  obtain ⟨te, pa, wa⟩ := ha
  obtain ⟨tf, pb, wb⟩ := hb
  refine ⟨_, pw_or pa pb, fun F hF => ⟨fun pd G ρ σ H Q q x R t k w => (wa F hF).ok pd G ρ σ H _ _ _ R t (fun c ρ1 G1 H1 l1 R1 q1 => ?_) w⟩⟩
  cases c with
  | false => exact (wb F hF).ok pd G1 ρ1 σ H1 _ _ _ R1 (by simpa using q1) (fun b ρ2 G2 H2 l2 R2 q2 => k b ρ2 G2 H2 (l1.trans l2) R2 q2) (w.mono l1)
  | true => exact k true ρ1 G1 H1 l1 R1 (by simpa using q1)
theorem vt_bool (h : VW X W ex a tA) : VT X W ex a tA := let ⟨_, pa, wa⟩ := h; ⟨_, pa.pt, wa⟩
theorem vt_not (ha : VT X W ex a tA) : VT X W ex (.UnaryOp .Not a pos) (yNot tA) := by
  obtain ⟨te, pa, wa⟩ := ha
  exact ⟨_, pt_not pa, fun F hF => ⟨fun pd G ρ σ H Q q x R t k w => (wa F hF).ok pd G ρ σ H _ _ _ R t (fun c ρ1 G1 H1 l1 R1 q1 => k _ ρ1 G1 H1 l1 R1 q1) w⟩⟩
/-- .. as values, of bools -/
def yAndV (ta tb : TPe) : TPe := fun ρ q x => ta ρ (fun r ρ1 => asB r fun b => if b = true then tb ρ1 q x else q (.dat (.bl false)) ρ1) x
def yOrV (ta tb : TPe) : TPe := fun ρ q x => ta ρ (fun r ρ1 => asB r fun b => if b = true then q (.dat (.bl true)) ρ1 else tb ρ1 q x) x
def yNotV (ta : TPe) : TPe := fun ρ q x => ta ρ (fun r ρ1 => asB r fun b => q (.dat (.bl (!b))) ρ1) x
theorem ve_one {op} (h : VE X W ex a ta) : VE X W ex (.BoolOp op [a] pos) ta := let ⟨_, pa, wa⟩ := h; ⟨_, pe_one pa, wa⟩
theorem ve_and (ha : VE X W ex a ta) (hb : VE X W ex (.BoolOp .And (b :: rest) pos) tb) : VE X W ex (.BoolOp .And (a :: b :: rest) pos) (yAndV ta tb) := by
  obtain ⟨te, pa, wa⟩ := ha
  obtain ⟨tf, pb, wb⟩ := hb
  refine ⟨_, pe_and pa pb, fun F hF => ⟨fun pd G ρ σ H Q q x R t k w => (wa F hF).ok pd G ρ σ H _ _ _ R t (fun r1 ρ1 v G1 H1 l1 p1 q1 => ?_) w⟩⟩
  obtain ⟨c, rfl, R1, qb⟩ := yT_of p1 q1
  refine ⟨c, rfl, ?_⟩
  cases c with
  | true => exact iteT ((wb F hF).ok pd G1 ρ1 σ H1 _ _ _ R1 (by simpa using qb) (fun r ρ2 v G2 H2 l2 p2 q2 => k r ρ2 v G2 H2 (l1.trans l2) p2 q2) (w.mono l1))
  | false => exact iteF (k (.dat (.bl false)) ρ1 _ G1 H1 l1 ⟨R1, .bl false⟩ (by simpa using qb))
theorem ve_not (ha : VE X W ex a ta) : VE X W ex (.UnaryOp .Not a pos) (yNotV ta) := by
  obtain ⟨te, pa, wa⟩ := ha
  refine ⟨_, pe_not pa, fun F hF => ⟨fun pd G ρ σ H Q q x R t k w => (wa F hF).ok pd G ρ σ H _ _ _ R t (fun r1 ρ1 v G1 H1 l1 p1 q1 => ?_) w⟩⟩
  obtain ⟨c, rfl, R1, qb⟩ := yT_of p1 q1
  exact ⟨c, rfl, k (.dat (.bl (!c))) ρ1 _ G1 H1 l1 ⟨R1, .bl _⟩ qb⟩
def yIf (t : TPt) (ta tb : TPe) : TPe := fun ρ q x => t ρ (fun b ρ1 => if b = true then ta ρ1 q x else tb ρ1 q x) x
/-! ### a value's truth -/
def truD : D → Option Bool
  | .non => some false
  | .bl b => some b
  | .int i => some (i != 0)
  | .lst ds => some (!ds.isEmpty)
  | .tup ds => some (!ds.isEmpty)
  | _ => none
def yTru (ta : TPe) : TPt := fun ρ q x => ta ρ (fun r ρ1 => cont ρ1 r fun d => ∃ b, truD d = some b ∧ q b ρ1) x
theorem DatAll.isEmpty {T : Tx} {G : Hp} {vs : List V} {ds : List D} (h : DatAll T G vs ds) : vs.isEmpty = ds.isEmpty := by cases h <;> rfl
theorem tru_top {T : Tx} {G H : Hp} {v : V} {d : D} {b : Bool} (s : Sub G H) (h : Top T G H v d) (e : truD d = some b) : TruV T.K v H b := by
  cases d with
  | non => cases h; cases e; rfl
  | bl i => cases h; cases e; rfl
  | int i => cases h; cases e; rfl
  | lst ds =>
    obtain ⟨a, xs, rfl, h3, h4⟩ := h
    cases e
    exact .inl ⟨xs, h3, by rw [h4.isEmpty]⟩
  | tup ds =>
    obtain ⟨a, xs, rfl, h3, h4⟩ := h.tup s
    cases e
    exact .inr (.inl ⟨xs, h3, by rw [h4.isEmpty]⟩)
  | _ => cases e
theorem vt_tru (ha : VE X W ex a ta) (he : ∀ whole, isTrue a X.env whole = (do let v ← whole; standAt a.pos; holding [v] (truthy v)) := by intro _; rfl) : VT X W ex a (yTru ta) := by
  obtain ⟨te, pa, wa⟩ := ha
  refine ⟨_, pt_truth pa he, fun F hF => ⟨fun pd G ρ σ H Q q x R t k w => (wa F hF).ok pd G ρ σ H _ _ _ R t (fun r1 ρ1 v G1 H1 l1 p1 q1 => ?_) w⟩⟩
  obtain ⟨d, R1, tp, b, e, qb⟩ := p1.cont q1
  exact ⟨b, tru_top R1.sub tp e, k b ρ1 G1 H1 l1 R1 qb⟩
end
end PV
/-! enumerate(t) over a tuple; a for over what is a list or a tuple -/
namespace PySem
open Sem (wp)
theorem enum_newV {v : Value} {o : Obj} {Hh : Heap → Prop} (B : Begins v o Hh) :
    Meets (Builtin.«enumerate.__new__» ⟨[.type "enumerate", v], []⟩) (fun _ R s => Hh s.heap ∧
      R (.ok (.ret (.ref (s.heap.push o).objs.size))) { s with heap := (s.heap.push o).push { cls := .type "enumerate", data := .fields #[.none, .bool false, .ref s.heap.objs.size, rawInt 0, .none, .none] } }) :=
  .of_wp fun prog w A R s h => by
    obtain ⟨hp, g, d, tk, os⟩ := s
    obtain ⟨h1, h⟩ := h
    have hsub := sub_enumerate
    have go : ∀ {A' : Around} {E : Value → Shared → Prop} {Q : Value → Shared → Prop}, Q (.ref hp.objs.size) ⟨hp.push o, g, d, tk, os⟩ → wpAny (model prog w) A' (pyIter v) Q E ⟨hp, g, d, tk, os⟩ :=
      fun q => B.iter prog w _ _ ⟨hp, g, d, tk, os⟩ _ h1 q
    wp_walk using go
    refine wpAny_stack_any fun st => wpAny_pure ?_
    split
    · rename_i c _ _ _ _ _
      cases (c == Value.type "enumerate")
      · wp_walk using go
        exact ⟨_, rfl, h⟩
      · wp_walk using go
        exact ⟨_, rfl, h⟩
    · wp_walk using go
      exact ⟨_, rfl, h⟩
theorem enum_call {prog : Program} {w : World} {A : Around} {E : Value → Shared → Prop} {s : Shared} {v : Value} {o : Obj} {Hh : Heap → Prop} {Q : Value → Shared → Prop} (B : Begins v o Hh) (h1 : Hh s.heap)
    (h : ∀ h', IsEnum h' (s.heap.objs.size + 1) s.heap.objs.size 0 .none → h'.get? s.heap.objs.size = some o → (∀ b o, s.heap.get? b = some o → h'.get? b = some o) → Q (.ref (s.heap.objs.size + 1)) { s with heap := h' }) :
    wpAny (model prog w) A (call (.type "enumerate") [v]) Q E s := by
  refine callType_new F.called_enumerate (by decide) (F.typeCall_enumerate_1 _) (F.newCall_enumerate_1 _) (fun obj => F.args_object_init_2 obj _) F.entry_enumerate_new (enum_newV B) ⟨h1, ?_⟩
  have hz : (s.heap.push o).objs.size = s.heap.objs.size + 1 := Heap.size_push ..
  show _ ∧ _
  rw [hz]
  have he : IsEnum ((s.heap.push o).push { cls := .type "enumerate", data := .fields #[.none, .bool false, .ref s.heap.objs.size, rawInt 0, .none, .none] }) (s.heap.objs.size + 1) s.heap.objs.size 0 .none := by
    have q := Heap.get?_push_size (s.heap.push o) (o := { cls := .type "enumerate", data := .fields #[.none, .bool false, .ref s.heap.objs.size, rawInt 0, .none, .none] }) rfl
    rw [hz] at q
    exact q
  exact ⟨⟨_, he, rfl⟩, h _ he (Heap.get?_push_of_some _ (Heap.get?_push_size _ B.free)) fun b u x => Heap.get?_push_of_some _ (Heap.get?_push_of_some _ x)⟩
end PySem
namespace L2
open PySem PySem.Spec PyProof.Rows
/-- the tuple at a, each item in a new pair -/
def IteT (K : PySem.W.Frag) (a : Addr) : It :=
  ⟨fun i H => ∃ (xs : List V) (x : V), SqT K H a xs ∧ xs[i]? = some x, fun i H v H' => ∃ U x, v = .ref U ∧ H U = none ∧ H' = upd H U (.tup [.int (i : Nat), x]) ∧ ∀ xs, SqT K H a xs → xs[i]? = some x, fun i H => ∃ xs : List V, SqT K H a xs ∧ xs.length = i⟩
theorem walk_enumT {K : PySem.W.Frag} {a : Addr} {xs : List V} : Walk (IteT K a) xs.length (fun H => SqT K H a xs) (YPair (fun i => some (.int (i : Nat))) (fun i => xs[i]?)) := by
  refine ⟨fun i _ hi q => ⟨xs, xs[i], q, by simp [hi]⟩, fun _ q => ⟨xs, q, rfl⟩, fun i H v H' _ q y => ?_⟩
  obtain ⟨U, x, h1, h2, h3, h4⟩ := y
  exact ⟨U, .int (i : Nat), x, h1, h2, h3, rfl, h4 xs q⟩
theorem turn_enumT {P : Program} {w : World} {K : PySem.W.Frag} {elts : List Expr} {kk : Nat} {tpos : Pos} (a e it : Addr) :
    Turn P w K (.Tuple elts kk tpos) (IteT K a) [e, it] e (fun i h => (∃ old, IsEnum h e it ((i : Nat) : Int) old) ∧ h.IsTupleIter it a i ∧ e ≠ it ∧ a ≠ it ∧ e ≠ a) where
  mem := by simp
  obj := fun i h st b hb => by
    obtain ⟨⟨old, he⟩, ⟨o, ho, hc, hd⟩, _⟩ := st
    rcases (show b = e ∨ b = it by simpa using hb) with z | z
    · rw [z]; exact ⟨_, he, fun v q => nomatch q⟩
    · rw [z]; exact ⟨o, ho, fun v q => by rw [hd] at q; cases q⟩
  keep := fun i h h' st k => by
    obtain ⟨⟨old, he⟩, hi, hne⟩ := st
    exact ⟨⟨old, k e (by simp) _ he⟩, hi.at fun o q => k it (by simp) o q, hne⟩
  item := by
    intro X hP hw hK hc i pins s σ H E I hf st hg
    subst hP hw hK
    obtain ⟨⟨old, he⟩, hit, hne, hai, hea⟩ := st
    obtain ⟨xs, x, hq, hx⟩ := hg
    obtain ⟨its, rv, p, hz⟩ := I.tuple hq
    obtain ⟨u, hu, ru⟩ := rv.get hx
    have hel : e < s.heap.objs.size := Heap.lt_size he
    have hil : it < s.heap.objs.size := by obtain ⟨_, q, _⟩ := hit; exact Heap.lt_size q
    have hlt : i < its.toArray.size := by
      rw [List.size_toArray, ← rv.length]
      exact (List.getElem?_eq_some_iff.mp hx).1
    have hh : X.A.in1.handled = none := by simp [I.ok.hd hc]
    refine wpAny_pyNext_enum_itemC (Draws.tuple hh it a hai its.toArray) he ⟨hit, p⟩ hlt hne (by simp [hne, hea]) fun y h' tk hy ho hst hT hsz hk => ?_
    have ey : y = u := by
      have hu' : its.toArray[i]? = some u := by simpa using hu
      rw [hu'] at hy
      exact (Option.some.inj hy).symm
    subst ey
    obtain ⟨hit', _⟩ := hst
    refine ⟨_, rfl, wpAny_letOwnedTupleGo_enum (s := { s with heap := h', toks := tk + 1 }) ho fun h'' he' sb => ?_⟩
    have hT2 : h''.get? s.heap.objs.size = some { cls := .type "tuple", data := .seq #[.int i tk, y] } := (sb.2 _ (Nat.ne_of_gt hel)).trans hT
    have new : ObjOk X.prog X.w (upd H s.heap.objs.size (.tup [.int (i : Nat), x])) h'' s.heap.objs.size (.tup [.int (i : Nat), x]) :=
      ⟨by show 2 ≤ sizeLine; decide, [.int i tk, y], .cons ⟨_, rfl⟩ (.cons ru .nil), ⟨_, hT2, rfl, _, rfl⟩⟩
    have I1 : Inv X pins σ (upd H s.heap.objs.size (.tup [.int (i : Nat), x])) { s with heap := h'', toks := tk + 1 } :=
      I.turnedNew (ch := [e, it]) (fun b ob hb q => (sb.2 b (fun z => hb (by simp [z]))).trans (hk b ob (fun z => hb (by simp [z])) (fun z => hb (by simp [z])) q)) hf (Nat.le_refl _) new
    refine ⟨.ref s.heap.objs.size, _, I1, rfl, ⟨_, x, rfl, I.hok.fresh (Nat.le_refl _), rfl, fun ys hy => by rw [I.tuple_inj hy hq]; exact hx⟩, ⟨⟨y, ?_⟩, hit'.at fun o q => (sb.2 it (Ne.symm hne)).trans q, hne, hai, hea⟩, fun b hb => ?_⟩
    · have e1 : ((i + 1 : Nat) : Int) = (i : Int) + 1 := by omega
      rw [e1]
      exact he'
    · have hb' : b < s.heap.objs.size := by
        rcases (show b = e ∨ b = it by simpa using hb) with z | z
        · rw [z]; exact hel
        · rw [z]; exact hil
      rw [upd_ne (Nat.ne_of_lt hb')]
      exact (hf b hb).1
  done := by
    intro X hP hw hK hc i pins s σ H E I hf st hg
    subst hP hw hK
    obtain ⟨⟨old, he⟩, hit, hne, hai, hea⟩ := st
    obtain ⟨xs, hq, hx⟩ := hg
    obtain ⟨its, rv, p, hz⟩ := I.tuple hq
    obtain ⟨f0, f1, f2, f3, f4, f5⟩ := hf it (by simp)
    have hh : X.A.in1.handled = none := by simp [I.ok.hd hc]
    have hi : i = its.toArray.size := by rw [List.size_toArray, ← rv.length]; exact hx.symm
    subst hi
    exact wpAny_pyNext_enum_endD (Draws.tuple hh it a hai its.toArray) he ⟨hit, p⟩ fun h' eb => ⟨rfl, I.turned (t' := s.toks) (fun b o hb q => eb b o hb q) f0 f1 f3 f4 f5⟩
  self := fun A i s Q E st h => by
    obtain ⟨⟨_, he⟩, _⟩ := st
    exact wpAny_pyIter_enum he h
/-- enumerate(e), e a list or a tuple -/
def iEnumA (K : PySem.W.Frag) (ta : TA) : TI := fun σ H R => ta σ H fun vs H1 => ∃ a, vs = [.ref a] ∧ ((∃ xs, SqL K H1 a xs) ∧ R (Ite K a) H1 ∨ (∃ xs, SqT K H1 a xs) ∧ R (IteT K a) H1)
theorem pi_enumA {X : Cx} {e : Expr} {ta : TA} {p pos tpos : Pos} {elts : List Expr} {kk : Nat} (hg : Gl X "enumerate") (hm : X.mg "enumerate" = none) (ha : PA X [e] ta) (hs : starEach [e] X.env = [(false, eval e X.env)] := by rfl) :
    PI X (.Tuple elts kk tpos) (.Call (.Name "enumerate" p) [e] [] pos) (iEnumA X.K ta) := by
  refine ⟨fun pins s σ H R I h => ?_⟩
  refine Call_ (ld_blt I hg hm boot_enumerate (PyProof.Rows.callWith_type1 (thn (ha.run pos pins s σ H _ I h) fun us s1 ⟨vs, H1, I1, r1, q1⟩ => ?_) hs rfl))
  obtain ⟨a, ex, q⟩ := q1
  subst ex
  cases r1 with
  | cons r rr =>
    cases rr
    cases r
    have far : ∀ b : Addr, (b = s1.heap.objs.size + 1 ∨ b = s1.heap.objs.size) → FpOk X pins H1 b := fun b z => by
      have hle : s1.heap.objs.size ≤ b := by
        rcases z with z | z
        · rw [z]; exact Nat.le_add_right _ _
        · rw [z]; exact Nat.le_refl _
      exact I1.fpOk hle (I1.hok.fresh hle)
    rcases q with ⟨⟨xs, hq⟩, q⟩ | ⟨⟨xs, hq⟩, q⟩
    · obtain ⟨its, rv, p', hz⟩ := I1.list hq
      refine call_enumerate_list p'.isList fun h' he hit hsz hk => wpAny_pyIter_enum he ?_
      exact ⟨s1.heap.objs.size + 1, [s1.heap.objs.size + 1, s1.heap.objs.size], _, _, H1, rfl, I1.kept (t' := s1.toks) hk, turn_enum a _ _, ⟨⟨.none, he⟩, hit, Nat.succ_ne_self _⟩, fun b hb => far b (by simpa using hb), q⟩
    · obtain ⟨its, rv, p', hz⟩ := I1.tuple hq
      refine enum_call (begins_tuple a its.toArray) p' fun h' he hit hk => wpAny_pyIter_enum he ?_
      have hlt : a < s1.heap.objs.size := by obtain ⟨o, e, _⟩ := p'; exact Heap.lt_size e
      refine ⟨s1.heap.objs.size + 1, [s1.heap.objs.size + 1, s1.heap.objs.size], _, _, H1, rfl, I1.kept (t' := s1.toks) hk, turn_enumT a _ _, ⟨⟨.none, he⟩, ⟨_, hit, rfl, rfl⟩, Nat.succ_ne_self _, Nat.ne_of_lt hlt, ?_⟩, fun b hb => far b (by simpa using hb), q⟩
      exact Nat.ne_of_gt (Nat.lt_succ_of_lt hlt)
/-- a for over e, a list or a tuple -/
def iSeq (K : PySem.W.Frag) (tl : TE) : TI := fun σ H R => tl σ H fun x H1 => ∃ a, x = .ref a ∧ ((∃ xs, SqL K H1 a xs) ∧ R (Itl K a) H1 ∨ (∃ xs, SqT K H1 a xs) ∧ R (Itt K a) H1)
theorem pi_seq {X : Cx} {tg l : Expr} {tl : TE} (hl : PE X l tl) : PI X tg l (iSeq X.K tl) := by
  refine ⟨fun pins s σ H R I h => ?_⟩
  refine thn (hl.run pins s σ H _ I h) fun v s1 ⟨x, H1, I1, r1, a, ex, q⟩ => ?_
  subst ex
  cases r1
  have far : ∀ b : Addr, b ∈ [s1.heap.objs.size] → FpOk X pins H1 b := fun b hb => by
    have e : b = s1.heap.objs.size := by simpa using hb
    subst e
    exact I1.fpOk (Nat.le_refl _) (I1.hok.fresh (Nat.le_refl _))
  rcases q with ⟨⟨xs, hq⟩, q⟩ | ⟨⟨xs, hq⟩, q⟩
  · obtain ⟨its, rv, p, hz⟩ := I1.list hq
    refine wpAny_pyIter_list p.isList ?_
    exact ⟨s1.heap.objs.size, [s1.heap.objs.size], _, _, H1, rfl, I1.kept (t' := s1.toks) fun b o e => Heap.get?_push_of_some _ e, turn_list a _, ⟨_, Heap.get?_push_size _ rfl, rfl, rfl⟩, far, q⟩
  · obtain ⟨its, rv, p, hz⟩ := I1.tuple hq
    refine wpAny_pyIter_tuple p ?_
    exact ⟨s1.heap.objs.size, [s1.heap.objs.size], _, _, H1, rfl, I1.kept (t' := s1.toks) fun b o e => Heap.get?_push_of_some _ e, turn_tuple a _, ⟨_, Heap.get?_push_size _ rfl, rfl, rfl⟩, far, q⟩
end L2
namespace PV
open PySem PySem.Spec PyProof.Rows L2
/-! ## statements -/
structure PEnds where
  nx : Rho → Prop
  rt : R → Rho → Prop
  xc : Exn → Rho → Prop
  bk : Rho → Prop := fun _ => False
  ct : Rho → Prop := fun _ => False
abbrev TPs := PEnds → Rho → Prop
structure EOk (X : Cx) (W : WX) (F : Fm) (d : PEnds) (D : Ends) (G : Hp) : Prop where
  nx : ∀ ρ σ G' H, Le G G' → Rel X.tx F [] G' ρ σ H → d.nx ρ → D.nx σ H
  bk : ∀ ρ σ G' H, Le G G' → Rel X.tx F [] G' ρ σ H → d.bk ρ → D.bk σ H
  ct : ∀ ρ σ G' H, Le G G' → Rel X.tx F [] G' ρ σ H → d.ct ρ → D.ct σ H
  rt : ∀ r ρ σ v G' H, Le G G' → VPost X.tx F [] G' σ H v ρ r → d.rt r ρ → D.rt v H
  xc : ∀ σ, WOk X W F d.xc G σ
theorem EOk.mono {X : Cx} {W : WX} {F : Fm} {d : PEnds} {D : Ends} {G G' : Hp} (l : Le G G') (h : EOk X W F d D G) : EOk X W F d D G' :=
  ⟨fun ρ σ G2 H l2 => h.nx ρ σ G2 H (l.trans l2), fun ρ σ G2 H l2 => h.bk ρ σ G2 H (l.trans l2), fun ρ σ G2 H l2 => h.ct ρ σ G2 H (l.trans l2), fun r ρ σ v G2 H l2 => h.rt r ρ σ v G2 H (l.trans l2), fun σ => (h.xc σ).mono l⟩
structure VSw (X : Cx) (W : WX) (F : Fm) (ts : TS) (t : TPs) : Prop where
  ok : ∀ (G : Hp) (ρ : Rho) (σ : L2.St) (H : Hp) (D : Ends) (d : PEnds), Rel X.tx F [] G ρ σ H → t d ρ → EOk X W F d D G → ts D σ H
def VS (X : Cx) (W : WX) (ex : Ex) (st : Stmt) (t : TPs) : Prop := ∃ ts, PS X st ts ∧ ∀ F, F.ex = ex → VSw X W F ts t
def VSs (X : Cx) (W : WX) (ex : Ex) (st : List Stmt) (t : TPs) : Prop := ∃ ts, PSs X st ts ∧ ∀ F, F.ex = ex → VSw X W F ts t
def isRef (ρ : Rho) (i : Nat) : Bool := match ρ[i]? with
  | some (.ref _) => true
  | _ => false
theorem noRef_of {ρ : Rho} {i : Nat} (h : isRef ρ i = false) : noRef ρ i := fun d e => by
  unfold isRef at h
  rw [e] at h
  cases h
/-- a result is stored in slot i -/
def asgn (i : Nat) (r : R) (ρ : Rho) (k : Rho → Prop) : Prop := isRef ρ i = false ∧ match r with
  | .dat d => k (ρ.set i (.frz d))
  | .new d => k (ρ.set i (.own d))
  | .fre c d => k (ρ.set i (.fre c d))
  | .loc j => match ρ[j]? with
    | some (.frz d) => k (ρ.set i (.frz d))
    | some (.own d) => k ((ρ.set j (.frz d)).set i (.frz d))
    | _ => False
/-- a result is given out of the def -/
def give (r : R) (ρ : Rho) (k : R → Rho → Prop) : Prop := match r with
  | .dat d => k (.dat d) ρ
  | .new d => k (.new d) ρ
  | .fre c d => k (.fre c d) ρ
  | .loc j => match ρ[j]? with
    | some (.frz d) => k (.dat d) ρ
    | some (.own d) => k (.new d) (ρ.set j .any)
    | _ => False
section
variable {T : Tx} {F : Fm} {pd : List (Addr × D)} {G G' H H' : Hp} {ρ : Rho} {σ : L2.St} {v : V} {i : Nat}
theorem isRef_set {j : Nat} {s : Sl} (h : isRef ρ i = false) (hs : ∀ d, s ≠ .ref d) : isRef (ρ.set j s) i = false := by
  unfold isRef at h ⊢
  cases e : (ρ.set j s)[i]? with
  | none => rfl
  | some t =>
    rcases set_get e with ⟨_, rfl⟩ | ⟨_, e'⟩
    · cases t with
      | ref d => exact absurd rfl (hs d)
      | _ => rfl
    · rw [e'] at h
      exact h
theorem VPost.asgn {r : R} {k : Rho → Prop} (h : VPost T F pd G σ H v ρ r) (q : asgn i r ρ k) : ∃ G' ρ', Le G G' ∧ Rel T F pd G' ρ' (σ.set i (some v)) H ∧ k ρ' := by
  obtain ⟨nr, q⟩ := q
  cases r with
  | dat d => exact ⟨G, _, Le.refl _, h.1.setDat (noRef_of nr) h.2, q⟩
  | fre c d => exact ⟨G, _, Le.refl _, h.1.store (s := .fre c d) (noRef_of nr) (fun hl => ⟨v, List.getElem?_set_self hl, h.2.1, h.2.2⟩) (fun m => by cases m) (fun _ h => h) h.1.pnd, q⟩
  | new d =>
    obtain ⟨p, rfl, R1⟩ := h
    exact ⟨G, _, Le.refl _, R1.setNew (noRef_of nr), q⟩
  | loc j =>
    obtain ⟨R1, hv⟩ := h
    cases e : ρ[j]? with
    | none => simp only [e] at q
    | some s =>
      simp only [e] at q
      cases s with
      | frz d =>
        obtain ⟨w, e1, dt⟩ := R1.slot _ _ e
        rw [hv] at e1
        cases e1
        exact ⟨G, _, Le.refl _, R1.setDat (noRef_of nr) dt, q⟩
      | own d =>
        obtain ⟨G', l, R', dt⟩ := R1.freezeS e hv
        exact ⟨G', _, l, R'.setDat (noRef_of (isRef_set nr fun d z => nomatch z)) dt, q⟩
      | any => exact q.elim
      | ref d => exact q.elim
      | exc _ _ => exact q.elim
      | par _ => exact q.elim
      | fre _ _ => exact q.elim
/-- a slot's own object leaves it -/
theorem Rel.leave {p : Addr} {d : D} (rl : Rel T F pd G ρ σ H) (hs : ρ[i]? = some (.own d)) (hv : σ[i]? = some (some (.ref p))) : Rel T F ((p, d) :: pd) G (ρ.set i .any) σ H := by
  obtain ⟨p', e1, n, z, ob⟩ := rl.slot _ _ hs
  rw [hv] at e1
  cases e1
  refine ⟨by rw [List.length_set]; exact rl.len, rl.sub, rl.old, rl.new, rl.keep, fun j s h => ?_, fun j k s t q h1 h2 m1 m2 => ?_, fun q hq => ?_, ?_, fun j s h m q hq => ?_, rl.lck, fun q hq => ?_⟩
  · rcases set_get h with ⟨_, rfl⟩ | ⟨_, h⟩
    · trivial
    · exact rl.slot j s h
  · rcases set_get h1 with ⟨_, rfl⟩ | ⟨_, h1⟩
    · cases m1
    · rcases set_get h2 with ⟨_, rfl⟩ | ⟨_, h2⟩
      · cases m2
      · exact rl.apart j k s t q h1 h2 m1 m2
  · rcases List.mem_cons.mp hq with rfl | hq
    · exact ⟨n, z, ob⟩
    · exact rl.pds q hq
  · show (p :: pd.map (·.1)).Nodup
    refine List.nodup_cons.mpr ⟨fun hm => ?_, rl.pnd⟩
    obtain ⟨q, hq, e⟩ := List.mem_map.mp hm
    have e : q.1 = p := e
    exact rl.pap i _ hs rfl q hq (by rw [e]; exact hv)
  · rcases set_get h with ⟨_, rfl⟩ | ⟨ne, h⟩
    · cases m
    · rcases List.mem_cons.mp hq with rfl | hq
      · exact fun w => ne (rl.apart j i s _ p h hs m rfl w hv)
      · exact rl.pap j s h m q hq
  · obtain ⟨e1, d', e2⟩ := rl.rfs q hq
    refine ⟨e1, d', ?_⟩
    by_cases w : q.1 = i
    · rw [w, hs] at e2; cases e2
    · rw [List.getElem?_set_ne (Ne.symm w)]; exact e2
theorem VPost.give {r : R} {k : R → Rho → Prop} (h : VPost T F pd G σ H v ρ r) (q : give r ρ k) : ∃ r' ρ', VPost T F pd G σ H v ρ' r' ∧ k r' ρ' := by
  cases r with
  | dat d => exact ⟨_, _, h, q⟩
  | new d => exact ⟨_, _, h, q⟩
  | fre c d => exact ⟨_, _, h, q⟩
  | loc j =>
    obtain ⟨R1, hv⟩ := h
    unfold PV.give at q
    cases e : ρ[j]? with
    | none => simp only [e] at q
    | some s =>
      simp only [e] at q
      cases s with
      | frz d =>
        obtain ⟨w, e1, dt⟩ := R1.slot _ _ e
        rw [hv] at e1
        cases e1
        exact ⟨.dat d, ρ, ⟨R1, dt⟩, q⟩
      | own d =>
        obtain ⟨p, e1, _⟩ := R1.slot _ _ e
        rw [hv] at e1
        cases e1
        exact ⟨.new d, _, ⟨p, rfl, R1.leave e hv⟩, q⟩
      | any => exact q.elim
      | ref d => exact q.elim
      | exc _ _ => exact q.elim
      | par _ => exact q.elim
      | fre _ _ => exact q.elim
end
def zNext : TPs := fun d ρ => d.nx ρ
def zSeq (t u : TPs) : TPs := fun d ρ => t { d with nx := u d } ρ
def zDrop (te : TPe) : TPs := fun d ρ => te ρ (fun _ ρ1 => d.nx ρ1) d.xc
def zRet (te : TPe) : TPs := fun d ρ => te ρ (fun r ρ1 => give r ρ1 d.rt) d.xc
def zRetN : TPs := fun d ρ => d.rt (.dat .non) ρ
def zIf (c : TPt) (t u : TPs) : TPs := fun d ρ => c ρ (fun b ρ1 => if b = true then t d ρ1 else u d ρ1) d.xc
def zSet (i : Nat) (te : TPe) : TPs := fun d ρ => te ρ (fun r ρ1 => asgn i r ρ1 d.nx) d.xc
def zBreak : TPs := fun d ρ => d.bk ρ
def zCont : TPs := fun d ρ => d.ct ρ
section
variable {X : Cx} {W : WX} {ex : Ex} {st : Stmt} {rest a b : List Stmt} {t u : TPs} {e c : Expr} {te : TPe} {tc : TPt} {pos : Pos}
theorem vss_nil : VSs X W ex [] zNext := ⟨_, pss_nil, fun F hF => ⟨fun G ρ σ H D d rl t k => k.nx ρ σ G H (Le.refl _) rl t⟩⟩
theorem vss_cons (h1 : VS X W ex st t) (h2 : VSs X W ex rest u) : VSs X W ex (st :: rest) (zSeq t u) := by
  obtain ⟨ts, p1, w1⟩ := h1
  obtain ⟨us, p2, w2⟩ := h2
  exact ⟨_, pss_cons p1 p2, fun F hF => ⟨fun G ρ σ H D d rl t k => (w1 F hF).ok G ρ σ H _ _ rl t
    ⟨fun ρ' σ' G' H' l rl' q => (w2 F hF).ok G' ρ' σ' H' D d rl' q (k.mono l), k.bk, k.ct, k.rt, k.xc⟩⟩⟩
theorem vss_one (h1 : VS X W ex st t) : VSs X W ex [st] t := let ⟨_, p1, w1⟩ := h1; ⟨_, pss_one p1, w1⟩
theorem vs_expr (he : VE X W ex e te) (hs : swapsWith e none pos.line X.env = pure false := by rfl) : VS X W ex (.Expr e pos) (zDrop te) := by
  obtain ⟨ts, p1, w1⟩ := he
  exact ⟨_, ps_expr p1 hs, fun F hF => ⟨fun G ρ σ H D d rl t k => (w1 F hF).ok [] G ρ σ H _ _ _ rl t (fun r ρ1 v G1 H1 l p q => k.nx ρ1 σ G1 H1 l p.rel q) (k.xc σ)⟩⟩
theorem vs_ret (he : VE X W ex e te) : VS X W ex (.Return (some e) pos) (zRet te) := by
  obtain ⟨ts, p1, w1⟩ := he
  refine ⟨_, ps_ret p1, fun F hF => ⟨fun G ρ σ H D d rl t k => (w1 F hF).ok [] G ρ σ H _ _ _ rl t (fun r ρ1 v G1 H1 l p q => ?_) (k.xc σ)⟩⟩
  obtain ⟨r', ρ', p', q'⟩ := p.give q
  exact k.rt r' ρ' σ v G1 H1 l p' q'
theorem vs_if (hc : VT X W ex c tc) (ha : VSs X W ex a t) (hb : VSs X W ex b u) : VS X W ex (.If c a b pos) (zIf tc t u) := by
  obtain ⟨_, pc, wc⟩ := hc
  obtain ⟨_, pa, wa⟩ := ha
  obtain ⟨_, pb, wb⟩ := hb
  refine ⟨_, ps_if pc pa pb, fun F hF => ⟨fun G ρ σ H D d rl t k => (wc F hF).ok [] G ρ σ H _ _ _ rl t (fun c ρ1 G1 H1 l rl1 q => ?_) (k.xc σ)⟩⟩
  cases c with
  | true => exact iteT ((wa F hF).ok G1 ρ1 σ H1 D d rl1 (by simpa using q) (k.mono l))
  | false => exact iteF ((wb F hF).ok G1 ρ1 σ H1 D d rl1 (by simpa using q) (k.mono l))
theorem vs_set {i : Nat} {x : Str} {pos' : Pos} (hN : X.N.Nodup) (hi : X.N[i]? = some x) (hx : Loc X.env.scope x) (he : VE X W ex e te) (hs : swapsWith e (some (.Name x pos')) pos.line X.env = pure false := by rfl) (hf : X.fn x = true ∨ X.env.scope.names.lookup x = some .local := by first | exact .inl rfl | exact .inr rfl | assumption) :
    VS X W ex (.Assign [.Name x pos'] e pos) (zSet i te) := by
  obtain ⟨ts, p1, w1⟩ := he
  refine ⟨_, ps_set hN hi hx p1 hs hf, fun F hF => ⟨fun G ρ σ H D d rl t k => (w1 F hF).ok [] G ρ σ H _ _ _ rl t (fun r ρ1 v G1 H1 l p q => ?_) (k.xc σ)⟩⟩
  obtain ⟨G2, ρ2, l2, rl2, q2⟩ := p.asgn q
  exact k.nx ρ2 _ G2 H1 (l.trans l2) rl2 q2
/-! ## targets -/
abbrev TPg := D → Rho → (Rho → Prop) → Prop
abbrev TPgs := List D → Rho → (Rho → Prop) → Prop
structure VGw (X : Cx) (F : Fm) (js : List Nat) (g : TG) (t : TPg) : Prop where
  ok : ∀ (pd : List (Addr × D)) (v : V) (d : D) (G : Hp) (ρ : Rho) (σ : L2.St) (H : Hp) (Q : L2.St → Hp → Prop) (q : Rho → Prop), Rel X.tx F pd G ρ σ H → Dat X.tx G v d → t d ρ q → (∀ ρ' σ', Rel X.tx F pd G ρ' σ' H → (∀ vs, (∀ j ∈ js, j ∈ vs) → wipe σ' vs = wipe σ vs) → q ρ' → Q σ' H) → g v σ H Q
structure VGsw (X : Cx) (F : Fm) (js : List Nat) (g : TGs) (t : TPgs) : Prop where
  ok : ∀ (pd : List (Addr × D)) (vs : List V) (ds : List D) (G : Hp) (ρ : Rho) (σ : L2.St) (H : Hp) (Q : L2.St → Hp → Prop) (q : Rho → Prop), Rel X.tx F pd G ρ σ H → DatAll X.tx G vs ds → t ds ρ q → (∀ ρ' σ', Rel X.tx F pd G ρ' σ' H → (∀ vs, (∀ j ∈ js, j ∈ vs) → wipe σ' vs = wipe σ vs) → q ρ' → Q σ' H) → g vs σ H Q
def VG (X : Cx) (tg : Expr) (js : List Nat) (t : TPg) : Prop := ∃ g, PG X tg g ∧ ∀ F, VGw X F js g t
def VGs (X : Cx) (tg : List Expr) (js : List Nat) (t : TPgs) : Prop := ∃ g, PGs X tg g ∧ ∀ F, VGsw X F js g t
def gN (i : Nat) : TPg := fun d ρ q => isRef ρ i = false ∧ q (ρ.set i (.frz d))
def gsNil : TPgs := fun ds ρ q => match ds with
  | [] => q ρ
  | _ :: _ => False
def gsCons (t : TPg) (u : TPgs) : TPgs := fun ds ρ q => match ds with
  | [] => False
  | d :: r => t d ρ fun ρ' => u r ρ' q
def gT (n : Nat) (t : TPgs) : TPg := fun d ρ q => match d with
  | .tup ds => ds.length = n ∧ t ds ρ q
  | .tupU ds => ds.length = n ∧ t ds ρ q
  | _ => False
variable {tg : Expr} {tgs : List Expr} {g : TPg} {gs : TPgs}
theorem wipe_get {σ : L2.St} : ∀ {vs : List Nat} {i : Nat}, i < σ.length → (wipe σ vs)[i]? = if i ∈ vs then some none else σ[i]?
  | [], i, _ => by simp [wipe]
  | v :: vs, i, h => by
    have ih := wipe_get (σ := σ) (vs := vs) h
    show ((wipe σ vs).set v none)[i]? = _
    by_cases e : i = v
    · subst e
      rw [List.getElem?_set_self (by rw [wipe_length]; exact h)]
      simp
    · rw [List.getElem?_set_ne (Ne.symm e), ih]
      simp [e]
theorem wipe_of {σ σ' : L2.St} {vs : List Nat} (hl : σ'.length = σ.length) (h : ∀ i, i ∉ vs → σ'[i]? = σ[i]?) : wipe σ' vs = wipe σ vs := by
  refine List.ext_getElem? fun i => ?_
  by_cases hi : i < σ.length
  · rw [wipe_get (by rw [hl]; exact hi), wipe_get hi]
    by_cases m : i ∈ vs
    · rw [if_pos m, if_pos m]
    · rw [if_neg m, if_neg m, h i m]
  · rw [List.getElem?_eq_none (by rw [wipe_length, hl]; omega), List.getElem?_eq_none (by rw [wipe_length]; omega)]
theorem wipe_set {σ : L2.St} {i : Nat} {x : Option V} {vs : List Nat} (h : i ∈ vs) : wipe (σ.set i x) vs = wipe σ vs :=
  wipe_of (by simp) fun j hj => List.getElem?_set_ne (fun e => hj (by rw [← e]; exact h))
theorem vg_n {i : Nat} {x : Str} (hN : X.N.Nodup) (hi : X.N[i]? = some x) (hx : Loc X.env.scope x) (hf : X.fn x = true ∨ X.env.scope.names.lookup x = some .local := by first | exact .inl rfl | exact .inr rfl | assumption) : VG X (.Name x pos) [i] (gN i) :=
  ⟨_, pg_name hN hi hx hf, fun F => ⟨fun pd v d G ρ σ H Q q rl dt t k => k _ _ (rl.setDat (noRef_of t.1) dt) (fun vs h => wipe_set (h i List.mem_cons_self)) t.2⟩⟩
theorem vgs_nil : VGs X [] [] gsNil := ⟨_, pgs_nil, fun F => ⟨fun pd vs ds G ρ σ H Q q rl dt t k => by
  cases dt with
  | nil => exact ⟨rfl, k ρ σ rl (fun _ _ => rfl) t⟩
  | cons _ _ => exact t.elim⟩⟩
variable {js ks : List Nat}
theorem vgs_cons (h1 : VG X tg js g) (h2 : VGs X tgs ks gs) (hs : (assignEach (tg :: tgs) X.env).map (·.2) = assign tg X.env :: (assignEach tgs X.env).map (·.2) := by rfl) : VGs X (tg :: tgs) (js ++ ks) (gsCons g gs) := by
  obtain ⟨_, p1, w1⟩ := h1
  obtain ⟨_, p2, w2⟩ := h2
  refine ⟨_, pgs_cons p1 p2 hs, fun F => ⟨fun pd vs ds G ρ σ H Q q rl dt t k => ?_⟩⟩
  cases dt with
  | nil => exact t.elim
  | @cons v vs d ds h tl => exact ⟨v, vs, rfl, (w1 F).ok pd v d G ρ σ H _ _ rl h t fun ρ' σ' rl' z1 q' => (w2 F).ok pd vs ds G ρ' σ' H _ _ rl' tl q' fun ρ2 σ2 rl2 z2 q2 =>
      k ρ2 σ2 rl2 (fun vs hv => (z2 vs fun j hj => hv j (List.mem_append_right _ hj)).trans (z1 vs fun j hj => hv j (List.mem_append_left _ hj))) q2⟩
theorem vg_t {k n : Nat} (hc : X.calm = true) (h : VGs X tgs js gs) (hn : (assignEach tgs X.env).length = n := by rfl) (hst : (assignEach tgs X.env).findIdx? (·.1) = none := by rfl) : VG X (.Tuple tgs k pos) js (gT n gs) := by
  obtain ⟨_, p1, w1⟩ := h
  refine ⟨_, pg_tup hc p1 hn hst, fun F => ⟨fun pd v d G ρ σ H Q q rl dt t k => ?_⟩⟩
  cases d with
  | tup ds =>
    cases dt with
    | tup h tl => exact ⟨_, _, rfl, (rl.sub.seqN h).t, by rw [tl.length]; exact t.1, (w1 F).ok pd _ ds G ρ σ H _ _ rl tl t.2 k⟩
  | tupU ds =>
    cases dt with
    | tupU h tl => exact ⟨_, _, rfl, rl.sub.seqT h, by rw [tl.length]; exact t.1, (w1 F).ok pd _ ds G ρ σ H _ _ rl tl t.2 k⟩
  | _ => exact t.elim
def zAsg (te : TPe) (g : TPg) : TPs := fun d ρ => te ρ (fun r ρ1 => fix ρ1 r fun x ρ2 => g x ρ2 d.nx) d.xc
theorem vs_asg (he : VE X W ex e te) (hg : VG X tg js g) (hs : swapsWithSole [tg] e pos.line X.env = pure false := by rfl) (hw : swappedStores [tg] e X.env = pure none := by rfl)
    (h1 : (assignEach [tg] X.env).map (·.2) = [assign tg X.env] := by rfl) : VS X W ex (.Assign [tg] e pos) (zAsg te g) := by
  obtain ⟨ts, p1, w1⟩ := he
  obtain ⟨_, p2, w2⟩ := hg
  refine ⟨_, ps_asg p1 p2 hs hw h1, fun F hF => ⟨fun G ρ σ H D d rl t k => (w1 F hF).ok [] G ρ σ H _ _ _ rl t (fun r ρ1 v G1 H1 l p q => ?_) (k.xc σ)⟩⟩
  obtain ⟨G2, ρ2, x, l2, rl2, dt, q2⟩ := p.fix q
  exact (w2 F).ok [] v x G2 ρ2 σ H1 _ _ rl2 dt q2 fun ρ3 σ3 rl3 _ q3 => k.nx ρ3 σ3 G2 H1 (l.trans l2) rl3 q3
end
end PV
namespace PV
open PySem PySem.Spec PyProof.Rows L2
/-! ## what is walked -/
/-- an iterator that gives these data, one a turn, while G stands -/
structure WalkD (T : Tx) (J : It) (G0 : Hp) (ds : List D) : Prop where
  goes : ∀ (i : Nat) (H G : Hp), Le G0 G → Sub G H → i < ds.length → J.go i H
  stops : ∀ (H G : Hp), Le G0 G → Sub G H → J.stop ds.length H
  yields : ∀ (i : Nat) (H G : Hp) (x : V) (H' : Hp) (d : D), Le G0 G → Sub G H → ds[i]? = some d → J.yld i H x H' → ∃ G', Grow G H G' H' ∧ Dat T G' x d
abbrev TPi := Rho → (List D → Rho → Prop) → (Exn → Rho → Prop) → Prop
structure VIw (X : Cx) (W : WX) (F : Fm) (wi : TI) (t : TPi) : Prop where
  ok : ∀ (pd : List (Addr × D)) (G : Hp) (ρ : Rho) (σ : L2.St) (H : Hp) (Q : It → Hp → Prop) (q : List D → Rho → Prop) (x : Exn → Rho → Prop), Rel X.tx F pd G ρ σ H → t ρ q x →
    (∀ ds ρ' G' H' J, Le G G' → Rel X.tx F pd G' ρ' σ H' → WalkD X.tx J G' ds → q ds ρ' → Q J H') → WOk X W F x G σ → wi σ H Q
def VI (X : Cx) (W : WX) (ex : Ex) (tg iter : Expr) (t : TPi) : Prop := ∃ wi, PI X tg iter wi ∧ ∀ F, F.ex = ex → VIw X W F wi t
theorem walkD_of {T : Tx} {J : It} {n : Nat} {P : Hp → Prop} {Y : Nat → Hp → V → Hp → Prop} {G0 : Hp} {ds : List D} (w : Walk J n P Y) (hn : ds.length = n) (hP : ∀ G H, Le G0 G → Sub G H → P H)
    (hY : ∀ i G H x H' d, Le G0 G → Sub G H → ds[i]? = some d → Y i H x H' → ∃ G', Grow G H G' H' ∧ Dat T G' x d) : WalkD T J G0 ds :=
  ⟨fun i H G l s h => w.goes i H (by omega) (hP G H l s), fun H G l s => by rw [hn]; exact w.stops H (hP G H l s),
    fun i H G x H' d l s e y => hY i G H x H' d l s e (w.yields i H x H' (by have := (List.getElem?_eq_some_iff.mp e).1; omega) (hP G H l s) y)⟩
theorem walkD_list {T : Tx} {G : Hp} {a : Addr} {xs : List V} {ds : List D} (h : SqL T.K G a xs) (t : DatAll T G xs ds) : WalkD T (Itl T.K a) G ds :=
  walkD_of (walk_list (xs := xs)) t.length.symm (fun G' H l s => s.seqL (le_seqL l h)) fun i G' H x H' d l s e ⟨e1, e2⟩ => by
    subst e1
    obtain ⟨v, e3, dt⟩ := t.get e
    rw [e2] at e3
    cases e3
    exact ⟨G', Grow.refl _ _, dt.mono l⟩
theorem walkD_tup {T : Tx} {G : Hp} {a : Addr} {xs : List V} {ds : List D} (h : SqT T.K G a xs) (t : DatAll T G xs ds) : WalkD T (Itt T.K a) G ds :=
  walkD_of (walk_tup (xs := xs)) t.length.symm (fun G' H l s => s.seqT (le_seqT l h)) fun i G' H x H' d l s e ⟨e1, e2⟩ => by
    subst e1
    obtain ⟨v, e3, dt⟩ := t.get e
    rw [e2] at e3
    cases e3
    exact ⟨G', Grow.refl _ _, dt.mono l⟩
theorem pair_grow {T : Tx} {G H : Hp} {p : Addr} {x y : V} {d e : D} (s : Sub G H) (hp : H p = none) (hx : Dat T G x d) (hy : Dat T G y e) : ∃ G', Grow G H G' (upd H p (.tup [x, y])) ∧ Dat T G' (.ref p) (.tupU [d, e]) :=
  ⟨upd G p (.tup [x, y]), Grow.laidF s hp, .tupU (SqT.of upd_same) (.cons (hx.mono (Le.upd (s.none hp))) (.cons (hy.mono (Le.upd (s.none hp))) .nil))⟩
/-- (0, x), (1, y), .. -/
def enumD (ds : List D) : List D := ds.mapIdx fun i d => .tupU [.int (i : Nat), d]
theorem enumD_get {ds : List D} {i : Nat} {d : D} (h : (enumD ds)[i]? = some d) : ∃ e, ds[i]? = some e ∧ d = .tupU [.int (i : Nat), e] := by
  unfold enumD at h
  rw [List.getElem?_mapIdx] at h
  cases e : ds[i]? with
  | none => rw [e] at h; cases h
  | some x =>
    rw [e] at h
    cases h
    exact ⟨x, rfl, rfl⟩
theorem enumD_len {ds : List D} : (enumD ds).length = ds.length := by unfold enumD; simp
theorem walkD_enum {T : Tx} {G : Hp} {a : Addr} {xs : List V} {ds : List D} (h : SqL T.K G a xs) (t : DatAll T G xs ds) : WalkD T (Ite T.K a) G (enumD ds) :=
  walkD_of (walk_enum (xs := xs)) (enumD_len.trans t.length.symm) (fun G' H l s => s.seqL (le_seqL l h)) fun i G' H x H' d l s e y => by
    obtain ⟨p, u, v, rfl, hp, rfl, h1, h2⟩ := y
    obtain ⟨z, e1, rfl⟩ := enumD_get e
    obtain ⟨v', e3, dt⟩ := t.get e1
    rw [show xs[i]? = some v from h2] at e3
    cases e3
    cases h1
    exact pair_grow s hp (.int _) (dt.mono l)
theorem walkD_enumT {T : Tx} {G : Hp} {a : Addr} {xs : List V} {ds : List D} (h : SqT T.K G a xs) (t : DatAll T G xs ds) : WalkD T (IteT T.K a) G (enumD ds) :=
  walkD_of (walk_enumT (xs := xs)) (enumD_len.trans t.length.symm) (fun G' H l s => s.seqT (le_seqT l h)) fun i G' H x H' d l s e y => by
    obtain ⟨p, u, v, rfl, hp, rfl, h1, h2⟩ := y
    obtain ⟨z, e1, rfl⟩ := enumD_get e
    obtain ⟨v', e3, dt⟩ := t.get e1
    rw [show xs[i]? = some v from h2] at e3
    cases e3
    cases h1
    exact pair_grow s hp (.int _) (dt.mono l)
/-- the items of a list or tuple -/
def itemsD (d : D) (k : List D → Prop) : Prop := match d with
  | .lst ds => k ds
  | .tup ds => k ds
  | _ => False
def iSq (ta : TPe) : TPi := fun ρ q x => ta ρ (fun r ρ1 => fix ρ1 r fun d ρ2 => itemsD d fun ds => q ds ρ2) x
def iEn (ta : TPe) : TPi := fun ρ q x => ta ρ (fun r ρ1 => fix ρ1 r fun d ρ2 => itemsD d fun ds => q (enumD ds) ρ2) x
def rangeD (a b : Int) : List D := (List.range (b - a).toNat).map fun i : Nat => .int (a + i)
def iR1 (ta : TPe) : TPi := fun ρ q x => ta ρ (fun r ρ1 => cont ρ1 r fun d => match d with
  | .int j => (-(2 ^ 62) ≤ j ∧ j < 2 ^ 62) ∧ q (rangeD 0 j) ρ1
  | _ => False) x
section
variable {X : Cx} {W : WX} {ex : Ex} {tg a e : Expr} {es : List Expr} {ta : TPe} {pos : Pos}
theorem vi_seq (ha : VE X W ex e ta) : VI X W ex tg e (iSq ta) := by
  obtain ⟨te, pa, wa⟩ := ha
  refine ⟨_, pi_seq pa, fun F hF => ⟨fun pd G ρ σ H Q q x rl t k w => (wa F hF).ok pd G ρ σ H _ _ _ rl t (fun r1 ρ1 v G1 H1 l1 p1 q1 => ?_) w⟩⟩
  obtain ⟨G2, ρ2, d, l2, rl2, dt, q2⟩ := p1.fix q1
  cases d with
  | lst ds =>
    cases dt with
    | lst h tl => exact ⟨_, rfl, .inl ⟨⟨_, rl2.sub.seqL h⟩, k ds ρ2 G2 H1 _ (l1.trans l2) rl2 (walkD_list (T := X.tx) h tl) q2⟩⟩
  | tup ds =>
    cases dt with
    | tup h tl => exact ⟨_, rfl, .inr ⟨⟨_, (rl2.sub.seqN h).t⟩, k ds ρ2 G2 H1 _ (l1.trans l2) rl2 (walkD_tup (T := X.tx) h.t tl) q2⟩⟩
  | _ => exact q2.elim
theorem vi_enum {elts : List Expr} {kk : Nat} {tpos p : Pos} (hg : Gl X "enumerate") (hm : X.mg "enumerate" = none) (ha : VE X W ex e ta) (hs : starEach [e] X.env = [(false, eval e X.env)] := by rfl)
    (hs2 : starEach (e :: []) X.env = (false, eval e X.env) :: starEach [] X.env := by rfl) : VI X W ex (.Tuple elts kk tpos) (.Call (.Name "enumerate" p) [e] [] pos) (iEn ta) := by
  obtain ⟨te, pa, wa⟩ := ha
  refine ⟨_, pi_enumA hg hm (pa_cons pa pa_nil hs2) hs, fun F hF => ⟨fun pd G ρ σ H Q q x rl t k w => (wa F hF).ok pd G ρ σ H _ _ _ rl t (fun r1 ρ1 v G1 H1 l1 p1 q1 => ?_) w⟩⟩
  obtain ⟨G2, ρ2, d, l2, rl2, dt, q2⟩ := p1.fix q1
  cases d with
  | lst ds =>
    cases dt with
    | lst h tl => exact ⟨_, rfl, .inl ⟨⟨_, rl2.sub.seqL h⟩, k (enumD ds) ρ2 G2 H1 _ (l1.trans l2) rl2 (walkD_enum (T := X.tx) h tl) q2⟩⟩
  | tup ds =>
    cases dt with
    | tup h tl => exact ⟨_, rfl, .inr ⟨⟨_, (rl2.sub.seqN h).t⟩, k (enumD ds) ρ2 G2 H1 _ (l1.trans l2) rl2 (walkD_enumT (T := X.tx) h.t tl) q2⟩⟩
  | _ => exact q2.elim
theorem vi_range1 {p : Pos} (hg : Gl X "range") (hm : X.mg "range" = none) (ha : VE X W ex e ta) (hs : starEach [e] X.env = [(false, eval e X.env)] := by rfl)
    (hs2 : starEach (e :: []) X.env = (false, eval e X.env) :: starEach [] X.env := by rfl) : VI X W ex tg (.Call (.Name "range" p) [e] [] pos) (iR1 ta) := by
  obtain ⟨te, pa, wa⟩ := ha
  refine ⟨_, pi_range1 hg hm (pa_cons pa pa_nil hs2) hs, fun F hF => ⟨fun pd G ρ σ H Q q x rl t k w => (wa F hF).ok pd G ρ σ H _ _ _ rl t (fun r1 ρ1 v G1 H1 l1 p1 q1 => ?_) w⟩⟩
  obtain ⟨d, rl2, tp, q2⟩ := p1.cont q1
  cases d with
  | int j =>
    cases tp
    obtain ⟨⟨b1, b2⟩, q2⟩ := q2
    refine ⟨j, rfl, b1, b2, k (rangeD 0 j) ρ1 G1 H1 _ l1 rl2 ?_ q2⟩
    refine walkD_of (walk_range (lo := 0) (n := j.toNat)) (by unfold rangeD; simp) (fun _ _ _ _ => trivial) fun i G' H x H' d l s e ⟨e1, e2⟩ => ?_
    subst e1
    unfold rangeD at e
    rw [List.getElem?_map] at e
    cases q : (List.range (j - 0).toNat)[i]? with
    | none => rw [q] at e; cases e
    | some m =>
      rw [q] at e
      cases e
      have hm : m = i := by
        have h := (List.getElem?_eq_some_iff.mp q).2
        rw [List.getElem_range] at h
        exact h.symm
      subst hm
      rw [e2]
      exact ⟨G', Grow.refl _ _, .int _⟩
  | _ => exact q2.elim
end
/-! ## for, while -/
def zForL (g : TPg) (tb : TPs) (d : PEnds) : List D → Rho → Prop
  | [], ρ => d.nx ρ
  | x :: r, ρ => g x ρ fun ρ1 => tb { d with nx := zForL g tb d r, ct := zForL g tb d r, bk := d.nx } ρ1
def zFor (ti : TPi) (g : TPg) (tb : TPs) : TPs := fun d ρ => ti ρ (fun ds ρ1 => zForL g tb d ds ρ1) d.xc
def zWhileN (c : TPt) (tb : TPs) (d : PEnds) : Nat → Rho → Prop
  | 0, _ => False
  | n + 1, ρ => c ρ (fun b ρ1 => if b = true then tb { d with nx := zWhileN c tb d n, ct := zWhileN c tb d n, bk := d.nx } ρ1 else d.nx ρ1) d.xc
def zWhile (c : TPt) (tb : TPs) : TPs := fun d ρ => ∃ n, zWhileN c tb d n ρ
section
variable {X : Cx} {W : WX} {ex : Ex} {tg iter c : Expr} {body : List Stmt} {ti : TPi} {g : TPg} {tb : TPs} {tc : TPt} {js : List Nat} {pos : Pos}
theorem vs_for (hp : PassesOwn (model X.prog X.w) X.A X.env X.xe) (hc : X.calm = true) (hi : VI X W ex tg iter ti) (hg : VG X tg js g) (hb : VSs X W ex body tb)
    (hs : ∀ x, foldedSetIterable iter X.env x = pure x := by intro _; rfl) : VS X W ex (.For tg iter body [] pos) (zFor ti g tb) := by
  obtain ⟨_, p1, w1⟩ := hi
  obtain ⟨_, p2, w2⟩ := hg
  obtain ⟨_, p3, w3⟩ := hb
  refine ⟨_, ps_for hp hc p1 p2 p3 hs, fun F hF => ⟨fun G ρ σ H D d rl t k => (w1 F hF).ok [] G ρ σ H _ _ _ rl t (fun ds ρ1 G1 H1 J l1 rl1 wd q1 => ?_) (k.xc σ)⟩⟩
  refine ⟨fun i m σ H => m = ds.length - i ∧ i ≤ ds.length ∧ ∃ G ρ, Le G1 G ∧ Rel X.tx F [] G ρ σ H ∧ zForL _ _ d (ds.drop i) ρ, ⟨ds.length, by simp, Nat.zero_le _, G1, ρ1, Le.refl _, rl1, q1⟩, ?_⟩
  rintro i m σ2 H2 ⟨rfl, hi, G2, ρ2, l2, rl2, q2⟩
  by_cases hlt : i < ds.length
  · refine .inr ⟨wd.goes i H2 G2 l2 rl2.sub hlt, fun σ' H' => ∃ G ρ, Le G1 G ∧ Rel X.tx F [] G ρ σ' H' ∧ zForL _ _ d (ds.drop (i + 1)) ρ, fun σ' H' h => ⟨ds.length - (i + 1), by omega, rfl, hlt, h⟩, fun x H' y => ?_⟩
    rw [List.drop_eq_getElem_cons hlt] at q2
    obtain ⟨G3, gr, dt⟩ := wd.yields i H2 G2 x H' ds[i] l2 rl2.sub (by simp [hlt]) y
    refine (w2 F).ok [] x ds[i] G3 ρ2 σ2 H' _ _ (rl2.grow gr) dt q2 fun ρ4 σ4 rl4 _ q4 => ?_
    have l3 : Le G1 G3 := l2.trans gr.le
    exact (w3 F hF).ok G3 ρ4 σ4 H' _ _ rl4 q4 ⟨fun ρ5 σ5 G5 H5 l5 rl5 q5 => ⟨G5, ρ5, l3.trans l5, rl5, q5⟩, fun ρ5 σ5 G5 H5 l5 rl5 q5 => k.nx ρ5 σ5 G5 H5 ((l1.trans l3).trans l5) rl5 q5,
      fun ρ5 σ5 G5 H5 l5 rl5 q5 => ⟨G5, ρ5, l3.trans l5, rl5, q5⟩, fun r ρ5 σ5 v G5 H5 l5 p5 q5 => k.rt r ρ5 σ5 v G5 H5 ((l1.trans l3).trans l5) p5 q5, fun σ5 => (k.xc σ5).mono (l1.trans l3)⟩
  · have e : i = ds.length := by omega
    subst e
    rw [List.drop_length] at q2
    exact .inl ⟨wd.stops H2 G2 l2 rl2.sub, k.nx ρ2 σ2 G2 H2 (l1.trans l2) rl2 q2⟩
theorem vs_while (hp : PassesOwn (model X.prog X.w) X.A X.env X.xe) (hc : VT X W ex c tc) (hb : VSs X W ex body tb) : VS X W ex (.While c body [] pos) (zWhile tc tb) := by
  obtain ⟨_, p1, w1⟩ := hc
  obtain ⟨_, p3, w3⟩ := hb
  refine ⟨_, ps_while hp p1 p3, fun F hF => ⟨fun G0 ρ0 σ0 H0 D d rl0 ⟨n, t⟩ k => ?_⟩⟩
  refine ⟨fun m σ H => ∃ G ρ, Le G0 G ∧ Rel X.tx F [] G ρ σ H ∧ zWhileN _ _ d m ρ, ⟨n, G0, ρ0, Le.refl _, rl0, t⟩, ?_⟩
  rintro m σ H ⟨G, ρ, l, rl, t⟩
  cases m with
  | zero => exact t.elim
  | succ m =>
    refine (w1 F hF).ok [] G ρ σ H _ _ _ rl t (fun b ρ1 G1 H1 l1 rl1 q1 => ?_) ((k.xc σ).mono l)
    cases b with
    | true =>
      refine iteT ⟨fun σ' H' => ∃ G ρ, Le G0 G ∧ Rel X.tx F [] G ρ σ' H' ∧ zWhileN _ _ d m ρ, fun σ' H' h => ⟨m, Nat.lt_succ_self _, h⟩, ?_⟩
      have l2 := l.trans l1
      exact (w3 F hF).ok G1 ρ1 σ H1 _ { d with nx := zWhileN _ _ d m, ct := zWhileN _ _ d m, bk := d.nx } rl1 (by simpa using q1) ⟨fun ρ5 σ5 G5 H5 l5 rl5 q5 => ⟨G5, ρ5, l2.trans l5, rl5, q5⟩, fun ρ5 σ5 G5 H5 l5 rl5 q5 => k.nx ρ5 σ5 G5 H5 (l2.trans l5) rl5 q5,
        fun ρ5 σ5 G5 H5 l5 rl5 q5 => ⟨G5, ρ5, l2.trans l5, rl5, q5⟩, fun r ρ5 σ5 v G5 H5 l5 p5 q5 => k.rt r ρ5 σ5 v G5 H5 (l2.trans l5) p5 q5, fun σ5 => (k.xc σ5).mono l2⟩
    | false => exact iteF (k.nx ρ1 σ G1 H1 (l.trans l1) rl1 (by simpa using q1))
end
/-! ## list comprehensions -/
/-- the widest reading that t serves -/
def canE (T : Tx) (ex : Ex) (t : TPe) : TE := fun σ H Q => ∃ F pd G ρ q, F.ex = ex ∧ Rel T F pd G ρ σ H ∧ t ρ q (fun _ _ => False) ∧ (∀ r ρ' v G' H', Le G G' → VPost T F pd G' σ H' v ρ' r → q r ρ' → Q v H')
theorem VE.can {X : Cx} {ex : Ex} {e : Expr} {t : TPe} (h : VE X W0 ex e t) : PE X e (canE X.tx ex t) := by
  obtain ⟨te, pa, wa⟩ := h
  refine ⟨fun pins s σ H Q I ⟨F, pd, G, ρ, q, hF, rl, t, k⟩ => pa.run pins s σ H Q I ((wa F hF).ok pd G ρ σ H Q q _ rl t k fun _ _ _ _ _ _ _ _ _ z => z)⟩
def canT (T : Tx) (ex : Ex) (t : TPt) : TT := fun σ H Q => ∃ F pd G ρ q, F.ex = ex ∧ Rel T F pd G ρ σ H ∧ t ρ q (fun _ _ => False) ∧ (∀ b ρ' G' H', Le G G' → Rel T F pd G' ρ' σ H' → q b ρ' → Q b H')
def VTs (X : Cx) (W : WX) (ex : Ex) (ifs : List Expr) (t : TPt) : Prop := ∃ te, PTs X ifs te ∧ ∀ F, F.ex = ex → VTw X W F te t
theorem VTs.can {X : Cx} {ex : Ex} {e : List Expr} {t : TPt} (h : VTs X W0 ex e t) : PTs X e (canT X.tx ex t) := by
  obtain ⟨te, pa, wa⟩ := h
  refine ⟨fun pins s σ H Q I ⟨F, pd, G, ρ, q, hF, rl, t, k⟩ => pa.run pins s σ H Q I ((wa F hF).ok pd G ρ σ H Q q _ rl t k fun _ _ _ _ _ _ _ _ _ z => z)⟩
def yYes : TPt := fun ρ q _ => q true ρ
theorem vts_nil {X : Cx} {W : WX} {ex : Ex} : VTs X W ex [] yYes := ⟨_, pts_nil, fun F hF => ⟨fun pd G ρ σ H Q q x rl t k w => k true ρ G H (Le.refl _) rl t⟩⟩
theorem vts_one {X : Cx} {W : WX} {ex : Ex} {e : Expr} {t : TPt} (h : VT X W ex e t) : VTs X W ex [e] t := let ⟨_, p, w⟩ := h; ⟨_, pts_one p, w⟩
def canG (T : Tx) (js : List Nat) (t : TPg) : TG := fun v σ H Q => ∃ F pd d G ρ q, Rel T F pd G ρ σ H ∧ Dat T G v d ∧ t d ρ q ∧ (∀ ρ' σ', Rel T F pd G ρ' σ' H → (∀ vs, (∀ j ∈ js, j ∈ vs) → wipe σ' vs = wipe σ vs) → q ρ' → Q σ' H)
theorem VG.can {X : Cx} {e : Expr} {js : List Nat} {t : TPg} (h : VG X e js t) : PG X e (canG X.tx js t) := by
  obtain ⟨te, pa, wa⟩ := h
  exact ⟨fun pins s σ H v u Q I r ⟨F, pd, d, G, ρ, q, rl, dt, t, k⟩ => pa.run pins s σ H v u Q I r ((wa F).ok pd v d G ρ σ H Q q rl dt t k)⟩
/-- slots are forgotten -/
def anyP (ρ : Rho) : List Nat → Rho
  | [] => ρ
  | v :: vs => (anyP ρ vs).set v .any
def noRefs (ρ : Rho) : List Nat → Bool
  | [] => true
  | v :: vs => !isRef ρ v && noRefs ρ vs
def yLcL (g : TPg) (tt : TPt) (te : TPe) (vs : List Nat) : List D → List D → Rho → (List D → Rho → Prop) → Prop
  | [], acc, ρ, q => q acc ρ
  | x :: r, acc, ρ, q => g x (anyP ρ vs) fun ρ1 => tt ρ1 (fun b ρ2 => if b = true then te ρ2 (fun res ρ3 => fix ρ3 res fun d ρ4 => acc.length < sizeLine ∧ noRefs ρ4 vs = true ∧ yLcL g tt te vs r (acc ++ [d]) (anyP ρ4 vs) q) (fun _ _ => False)
      else noRefs ρ2 vs = true ∧ yLcL g tt te vs r acc (anyP ρ2 vs) q) fun _ _ => False
def yLc (ti : TPi) (g : TPg) (tt : TPt) (te : TPe) (vs : List Nat) : TPe := fun ρ q x => ti ρ (fun ds ρ1 => noRefs ρ1 vs = true ∧ yLcL g tt te vs ds [] (anyP ρ1 vs) fun acc ρ2 => q (.new (.lst acc)) ρ2) x
section
variable {T : Tx} {F : Fm} {pd : List (Addr × D)} {G H : Hp} {ρ : Rho} {σ σ' : L2.St}
theorem anyP_noRefs : ∀ {vs : List Nat} {ws : List Nat}, noRefs ρ ws = true → noRefs (anyP ρ vs) ws = true
  | _, [], _ => rfl
  | vs, w :: ws, h => by
    simp only [noRefs, Bool.and_eq_true, Bool.not_eq_true'] at h ⊢
    refine ⟨?_, anyP_noRefs h.2⟩
    induction vs with
    | nil => exact h.1
    | cons v vs ih => exact isRef_set ih fun d z => nomatch z
theorem Rel.anyP (rl : Rel T F pd G ρ σ H) : ∀ {vs : List Nat}, noRefs ρ vs = true → Rel T F pd G (PV.anyP ρ vs) (wipe σ vs) H
  | [], _ => rl
  | v :: vs, h => by
    have hh := h
    simp only [noRefs, Bool.and_eq_true, Bool.not_eq_true'] at h
    have nr : isRef (PV.anyP ρ vs) v = false := by
      have z := anyP_noRefs (vs := vs) hh
      simp only [noRefs, Bool.and_eq_true, Bool.not_eq_true'] at z
      exact z.1
    exact (Rel.anyP rl h.2).setAny (noRef_of nr)
theorem anyP_get : ∀ {vs : List Nat} {i : Nat} {s : Sl}, (PV.anyP ρ vs)[i]? = some s → (i ∈ vs ∧ s = .any) ∨ (i ∉ vs ∧ ρ[i]? = some s)
  | [], i, s, h => .inr ⟨by simp, h⟩
  | v :: vs, i, s, h => by
    rcases set_get h with ⟨e, rfl⟩ | ⟨ne, h⟩
    · exact .inl ⟨by simp [e], rfl⟩
    · rcases anyP_get h with ⟨m, e⟩ | ⟨m, e⟩
      · exact .inl ⟨List.mem_cons_of_mem _ m, e⟩
      · exact .inr ⟨by simp [ne, m], e⟩
theorem anyP_len {vs : List Nat} : (PV.anyP ρ vs).length = ρ.length := by
  induction vs with
  | nil => rfl
  | cons v vs ih => show ((PV.anyP ρ vs).set v .any).length = _; rw [List.length_set, ih]
theorem anyP_set {vs : List Nat} {i : Nat} {s : Sl} (h : ρ[i]? = some s) (m : i ∉ vs) : (PV.anyP ρ vs)[i]? = some s := by
  induction vs with
  | nil => exact h
  | cons v vs ih =>
    show ((PV.anyP ρ vs).set v .any)[i]? = _
    rw [List.getElem?_set_ne (fun e => m (by simp [e]))]
    exact ih fun z => m (List.mem_cons_of_mem _ z)
/-- behind a block the names of the block are as they were -/
theorem Rel.back {vs : List Nat} (rl : Rel T F pd G ρ σ H) (nr : noRefs ρ vs = true) (e : wipe σ vs = wipe σ' vs) (hl : σ'.length = σ.length) : Rel T F pd G (PV.anyP ρ vs) σ' H := by
  have far : ∀ i, i ∉ vs → σ'[i]? = σ[i]? := fun i m => by
    by_cases hi : i < σ.length
    · have z : (wipe σ vs)[i]? = (wipe σ' vs)[i]? := by rw [e]
      rw [wipe_get hi, wipe_get (by rw [hl]; exact hi), if_neg m, if_neg m] at z
      exact z.symm
    · rw [List.getElem?_eq_none (by omega), List.getElem?_eq_none (by omega)]
  have nref : ∀ {i : Nat}, i ∈ vs → isRef ρ i = false := by
    intro i m
    clear e far
    induction vs with
    | nil => cases m
    | cons v vs ih =>
      simp only [noRefs, Bool.and_eq_true, Bool.not_eq_true'] at nr
      rcases List.mem_cons.mp m with rfl | m
      · exact nr.1
      · exact ih nr.2 m
  refine ⟨by rw [anyP_len, rl.len, hl], rl.sub, rl.old, rl.new, rl.keep, fun i s h => ?_, fun i j s t p h1 h2 m1 m2 e1 e2 => ?_, rl.pds, rl.pnd, fun i s h m q hq => ?_, rl.lck, fun q hq => ?_⟩
  · rcases anyP_get h with ⟨_, rfl⟩ | ⟨m, h⟩
    · trivial
    · have k := rl.slot i s h
      cases s with
      | any => trivial
      | frz d => obtain ⟨v, e, r⟩ := k; exact ⟨v, (far i m).trans e, r⟩
      | par d => obtain ⟨v, e, r⟩ := k; exact ⟨v, (far i m).trans e, r⟩
      | fre c d => obtain ⟨v, e, r⟩ := k; exact ⟨v, (far i m).trans e, r⟩
      | own d => obtain ⟨p, e, r⟩ := k; exact ⟨p, (far i m).trans e, r⟩
      | ref d => obtain ⟨p, e, r⟩ := k; exact ⟨p, (far i m).trans e, r⟩
      | exc f d => obtain ⟨a, dd, v, e1, e2, r⟩ := k; exact ⟨a, dd, v, e1, (far i m).trans e2, r⟩
  · rcases anyP_get h1 with ⟨_, rfl⟩ | ⟨n1, h1⟩
    · cases m1
    · rcases anyP_get h2 with ⟨_, rfl⟩ | ⟨n2, h2⟩
      · cases m2
      · exact rl.apart i j s t p h1 h2 m1 m2 ((far i n1).symm.trans e1) ((far j n2).symm.trans e2)
  · rcases anyP_get h with ⟨_, rfl⟩ | ⟨n1, h⟩
    · cases m
    · rw [far i n1]
      exact rl.pap i s h m q hq
  · obtain ⟨e1, d, e2⟩ := rl.rfs q hq
    have m : q.1 ∉ vs := fun m => by
      have z := nref m
      unfold isRef at z
      rw [e2] at z
      cases z
    exact ⟨(far _ m).trans e1, d, anyP_set e2 m⟩
end
end PV
namespace PV
open PySem PySem.Spec PyProof.Rows L2
theorem ob_lst {T : Tx} {G H : Hp} {p : Addr} {xs : List V} {ds : List D} (h : DatAll T G xs ds) : Ob T G (upd H p (.lst xs)) p (.lst ds) := ⟨xs, upd_same, h⟩
theorem wipe_wipe {σ : L2.St} {vs : List Nat} : wipe (wipe σ vs) vs = wipe σ vs := wipe_of (wipe_length σ vs) fun i m => by
  by_cases hi : i < σ.length
  · rw [wipe_get hi, if_neg m]
  · rw [List.getElem?_eq_none (by rw [wipe_length]; omega), List.getElem?_eq_none (by omega)]
section
variable {X : Cx} {W : WX} {ex : Ex} {tg iter elt : Expr} {ifs : List Expr} {scope : Scope} {own : List (Str × Nat)} {ti : TPi} {g : TPg} {tt : TPt} {te : TPe} {js : List Nat} {pos : Pos}
theorem lc_w {F : Fm} {wi : TI} (hF : F.ex = ex) (w1 : VIw X W F wi ti) (hjs : ∀ j ∈ js, j ∈ own.map (·.2)) : VEw X W F (tLc wi (canG X.tx js g) (canT X.tx ex tt) (canE X.tx ex te) (own.map (·.2))) (yLc ti g tt te (own.map (·.2))) := by
  refine ⟨fun pd G ρ σ H Q q x rl t k w => w1.ok pd G ρ σ H _ _ _ rl t (fun ds ρ1 G1 H1 J l1 rl1 wd q1 => ?_) w⟩
  generalize own.map (·.2) = vs at hjs q1 ⊢
  obtain ⟨nr, q1⟩ := q1
  intro a ha
  have gn := rl1.sub.none ha
  have rl2 : Rel X.tx F ((a, .lst []) :: pd) G1 (anyP ρ1 vs) σ (upd H1 a (.lst [])) := (rl1.push (Grow.laid ha) ha gn (ob_lst .nil)).back nr rfl rfl
  refine ⟨fun i m H => m = ds.length - i ∧ i ≤ ds.length ∧ ∃ G ρ acc, Le G1 G ∧ Rel X.tx F ((a, .lst acc) :: pd) G ρ σ H ∧ noRefs ρ vs = true ∧ yLcL g tt te vs (ds.drop i) acc ρ (fun acc ρ2 => q (.new (.lst acc)) ρ2),
    ⟨ds.length, by simp, Nat.zero_le _, G1, _, [], Le.refl _, rl2, anyP_noRefs nr, q1⟩, ?_⟩
  rintro i m H2 ⟨rfl, hi, G2, ρ2, acc, l2, rl3, nr2, q2⟩
  by_cases hlt : i < ds.length
  · refine .inr ⟨wd.goes i H2 G2 l2 rl3.sub hlt, fun H' => ∃ G ρ acc, Le G1 G ∧ Rel X.tx F ((a, .lst acc) :: pd) G ρ σ H' ∧ noRefs ρ vs = true ∧ yLcL g tt te vs (ds.drop (i + 1)) acc ρ (fun acc ρ2 => q (.new (.lst acc)) ρ2),
      fun H' h => ⟨ds.length - (i + 1), by omega, rfl, hlt, h⟩, fun y H' hy => ?_⟩
    rw [List.drop_eq_getElem_cons hlt] at q2
    obtain ⟨G3, gr, dt⟩ := wd.yields i H2 G2 y H' ds[i] l2 rl3.sub (by simp [hlt]) hy
    refine ⟨F, _, ds[i], G3, anyP ρ2 vs, _, (rl3.grow gr).anyP nr2, dt, q2, fun ρ4 σ4 rl4 wp q4 => ?_⟩
    have we : wipe σ4 vs = wipe σ vs := (wp vs hjs).trans wipe_wipe
    have hl : σ.length = σ4.length := by
      have z := congrArg List.length we
      rw [wipe_length, wipe_length] at z
      exact z.symm
    have l3 : Le G1 G3 := l2.trans gr.le
    refine ⟨we, F, _, G3, ρ4, _, hF, rl4, q4, fun b ρ5 G5 H5 l5 rl5 q5 => ?_⟩
    cases b with
    | true =>
      refine iteT ⟨F, _, G5, ρ5, _, hF, rl5, by simpa using q5, fun r ρ6 v G6 H6 l6 p6 q6 => ?_⟩
      obtain ⟨G7, ρ7, d, l7, rl7, dt7, hacc, nr7, q7⟩ := p6.fix q6
      obtain ⟨_, _, xs, hxs, dts⟩ := rl7.pds (a, .lst acc) List.mem_cons_self
      have ln := dts.length
      refine ⟨xs, hxs, by rw [ln]; exact hacc, G7, anyP ρ7 vs, acc ++ [d], ((l3.trans l5).trans l6).trans l7, ?_, anyP_noRefs nr7, q7⟩
      exact (rl7.mutP (ob_lst (dts.append (.cons dt7 .nil)))).back nr7 we hl
    | false =>
      have q6 : noRefs ρ5 vs = true ∧ yLcL g tt te vs (ds.drop (i + 1)) acc (anyP ρ5 vs) (fun acc ρ2 => q (.new (.lst acc)) ρ2) := by simpa using q5
      exact iteF ⟨G5, anyP ρ5 vs, acc, l3.trans l5, rl5.back q6.1 we hl, anyP_noRefs q6.1, q6.2⟩
  · have e : i = ds.length := by omega
    subst e
    rw [List.drop_length] at q2
    exact .inl ⟨wd.stops H2 G2 l2 rl3.sub, k (.new (.lst acc)) ρ2 (.ref a) G2 H2 (l1.trans l2) ⟨a, rfl, rl3⟩ q2⟩
theorem ve_lc (hc : X.calm = true) (hN : X.N.Nodup) (hi : VI X W ex tg iter ti) (ok : BlkOk X.N X.env.scope scope own) (hjs : ∀ j ∈ js, j ∈ own.map (·.2))
    (hg : ∀ (s : Shared) (H : Hp) (C : Addr) (cl : List (Str × Addr)) (fp : List Addr), VG (X.blk s H scope (compEnvC scope cl C X.env) fp) tg js g) (ht : ∀ (s : Shared) (H : Hp) (C : Addr) (cl : List (Str × Addr)) (fp : List Addr), VTs (X.blk s H scope (compEnvC scope cl C X.env) fp) W0 ex ifs tt)
    (he : ∀ (s : Shared) (H : Hp) (C : Addr) (cl : List (Str × Addr)) (fp : List Addr), VE (X.blk s H scope (compEnvC scope cl C X.env) fp) W0 ex elt te) (hs : ∀ x, foldedSetIterable iter X.env x = pure x := by intro _; rfl) :
    VE X W ex (.ListComp elt [⟨tg, iter, ifs, 0⟩] scope pos) (yLc ti g tt te (own.map (·.2))) := by
  obtain ⟨_, p1, w1⟩ := hi
  exact ⟨_, pe_lc hc hN p1 ok (fun s H C cl fp => (hg s H C cl fp).can) (fun s H C cl fp => (ht s H C cl fp).can) (fun s H C cl fp => (he s H C cl fp).can) hs, fun F hF => lc_w hF (w1 F hF) hjs⟩
theorem vsw_set {F : Fm} {i : Nat} {t : TE} {y : TPe} (w1 : VEw X W F t y) : VSw X W F (tAsg t (gName i)) (zSet i y) := by
  refine ⟨fun G ρ σ H D d rl t k => w1.ok [] G ρ σ H _ _ _ rl t (fun r ρ1 v G1 H1 l p q => ?_) (k.xc σ)⟩
  obtain ⟨G2, ρ2, l2, rl2, q2⟩ := p.asgn q
  exact k.nx ρ2 _ G2 H1 (l.trans l2) rl2 q2
end
/-! ## methods that change their object -/
/-- by values: the object at p (own or by reference) becomes another one -/
structure MOk (X : Cx) (r : V → List V → Hp → VK → Prop) (f : D → List D → (D → D → Prop) → Prop) : Prop where
  ok : ∀ (G H : Hp) (p : Addr) (d : D) (vs : List V) (ds : List D) (Q : VK) (q : D → D → Prop), Sub G H → Ob X.tx G H p d → DatAll X.tx G vs ds → f d ds q →
    (∀ d' res w o, Ob X.tx G (upd H p o) p d' → Dat X.tx G w res → q d' res → Q w (upd H p o)) → r (.ref p) vs H Q
/-- the object of the slot that r names -/
def mutAt (ρ : Rho) (r : R) (k : Nat → Sl → D → Prop) : Prop := match r with
  | .loc i => match ρ[i]? with
    | some (.own d) => k i (.own d) d
    | some (.ref d) => k i (.ref d) d
    | _ => False
  | _ => False
def isLst : D → Prop
  | .lst _ => True
  | _ => False
def yMt (f : D → List D → (D → D → Prop) → Prop) (to : TPe) (ta : TPa) : TPe := fun ρ q x => to ρ (fun r ρ1 => mutAt ρ1 r fun _ _ d0 => isLst d0 ∧ ta ρ1 (fun rs ρ2 => fixs ρ2 rs fun ds ρ3 => mutAt ρ3 r fun i s d => f d ds fun d' res => q (.dat res) (ρ3.set i (s.put d'))) x) x
theorem mutAt_ok {T : Tx} {F : Fm} {pd : List (Addr × D)} {G H : Hp} {ρ : Rho} {σ : L2.St} {v : V} {r : R} {k : Nat → Sl → D → Prop} (rl : Rel T F pd G ρ σ H) (h : RHold T G σ v r) (q : mutAt ρ r k) :
    ∃ i s d p, r = .loc i ∧ v = .ref p ∧ ρ[i]? = some s ∧ s.mut = true ∧ σ[i]? = some (some (.ref p)) ∧ G p = none ∧ Ob T G H p d ∧ k i s d := by
  cases r with
  | loc i =>
    have hv : σ[i]? = some (some v) := h
    unfold mutAt at q
    simp only [] at q
    cases e : ρ[i]? with
    | none => simp only [e] at q
    | some s =>
      simp only [e] at q
      cases s with
      | own d =>
        obtain ⟨p, e1, n, _, ob⟩ := rl.slot _ _ e
        rw [hv] at e1
        cases e1
        exact ⟨i, _, d, p, rfl, rfl, e, rfl, hv, n, ob, q⟩
      | ref d =>
        obtain ⟨p, e1, _, n, ob⟩ := rl.slot _ _ e
        rw [hv] at e1
        cases e1
        exact ⟨i, _, d, p, rfl, rfl, e, rfl, hv, n, ob, q⟩
      | any => exact q.elim
      | frz _ => exact q.elim
      | exc _ _ => exact q.elim
      | par _ => exact q.elim
      | fre _ _ => exact q.elim
  | dat _ => exact q.elim
  | fre _ _ => exact q.elim
  | new _ => exact q.elim
theorem mutAt_loc {ρ : Rho} {r : R} {k : Nat → Sl → D → Prop} (q : mutAt ρ r k) : hold r = r := by
  cases r with
  | loc i => rfl
  | dat _ => exact q.elim
  | fre _ _ => exact q.elim
  | new _ => exact q.elim
section
variable {X : Cx} {W : WX} {ex : Ex} {o e : Expr} {es : List Expr} {to : TPe} {t : TPa} {pos : Pos}
/-- a list's method (the receiver a name) -/
theorem ve_mt {c : Expr} {r : V → List V → Hp → VK → Prop} {f : D → List D → (D → D → Prop) → Prop} (hm : ∀ te ta, PE X o te → PA X es ta → PE X c (tBM X.K "list" r te ta)) (ok : MOk X r f) (ho : VE X W ex o to) (ha : VA X W ex es t) : VE X W ex c (yMt f to t) := by
  obtain ⟨_, po, wo⟩ := ho
  obtain ⟨_, pa, wa⟩ := ha
  refine ⟨_, hm _ _ po pa, fun F hF => ⟨fun pd G ρ σ H Q q x rl t k w => (wo F hF).ok pd G ρ σ H _ _ _ rl t (fun r1 ρ1 v G1 H1 l1 p1 q1 => ?_) w⟩⟩
  have he := mutAt_loc q1
  obtain ⟨G1', l1', rl1, h1⟩ := p1.hold
  rw [he] at h1
  obtain ⟨i, s, d, p, rfl, rfl, e1, e2, e3, e4, ob, il, q1⟩ := mutAt_ok rl1 h1 q1
  refine ⟨?_, (wa F hF).ok pd G1' ρ1 σ H1 _ _ _ rl1 q1 (fun rs ρ2 vs G2 H2 l2 rl2 h2 q2 => ?_) ((w.mono l1).mono l1')⟩
  · cases d with
    | lst ds =>
      obtain ⟨xs, hx, _⟩ := ob
      exact .inl ⟨rfl, xs, SqL.of hx⟩
    | _ => exact il.elim
  · obtain ⟨G3, ρ3, ds, l3, rl3, dts, q3⟩ := RAll.fixs rl2 h2 q2
    obtain ⟨i', s', d', p', e, ev, f1, f2, f3, f4, ob', q4⟩ := mutAt_ok rl3 (show RHold X.tx G3 σ (.ref p) (.loc i) from e3) q3
    cases e
    cases ev
    exact ok.ok G3 H2 p d' vs ds _ _ rl3.sub ob' dts q4 fun d2 res y o2 ob2 dt2 q5 => k (.dat res) _ y G3 _ (((l1.trans l1').trans l2).trans l3) ⟨rl3.mutS f1 f2 f3 ob2, dt2⟩ q5
def mAppend : D → List D → (D → D → Prop) → Prop := fun d ds q => match d, ds with
  | .lst xs, [y] => xs.length < sizeLine ∧ q (.lst (xs ++ [y])) .non
  | _, _ => False
def mPopAt : D → List D → (D → D → Prop) → Prop := fun d ds q => match d, ds with
  | .lst xs, [.int i] => ∃ k y, (-(2 ^ 63) ≤ i ∧ i < 2 ^ 63) ∧ seqIndex? i xs.length = some k ∧ xs[k]? = some y ∧ q (.lst (xs.eraseIdx k)) y
  | _, _ => False
theorem DatAll.two {T : Tx} {G : Hp} {vs : List V} {d : D} (h : DatAll T G vs [d]) : ∃ v, vs = [v] ∧ Dat T G v d := by
  cases h with
  | cons h t => cases t; exact ⟨_, rfl, h⟩
theorem DatAll.erase {T : Tx} {G : Hp} : ∀ {vs : List V} {ds : List D} (k : Nat), DatAll T G vs ds → DatAll T G (vs.eraseIdx k) (ds.eraseIdx k)
  | _, _, _, .nil => .nil
  | _, _, 0, .cons _ t => t
  | _, _, k + 1, .cons h t => .cons h (DatAll.erase k t)
theorem mok_append : MOk X rAppend mAppend := ⟨fun G H p d vs ds Q q s ob dts f k => by
  unfold mAppend at f
  split at f
  · obtain ⟨y, rfl, dt⟩ := dts.two
    obtain ⟨xs, hx, t⟩ := ob
    exact ⟨p, xs, y, rfl, rfl, hx, by rw [t.length]; exact f.1, k _ .non .non _ (ob_lst (t.append (.cons dt .nil))) .non f.2⟩
  · exact f.elim⟩
theorem mok_popAt : MOk X rPopAt mPopAt := ⟨fun G H p d vs ds Q q s ob dts f k => by
  unfold mPopAt at f
  split at f
  · obtain ⟨v, rfl, dt⟩ := dts.two
    cases dt
    obtain ⟨xs, hx, t⟩ := ob
    obtain ⟨j, y, b, e0, e, f⟩ := f
    obtain ⟨v, e1, dt⟩ := t.get e
    exact ⟨p, xs, _, j, v, rfl, rfl, hx, b.1, b.2, by rw [t.length]; exact e0, e1, k _ y v _ (ob_lst (t.erase j)) dt f⟩
  · exact f.elim⟩
end
end PV
namespace PV
open PySem PySem.Spec PyProof.Rows L2
/-! ## what a def promises, of data alone -/
inductive Ag where
  | dat (d : D) | ref (d : D)
abbrev PSp := List Ag → (R → List D → Prop) → (Exn → List D → Prop) → Prop
inductive AgAll (T : Tx) (G H : Hp) : List V → List Ag → List Addr → Prop
  | nil : AgAll T G H [] [] []
  | dat {v : V} {d : D} {vs : List V} {as : List Ag} {ps : List Addr} : Dat T G v d → AgAll T G H vs as ps → AgAll T G H (v :: vs) (.dat d :: as) ps
  | ref {p : Addr} {d : D} {vs : List V} {as : List Ag} {ps : List Addr} : G p = none → Ob T G H p d → p ∉ ps → AgAll T G H vs as ps → AgAll T G H (.ref p :: vs) (.ref d :: as) (p :: ps)
structure CallPost (T : Tx) (G H G' H' : Hp) (ps : List Addr) (ds : List D) : Prop where
  le : Le G G'
  new : ∀ a o, G' a = some o → G a = none → H a = none ∧ (H' a = some o ∨ LockOf o H' a)
  keep : ∀ a o, H a = some o → a ∉ ps → H' a = some o ∨ (G a = some o ∧ LockOf o H' a)
  obs : Paired (fun p d => G' p = none ∧ Ob T G' H' p d) ps ds
def spOf (T : Tx) (sp : PSp) : Sp := fun vs H Q E => ∃ G as ps q x, Sub G H ∧ AgAll T G H vs as ps ∧ sp as q x ∧
  (∀ r ds v G' H', CallPost T G H G' H' ps ds → ROk T H G' H' v r → q r ds → Q v H') ∧
  (∀ e ds cls dd G' H', CallPost T G H G' H' ps ds → XOk T G' H' e cls dd → x e ds → E cls dd H')
theorem AgAll.length {T : Tx} {G H : Hp} : ∀ {vs : List V} {as : List Ag} {ps : List Addr}, AgAll T G H vs as ps → vs.length = as.length
  | _, _, _, .nil => rfl
  | _, _, _, .dat _ t => congrArg (· + 1) t.length
  | _, _, _, .ref _ _ _ t => congrArg (· + 1) t.length
theorem AgAll.ofDat {T : Tx} {G H : Hp} : ∀ {ws : List V} {ds : List D}, DatAll T G ws ds → AgAll T G H ws (ds.map .dat) []
  | _, _, .nil => .nil
  | _, _, .cons h t => .dat h (AgAll.ofDat t)
theorem AgAll.app {T : Tx} {G H : Hp} {ws : List V} {ds : List D} (hw : DatAll T G ws ds) : ∀ {vs : List V} {as : List Ag} {ps : List Addr}, AgAll T G H vs as ps → AgAll T G H (vs ++ ws) (as ++ ds.map .dat) ps
  | _, _, _, .nil => by
    rw [List.nil_append, List.nil_append]
    exact AgAll.ofDat hw
  | _, _, _, .dat h t => .dat h (AgAll.app hw t)
  | _, _, _, .ref a b c t => .ref a b c (AgAll.app hw t)
/-! ## a call, seen from the caller -/
def put1 (ρ : Rho) (i : Nat) (d : D) : Rho := match ρ[i]? with
  | some s => ρ.set i (s.put d)
  | none => ρ
def putAll (ρ : Rho) : List Nat → List D → Rho
  | i :: is, d :: ds => put1 (putAll ρ is ds) i d
  | _, _ => ρ
def fixM : Rho → List Bool → List R → (List (Sum D Nat) → Rho → Prop) → Prop
  | ρ, [], [], k => k [] ρ
  | ρ, true :: ms, .loc i :: rs, k => fixM ρ ms rs fun as ρ' => k (.inr i :: as) ρ'
  | ρ, false :: ms, r :: rs, k => fix ρ r fun d ρ1 => fixM ρ1 ms rs fun as ρ2 => k (.inl d :: as) ρ2
  | _, _, _, _ => False
def agsOf (ρ : Rho) : List (Sum D Nat) → (List Ag → List Nat → Prop) → Prop
  | [], k => k [] []
  | .inl d :: r, k => agsOf ρ r fun as is => k (.dat d :: as) is
  | .inr i :: r, k => agsOf ρ r fun as is => is.contains i = false ∧ match ρ[i]? with
    | some (.own d) => k (.ref d :: as) (i :: is)
    | some (.ref d) => k (.ref d :: as) (i :: is)
    | _ => False
def yCall (sp : PSp) (mask : List Bool) (dfl : List D) (ta : TPa) : TPe := fun ρ q x => ta ρ (fun rs ρ1 => fixM ρ1 mask rs fun as ρ2 => agsOf ρ2 as fun ags is => sp (ags ++ dfl.map .dat) (fun r ds => q r (putAll ρ2 is ds)) (fun e ds => x e (putAll ρ2 is ds))) x
section
variable {T : Tx} {F : Fm} {pd : List (Addr × D)} {G G' H H' : Hp} {ρ : Rho} {σ : L2.St}
/-- what stands for an argument -/
def AHold (T : Tx) (G : Hp) (σ : L2.St) (v : V) : Sum D Nat → Prop
  | .inl d => Dat T G v d
  | .inr i => σ[i]? = some (some v)
abbrev AHolds (T : Tx) (G : Hp) (σ : L2.St) : List V → List (Sum D Nat) → Prop := Paired (AHold T G σ)
theorem AHolds.mono (l : Le G G') : ∀ {vs : List V} {as : List (Sum D Nat)}, AHolds T G σ vs as → AHolds T G' σ vs as
  | _, _, .nil => .nil
  | _, .inl d :: _, .cons h t => .cons (show AHold T G' σ _ (.inl d) from Dat.mono l h) (AHolds.mono l t)
  | _, .inr i :: _, .cons h t => .cons (show AHold T G' σ _ (.inr i) from h) (AHolds.mono l t)
theorem fixM_ok : ∀ {ms : List Bool} {vs : List V} {rs : List R} {G : Hp} {ρ : Rho} {k : List (Sum D Nat) → Rho → Prop}, Rel T F pd G ρ σ H → RAll T G σ vs rs → fixM ρ ms rs k → ∃ G' ρ' as, Le G G' ∧ Rel T F pd G' ρ' σ H ∧ AHolds T G' σ vs as ∧ k as ρ'
  | [], _, _, G, ρ, _, rl, .nil, q => ⟨G, ρ, [], Le.refl _, rl, .nil, q⟩
  | [], _, _, G, ρ, _, rl, .cons _ _, q => q.elim
  | m :: ms, _, _, G, ρ, _, rl, .nil, q => by cases m <;> exact q.elim
  | false :: ms, _, _, G, ρ, _, rl, .cons h t, q => by
    obtain ⟨G1, ρ1, d, l1, R1, dt, q⟩ := RHold.fix rl h (by simpa only [fixM] using q)
    obtain ⟨G2, ρ2, as, l2, R2, hs, q⟩ := fixM_ok R1 (t.mono l1) q
    exact ⟨G2, ρ2, .inl d :: as, l1.trans l2, R2, .cons (show AHold T G2 σ _ (.inl d) from dt.mono l2) hs, q⟩
  | true :: ms, _, r :: _, G, ρ, _, rl, .cons h t, q => by
    cases r with
    | loc i =>
      obtain ⟨G2, ρ2, as, l2, R2, hs, q⟩ := fixM_ok rl t (by simpa only [fixM] using q)
      exact ⟨G2, ρ2, .inr i :: as, l2, R2, .cons (show AHold T G2 σ _ (.inr i) from h) hs, q⟩
    | dat _ => exact q.elim
    | fre _ _ => exact q.elim
    | new _ => exact q.elim
/-- the slots that are handed on, their addresses -/
inductive Hand (F : Fm) (ρ : Rho) (σ : L2.St) : List Nat → List Addr → Prop
  | nil : Hand F ρ σ [] []
  | cons {i : Nat} {p : Addr} {s : Sl} {is : List Nat} {ps : List Addr} : σ[i]? = some (some (.ref p)) → ρ[i]? = some s → s.mut = true → Hand F ρ σ is ps → Hand F ρ σ (i :: is) (p :: ps)
theorem Hand.at {is : List Nat} {ps : List Addr} (h : Hand F ρ σ is ps) {p : Addr} (m : p ∈ ps) : ∃ i s, i ∈ is ∧ σ[i]? = some (some (.ref p)) ∧ ρ[i]? = some s ∧ s.mut = true := by
  induction h with
  | nil => cases m
  | @cons i p' s is ps h1 h2 h3 t ih =>
    rcases List.mem_cons.mp m with rfl | m
    · exact ⟨i, s, List.mem_cons_self, h1, h2, h3⟩
    · obtain ⟨j, s', a, b⟩ := ih m
      exact ⟨j, s', List.mem_cons_of_mem _ a, b⟩
theorem agsOf_ok (rl : Rel T F pd G ρ σ H) : ∀ {vs : List V} {as : List (Sum D Nat)} {k : List Ag → List Nat → Prop}, AHolds T G σ vs as → agsOf ρ as k → ∃ ags is ps, AgAll T G H vs ags ps ∧ Hand F ρ σ is ps ∧ k ags is
  | _, _, _, .nil, q => ⟨[], [], [], .nil, .nil, q⟩
  | _, .inl d :: _, _, .cons h t, q => by
    obtain ⟨ags, is, ps, a, b, q⟩ := agsOf_ok rl t q
    exact ⟨_, is, ps, .dat h a, b, q⟩
  | v :: _, .inr i :: _, _, .cons h t, q => by
    obtain ⟨ags, is, ps, a, b, ni, q⟩ := agsOf_ok rl t q
    have hv : σ[i]? = some (some v) := h
    have key : ∀ {s : Sl} {d : D}, ρ[i]? = some s → s.mut = true → (∃ p, v = .ref p ∧ G p = none ∧ Ob T G H p d) → ∃ p, v = .ref p ∧ p ∉ ps ∧ G p = none ∧ Ob T G H p d := fun {s d} e m ⟨p, ev, g, ob⟩ => by
      refine ⟨p, ev, fun hm => ?_, g, ob⟩
      obtain ⟨j, s', hj, e1, e2, m2⟩ := b.at hm
      have hij := rl.apart i j s s' p e e2 m m2 (by rw [hv, ev]) e1
      rw [hij] at ni
      simp [hj] at ni
    cases e : ρ[i]? with
    | none => rw [e] at q; exact q.elim
    | some s =>
      rw [e] at q
      cases s with
      | own d =>
        obtain ⟨p, e1, n, _, ob⟩ := rl.slot _ _ e
        rw [hv] at e1
        cases e1
        obtain ⟨p', ev, np, g, ob⟩ := key e rfl ⟨p, rfl, n, ob⟩
        cases ev
        exact ⟨_, _, p :: ps, .ref g ob np a, .cons hv e rfl b, q⟩
      | ref d =>
        obtain ⟨p, e1, _, n, ob⟩ := rl.slot _ _ e
        rw [hv] at e1
        cases e1
        obtain ⟨p', ev, np, g, ob⟩ := key e rfl ⟨p, rfl, n, ob⟩
        cases ev
        exact ⟨_, _, p :: ps, .ref g ob np a, .cons hv e rfl b, q⟩
      | any => exact q.elim
      | frz _ => exact q.elim
      | exc _ _ => exact q.elim
      | par _ => exact q.elim
      | fre _ _ => exact q.elim
theorem put_put {s : Sl} {d e : D} : (s.put d).put e = s.put e := by cases s <;> rfl
/-- a slot behind the call -/
theorem putAll_get : ∀ {is : List Nat} {ps : List Addr} {ds : List D}, Hand F ρ σ is ps → Paired (fun p d => G' p = none ∧ Ob T G' H' p d) ps ds → ∀ {j : Nat} {t : Sl}, (putAll ρ is ds)[j]? = some t →
    (j ∉ is ∧ ρ[j]? = some t) ∨ ∃ s d p, j ∈ is ∧ ρ[j]? = some s ∧ s.mut = true ∧ t = s.put d ∧ σ[j]? = some (some (.ref p)) ∧ p ∈ ps ∧ G' p = none ∧ Ob T G' H' p d
  | _, _, _, .nil, .nil, j, t, h => .inl ⟨by simp, h⟩
  | i :: is, p :: ps, d :: dr, .cons (s := s) h1 h2 h3 hr, .cons ho hp, j, t, h => by
    have hh : (put1 (putAll ρ is dr) i d)[j]? = some t := h
    clear h
    unfold put1 at hh
    cases e : (putAll ρ is dr)[i]? with
    | none =>
      simp only [e] at hh
      rcases putAll_get hr hp hh with ⟨a, b⟩ | ⟨s', d', p', a, b⟩
      · by_cases w : j = i
        · subst w
          rw [e] at hh
          cases hh
        · exact .inl ⟨by simp [w, a], b⟩
      · exact .inr ⟨s', d', p', List.mem_cons_of_mem _ a, b.1, b.2.1, b.2.2.1, b.2.2.2.1, List.mem_cons_of_mem _ b.2.2.2.2.1, b.2.2.2.2.2⟩
    | some u =>
      simp only [e] at hh
      rcases set_get hh with ⟨rfl, rfl⟩ | ⟨ne, hh⟩
      · refine .inr ⟨s, d, p, List.mem_cons_self, h2, h3, ?_, h1, List.mem_cons_self, ho.1, ho.2⟩
        rcases putAll_get hr hp e with ⟨_, b⟩ | ⟨s', d', p', _, b, _, c, _⟩
        · rw [h2] at b
          cases b
          rfl
        · rw [h2] at b
          cases b
          rw [c, put_put]
      · rcases putAll_get hr hp hh with ⟨a, b⟩ | ⟨s', d', p', a, b⟩
        · exact .inl ⟨by simp [ne, a], b⟩
        · exact .inr ⟨s', d', p', List.mem_cons_of_mem _ a, b.1, b.2.1, b.2.2.1, b.2.2.2.1, List.mem_cons_of_mem _ b.2.2.2.2.1, b.2.2.2.2.2⟩
theorem putAll_len : ∀ {is : List Nat} {ds : List D}, (putAll ρ is ds).length = ρ.length
  | [], _ => by simp only [putAll]
  | _ :: _, [] => by simp only [putAll]
  | i :: is, d :: ds => by
    show (put1 (putAll ρ is ds) i d).length = _
    unfold put1
    split
    · rw [List.length_set, putAll_len]
    · exact putAll_len
theorem putAll_ref : ∀ {is : List Nat} {ds : List D} {j : Nat} {d : D}, ρ[j]? = some (.ref d) → ∃ d', (putAll ρ is ds)[j]? = some (.ref d')
  | [], _, j, d, h => ⟨d, by simpa only [putAll] using h⟩
  | _ :: _, [], j, d, h => ⟨d, by simpa only [putAll] using h⟩
  | i :: is, e :: ds, j, d, h => by
    obtain ⟨d', h'⟩ := putAll_ref (is := is) (ds := ds) h
    show ∃ d', (put1 (putAll ρ is ds) i e)[j]? = some (.ref d')
    unfold put1
    by_cases w : j = i
    · subst w
      simp only [h']
      exact ⟨e, set_in h'⟩
    · split
      · exact ⟨d', by rw [List.getElem?_set_ne (Ne.symm w)]; exact h'⟩
      · exact ⟨d', h'⟩
theorem Rel.call {is : List Nat} {ps : List Addr} {ds : List D} (rl : Rel T F pd G ρ σ H) (ha : Hand F ρ σ is ps) (cp : CallPost T G H G' H' ps ds) : Rel T F pd G' (putAll ρ is ds) σ H' := by
  have pg : ∀ p ∈ ps, G p = none ∧ (F.H0 p = none ∨ p ∈ F.refs.map (·.2)) ∧ (∀ fs, H p ≠ some (.xd fs)) := fun p hp => by
    obtain ⟨i, s, _, e1, e2, m⟩ := ha.at hp
    obtain ⟨p', d, e3, g, ob, fl⟩ := rl.mutOb e2 m
    rw [e1] at e3
    cases e3
    refine ⟨g, ?_, fun fs => Ob.noXd ob⟩
    rcases fl with ⟨_, z⟩ | ⟨_, z⟩
    · exact .inl z
    · exact .inr (List.mem_map.mpr ⟨(i, p), z, rfl⟩)
  have keepG : ∀ a o, G a = some o → H' a = some o ∨ LockOf o H' a := fun a o e => by
    have np : a ∉ ps := fun z => by rw [(pg a z).1] at e; cases e
    rcases rl.sub a o e with z | ⟨ob, kvs, eo, z⟩
    · rcases cp.keep a o z np with z | ⟨_, z⟩
      · exact .inl z
      · exact .inr z
    · rcases cp.keep a _ z np with z | ⟨_, ob', kvs', w, _⟩
      · exact .inr ⟨ob, kvs, eo, z⟩
      · exact (LkT.no_frz w).elim
  have objs : ∀ p d, G p = none → Ob T G H p d → p ∉ ps → G' p = none ∧ Ob T G' H' p d := fun p d g ob np => by
    obtain ⟨o, e⟩ := ob.some
    refine ⟨?_, ?_⟩
    · cases w : G' p with
      | none => rfl
      | some u =>
        have z := (cp.new p u w g).1
        rw [e] at z; cases z
    · rcases cp.keep p o e np with z | ⟨z, _⟩
      · exact ob.mono cp.le (z.trans e.symm)
      · rw [g] at z; cases z
  refine ⟨by rw [putAll_len]; exact rl.len, fun a o e => ?_, rl.old.trans cp.le, fun a o n e => ?_, fun a o e m => ?_, fun j t h => ?_, fun i j s t p h1 h2 m1 m2 e1 e2 => ?_, fun q hq => ?_, rl.pnd, fun i s h m q hq => ?_, fun q hq => ?_, fun q hq => ?_⟩
  · cases g : G a with
    | some u =>
      have := cp.le a u g
      rw [e] at this
      cases this
      exact keepG a o g
    | none => exact (cp.new a o e g).2
  · cases g : G a with
    | some u => exact rl.new a u n g
    | none => exact rl.h0 (cp.new a o e g).1
  · have np : a ∉ ps := fun z => by
      rcases (pg a z).2.1 with w | w
      · rw [e] at w; cases w
      · exact m w
    rcases rl.keep a o e m with z | ⟨z0, ob, kvs, eo, z⟩
    · rcases cp.keep a o z np with z | ⟨z1, z⟩
      · exact .inl z
      · refine .inr ⟨?_, z⟩
        cases w : F.G0 a with
        | none =>
          have := rl.new a o w z1
          rw [e] at this; cases this
        | some u =>
          have := rl.old a u w
          rw [z1] at this
          cases this
          rfl
    · rcases cp.keep a _ z np with z | ⟨_, ob', kvs', w, _⟩
      · exact .inr ⟨z0, ob, kvs, eo, z⟩
      · exact (LkT.no_frz w).elim
  · rcases putAll_get ha cp.obs h with ⟨nj, h⟩ | ⟨s, d, p, hj, hs, m, et, e1, hp, g, ob⟩
    · have k := rl.slot j t h
      have np : ∀ {p : Addr}, t.mut = true → σ[j]? = some (some (.ref p)) → p ∉ ps := fun {p} m e z => by
        obtain ⟨i, s, hi, e1, e2, m2⟩ := ha.at z
        exact nj (by rw [rl.apart j i t s p h e2 m m2 e e1]; exact hi)
      cases t with
      | any => trivial
      | frz d => obtain ⟨v, e, dt⟩ := k; exact ⟨v, e, dt.mono cp.le⟩
      | par d => obtain ⟨v, e, dt⟩ := k; exact ⟨v, e, dt⟩
      | fre c d => obtain ⟨v, e, dt, f⟩ := k; exact ⟨v, e, dt.mono cp.le, f.mono cp.le⟩
      | own d =>
        obtain ⟨p, e, g, z, ob⟩ := k
        obtain ⟨a, b⟩ := objs p d g ob (np rfl e)
        exact ⟨p, e, a, z, b⟩
      | ref d =>
        obtain ⟨p, e, z, g, ob⟩ := k
        obtain ⟨a, b⟩ := objs p d g ob (np rfl e)
        exact ⟨p, e, z, a, b⟩
      | exc f d =>
        obtain ⟨a, dd, v, e1, e2, e3, e4⟩ := k
        have nd : dd ∉ ps := fun z => (pg dd z).2.2 _ e3
        rcases cp.keep dd _ e3 nd with z | ⟨_, _, _, w, _⟩
        · exact ⟨a, dd, v, e1, e2, z, e4.mono cp.le⟩
        · exact (LkT.no_xd w).elim
    · have k := rl.slot j s hs
      subst et
      cases s with
      | own d0 =>
        obtain ⟨p', e, _, z, _⟩ := k
        rw [e1] at e
        cases e
        exact ⟨p, e1, g, z, ob⟩
      | ref d0 =>
        obtain ⟨p', e, z, _, _⟩ := k
        rw [e1] at e
        cases e
        exact ⟨p, e1, z, g, ob⟩
      | any => cases m
      | frz _ => cases m
      | exc _ _ => cases m
      | par _ => cases m
      | fre _ _ => cases m
  · have back : ∀ {l : Nat} {t : Sl}, (putAll ρ is ds)[l]? = some t → t.mut = true → ∃ t', ρ[l]? = some t' ∧ t'.mut = true := fun {l t} h m => by
      rcases putAll_get ha cp.obs h with ⟨_, h⟩ | ⟨s, d, p, _, h, m', _⟩
      · exact ⟨t, h, m⟩
      · exact ⟨s, h, m'⟩
    obtain ⟨s', h1', m1'⟩ := back h1 m1
    obtain ⟨t', h2', m2'⟩ := back h2 m2
    exact rl.apart i j s' t' p h1' h2' m1' m2' e1 e2
  · obtain ⟨g, z, ob⟩ := rl.pds q hq
    have np : q.1 ∉ ps := fun w => by
      obtain ⟨i, s, _, e1, e2, m⟩ := ha.at w
      exact rl.pap i s e2 m q hq e1
    obtain ⟨a, b⟩ := objs q.1 q.2 g ob np
    exact ⟨a, z, b⟩
  · rcases putAll_get ha cp.obs h with ⟨_, h⟩ | ⟨s', d, p, _, h, m', _⟩
    · exact rl.pap i s h m q hq
    · exact rl.pap i s' h m' q hq
  · obtain ⟨e, g, ob, kvs, eq⟩ := rl.lck q hq
    have np : q.1 ∉ ps := fun w => g (pg _ w).1
    refine ⟨?_, fun z => ?_, ob, kvs, eq⟩
    · rcases cp.keep q.1 q.2 e np with z | ⟨z, ob, kvs, w, _⟩
      · exact z
      · rw [eq] at w; exact (LkT.no_frz w).elim
    · cases w : G q.1 with
      | none => exact g w
      | some u =>
        have := cp.le _ _ w
        rw [z] at this; cases this
  · obtain ⟨e1, d, e2⟩ := rl.rfs q hq
    obtain ⟨d', h⟩ := putAll_ref (is := is) (ds := ds) e2
    exact ⟨e1, d', h⟩
end
/-- a new object that a call handed out -/
theorem Rel.pushC {T : Tx} {F : Fm} {pd : List (Addr × D)} {G G' H H' : Hp} {ρ : Rho} {σ : L2.St} {is : List Nat} {ps : List Addr} {ds : List D} {p : Addr} {d : D} (r3 : Rel T F pd G' (putAll ρ is ds) σ H') (rl : Rel T F pd G ρ σ H) (ha : Hand F ρ σ is ps)
    (cp : CallPost T G H G' H' ps ds) (hp : H p = none) (gp : G' p = none) (ob : Ob T G' H' p d) : Rel T F ((p, d) :: pd) G' (putAll ρ is ds) σ H' := by
  refine ⟨r3.len, r3.sub, r3.old, r3.new, r3.keep, r3.slot, r3.apart, fun q hq => ?_, ?_, fun i s e m q hq => ?_, r3.lck, r3.rfs⟩
  · rcases List.mem_cons.mp hq with rfl | hq
    · exact ⟨gp, rl.h0 hp, ob⟩
    · exact r3.pds q hq
  · show (p :: pd.map (·.1)).Nodup
    refine List.nodup_cons.mpr ⟨fun hm => ?_, rl.pnd⟩
    obtain ⟨q, hq, e⟩ := List.mem_map.mp hm
    obtain ⟨o, e2⟩ := (rl.pds q hq).2.2.some
    have e : q.1 = p := e
    rw [e, hp] at e2; cases e2
  · rcases List.mem_cons.mp hq with rfl | hq
    · intro z
      have old : ∃ s', ρ[i]? = some s' ∧ s'.mut = true := by
        rcases putAll_get ha cp.obs e with ⟨_, h⟩ | ⟨s', d', p', _, h, m', _⟩
        · exact ⟨s, h, m⟩
        · exact ⟨s', h, m'⟩
      obtain ⟨s', e', m'⟩ := old
      obtain ⟨p', d', e1, _, ob', _⟩ := rl.mutOb e' m'
      rw [z] at e1
      cases e1
      obtain ⟨o, e2⟩ := ob'.some
      rw [hp] at e2; cases e2
    · exact r3.pap i s e m q hq
/-! ## the call's rules -/
section
variable {X : Cx} {W : WX} {ex : Ex} {e o : Expr} {es : List Expr} {to : TPe} {t : TPa} {sp : PSp} {mask : List Bool} {dvs : List V} {dds : List D} {pos : Pos}
/-- what is asked of a call's reading -/
theorem call_ok {F : Fm} {pd : List (Addr × D)} {G H : Hp} {ρ : Rho} {σ : L2.St} {vs : List V} {rs : List R} {Q : VK} {q : R → Rho → Prop} {x : Exn → Rho → Prop} {pre : List V} {pred : List D} (hp : ∀ G', Le G G' → DatAll X.tx G' pre pred) (hd : ∀ G, DatAll X.tx G dvs dds) (rl : Rel X.tx F pd G ρ σ H) (h : RAll X.tx G σ vs rs)
    (t : fixM ρ mask rs fun as ρ2 => agsOf ρ2 as fun ags is => sp (pred.map .dat ++ (ags ++ dds.map .dat)) (fun r ds => q r (putAll ρ2 is ds)) (fun e ds => x e (putAll ρ2 is ds)))
    (k : ∀ r ρ' v G' H', Le G G' → VPost X.tx F pd G' σ H' v ρ' r → q r ρ' → Q v H') (w : WOk X W F x G σ) : spOf X.tx sp (pre ++ (vs ++ dvs)) H Q (fun cls d H' => W cls d σ H') := by
  obtain ⟨G2, ρ2, as, l2, rl2, hs, t2⟩ := fixM_ok rl h t
  obtain ⟨ags, is, ps, a, b, t3⟩ := agsOf_ok rl2 hs t2
  have a2 : AgAll X.tx G2 H (pre ++ (vs ++ dvs)) (pred.map .dat ++ (ags ++ dds.map .dat)) ps := by
    have base := AgAll.app (hd G2) a
    have add : ∀ {us : List V} {ds : List D}, DatAll X.tx G2 us ds → AgAll X.tx G2 H (us ++ (vs ++ dvs)) (ds.map .dat ++ (ags ++ dds.map .dat)) ps := by
      intro us
      induction us with
      | nil => intro ds h; cases h; exact base
      | cons u us ih => intro ds h; cases h with | cons h t => exact .dat h (ih t)
    exact add (hp G2 l2)
  refine ⟨G2, _, ps, _, _, rl2.sub, a2, t3, fun r ds v G' H' cp ro qr => ?_, fun e ds cls dd G' H' cp xo xr => ?_⟩
  · have rl3 := rl2.call b cp
    refine k r _ v G' H' (l2.trans cp.le) ?_ qr
    cases r with
    | dat d => exact ⟨rl3, ro⟩
    | new d =>
      obtain ⟨p, rfl, hp, gp, ob⟩ := ro
      exact ⟨p, rfl, rl3.pushC rl2 b cp hp gp ob⟩
    | loc _ => exact ro.elim
    | fre c d => exact ⟨rl3, ro.1, ro.2.fr rl2⟩
  · exact w e _ G' H' cls dd (l2.trans cp.le) (rl2.call b cp).nil xo xr
end
end PV
namespace L2
open PySem PySem.Spec PyProof.Rows
section
variable {X : Cx} {W : WX} {k : Nat} {f C : Addr} {fd : FuncData} {ps : List Str} {sp : Sp} {dvs : List V} {ds : List Value} {x m : Str} {p pos apos : Pos} {e o : Expr} {es : List Expr} {ta : TE} {t : TA}
/-- o.m() -/
theorem pe_meth0W {pl : Sem Bool} (he : PE X o ta) (c : Cls X.K C) (hm : Meth X.K C m f) (F : FnOk X.prog X.w X.K X.mg X.base (L2.CX X.prog X.w) k f fd ps sp) (hr : Room k X.A) (hb : Binds X.K fd ps ds) (hd : Vals dvs ds) (tk : Takes X W)
    (ht : eval (.Call (.Attribute o m apos) [] [] pos) X.env = (eval o X.env >>= fun ov => standAt apos.atName >>= fun _ => holding [ov] (getMethod ov m pl) >>= fun z => callWith pos z.1 z.2 (backTo pos (starEach [] X.env)) (backToKw pos (keywordEach [] X.env))) := by rfl) :
    PE X (.Call (.Attribute o m apos) [] [] pos) (fun σ H Q => ta σ H fun y H1 => ∃ a dx fs, y = .ref a ∧ H1 a = some (.ins C dx fs) ∧ fs.lookup m = none ∧ sp (y :: dvs) H1 Q (WE W σ)) := by
  refine ⟨fun pins s σ H Q I h => PySem.W.methodCall_KW (pl := pl) (thn (he.run pins s σ H _ I h) fun u s1 ⟨y, H1, I1, ry, a, dx, fs, ey, ea, l, q⟩ => ?_) ht⟩
  subst ey
  cases ry
  exact getmeth_ok I1 ea c hm l (PySem.W.callWith_K0 (first := [.ref a]) I1.kIn hm.kp (run_fnSD (us := [.ref a]) (vs := [.ref a]) (E := WE W) F hr hb hd (passAt tk σ) I1 (.cons rfl .nil) q))
/-- C(e, ..) -/
theorem pe_makeW (M : Mk X.K C f) (F : FnOk X.prog X.w X.K X.mg X.base (L2.CX X.prog X.w) k f fd ps sp) (hr : Room (k + 1) X.A) (hg : Gl X x) (hm : X.mg x = some (.ref C)) (hb : Binds X.K fd ps ds) (hd : Vals dvs ds) (tk : Takes X W) (ha : PA X (e :: es) t)
    (hdb : (x == ("__debug__" : Str)) = false := by decide) (he : starEach (e :: es) X.env = (false, eval e X.env) :: starEach es X.env := by rfl) (hpl : (backTo pos (starEach es X.env)).any (·.1) = false := by rfl) :
    PE X (.Call (.Name x p) (e :: es) [] pos) (fun σ H Q => t σ H fun vs H1 => ∀ y dx, H1 y = none → H1 dx = none → dx ≠ y → sp (.ref y :: (vs ++ dvs)) (upd (upd H1 dx (.own y)) y (.ins C dx [])) (fun v H2 => v = .non ∧ Q (.ref y) H2) (WE W σ)) := by
  refine ⟨fun pins s σ H Q I h => ?_⟩
  refine wpAny_Call_Name_kw (ld_glob I hg hm ?_ hdb)
  refine PySem.W.callWith_K (h₀ := X.base) I.ok.mod.kin M.kp (thn (ha.run pos pins s σ H _ I h) fun us s1 ⟨vs, H1, I1, r, q⟩ => ⟨I1.kIn, ?_⟩) he hpl
  have q1 := q (s1.heap.objs.size + 1) s1.heap.objs.size (I1.hok.fresh (Nat.le_succ _)) (I1.hok.fresh (Nat.le_refl _)) (Nat.ne_of_lt (Nat.lt_succ_self _))
  have I2 := Inv.made (C := C) I1
  have r2 : Vals (V.ref (s1.heap.objs.size + 1) :: (vs ++ dvs)) (Value.ref (s1.heap.objs.size + 1) :: (us ++ ds)) := .cons rfl (r.append hd)
  have hl : (Value.ref (s1.heap.objs.size + 1) :: us ++ ds).length = ps.length := by
    rw [← F.len _ _ _ _ q1]
    exact r2.length.symm
  refine wpAny_call (make_map (f := f) I1.kIn M.makes M.init (beq_iff_eq.mp M.fn) (codeAny_mono (F.run _ X.stack _ _ ⟨Value.ref (s1.heap.objs.size + 1) :: us, []⟩ (Value.ref (s1.heap.objs.size + 1) :: (us ++ ds)) _ _ _ (hr.make C us []) (I2.env0.make C us []) (hb _ (Value.ref (s1.heap.objs.size + 1) :: us) I2.kIn hl) r2 q1) fun r s' hq' => ?_))
  cases r with
  | error e => exact passAt tk σ pins _ _ e s' I2 hq'
  | ok fl =>
    cases fl with
    | ret u =>
      obtain ⟨v, H', I3, rv, ev, q3⟩ := I2.after hq'
      subst ev
      exact ⟨rv, ⟨V.ref (s1.heap.objs.size + 1), H', I3, rfl, q3⟩⟩
    | next => exact False.elim hq'
    | brk => exact False.elim hq'
    | cont => exact False.elim hq'
end
end L2
namespace PV
open PySem PySem.Spec PyProof.Rows L2
theorem ob_obj {T : Tx} {G H : Hp} {p C dx : Addr} {c : Str} {ns : List Str} {xs : List V} {ds : List D} (hc : T.mg c = some (.ref C)) (hl : xs.length = ns.length) (h : DatAll T G xs ds) : Ob T G (upd H p (.ins C dx (ns.zip xs))) p (.obj c ns ds) := ⟨C, dx, xs, hc, upd_same, hl, h⟩
section
variable {X : Cx} {W : WX} {ex : Ex} {e o : Expr} {es : List Expr} {to te : TPe} {t : TPa} {sp : PSp} {dvs : List V} {dds : List D} {pos apos p : Pos} {k : Nat} {f C : Addr} {fd : FuncData} {ps : List Str} {ds : List Value} {x m c : Str}
theorem ve_call (mask : List Bool) (F : FnOk X.prog X.w X.K X.mg X.base (L2.CX X.prog X.w) k f fd ps (spOf X.tx sp)) (hr : Room k X.A) (hg : Gl X x) (hm : X.mg x = some (.ref f)) (hk : PySem.W.keepIn X.K (.ref f) = true) (hb : Binds X.K fd ps ds) (hd : Vals dvs ds) (hdd : ∀ G, DatAll X.tx G dvs dds) (tk : Takes X W)
    (ha : VA X W ex (e :: es) t) (hdb : (x == ("__debug__" : Str)) = false := by decide) (he : starEach (e :: es) X.env = (false, eval e X.env) :: starEach es X.env := by rfl) (hpl : (backTo pos (starEach es X.env)).any (·.1) = false := by rfl) :
    VE X W ex (.Call (.Name x p) (e :: es) [] pos) (yCall sp mask dds t) := by
  obtain ⟨_, pa, wa⟩ := ha
  refine ⟨_, pe_callSD (E := WE W) F hr hg hm hk hb hd (fun σ => passAt tk σ) pa hdb he hpl, fun F hF => ⟨fun pd G ρ σ H Q q x rl t k w => (wa F hF).ok pd G ρ σ H _ _ _ rl t (fun rs ρ1 vs G1 H1 l1 rl1 h1 q1 => ?_) w⟩⟩
  exact call_ok (pre := []) (pred := []) (fun _ _ => .nil) hdd rl1 h1 q1 (fun r ρ' v G' H' l p q => k r ρ' v G' H' (l1.trans l) p q) (w.mono l1)
def yCall0 (sp : PSp) (dfl : List D) : TPe := fun ρ q x => sp (dfl.map .dat) (fun r _ => q r ρ) (fun e _ => x e ρ)
/-- o.m(..): the object, given away, stands ahead -/
def yMeth (c m : Str) (sp : PSp) (mask : List Bool) (dfl : List D) (to : TPe) (ta : TPa) : TPe := fun ρ q x => to ρ (fun r ρ0 => fix ρ0 r fun d ρ1 => match d with
  | .obj c' ns fs => c' = c ∧ ns.contains m = false ∧ ta ρ1 (fun rs ρ2 => fixM ρ2 mask rs fun as ρ3 => agsOf ρ3 as fun ags is => sp (.dat (.obj c' ns fs) :: (ags ++ dfl.map .dat)) (fun r ds => q r (putAll ρ3 is ds)) (fun e ds => x e (putAll ρ3 is ds))) x
  | _ => False) x
theorem look_zip {ns : List Str} {xs : List V} {m : Str} (h : ns.contains m = false) : (ns.zip xs).lookup m = none := by
  induction ns generalizing xs with
  | nil => rfl
  | cons n ns ih =>
    cases xs with
    | nil => rfl
    | cons x xs =>
      rw [List.contains_cons, Bool.or_eq_false_iff] at h
      rw [List.zip_cons_cons, List.lookup_cons, h.1]
      exact ih h.2
theorem dat_obj {T : Tx} {F : Fm} {pd : List (Addr × D)} {G H : Hp} {ρ : Rho} {σ : L2.St} {v : V} {c : Str} {ns : List Str} {fs : List D} {C : Addr} (rl : Rel T F pd G ρ σ H) (h : Dat T G v (.obj c ns fs)) (hc : T.mg c = some (.ref C)) :
    ∃ a dx xs, v = .ref a ∧ H a = some (.ins C dx (ns.zip xs)) ∧ xs.length = ns.length ∧ DatAll T G xs fs := by
  cases h with
  | obj m h e t =>
    rw [hc] at m
    cases m
    rcases rl.sub _ _ h with z | ⟨_, _, z, _⟩
    · exact ⟨_, _, _, rfl, z, e, t⟩
    · exact (LkT.no_ins z).elim
theorem ve_meth0 {pl : Sem Bool} (hC : X.mg c = some (.ref C)) (cl : Cls X.K C) (hm : Meth X.K C m f) (F : FnOk X.prog X.w X.K X.mg X.base (L2.CX X.prog X.w) k f fd ps (spOf X.tx sp)) (hr : Room k X.A) (hb : Binds X.K fd ps ds) (hd : Vals dvs ds) (hdd : ∀ G, DatAll X.tx G dvs dds) (tk : Takes X W)
    (ho : VE X W ex o to)
    (ht : eval (.Call (.Attribute o m apos) [] [] pos) X.env = (eval o X.env >>= fun ov => standAt apos.atName >>= fun _ => holding [ov] (getMethod ov m pl) >>= fun z => callWith pos z.1 z.2 (backTo pos (starEach [] X.env)) (backToKw pos (keywordEach [] X.env))) := by rfl) :
    VE X W ex (.Call (.Attribute o m apos) [] [] pos) (yMeth c m sp [] dds to yNil) := by
  obtain ⟨_, po, wo⟩ := ho
  refine ⟨_, pe_meth0W (W := W) po cl hm F hr hb hd tk ht, fun F hF => ⟨fun pd G ρ σ H Q q x rl t k w => (wo F hF).ok pd G ρ σ H _ _ _ rl t (fun r ρ1 v G1 H1 l1 p1 q1 => ?_) w⟩⟩
  obtain ⟨G2, ρ2, d, l2, rl2, h2, q2⟩ := p1.fix q1
  cases d with
  | obj c' ns fs =>
    obtain ⟨ec, nm, q3⟩ := q2
    subst ec
    obtain ⟨a, dx, xs, rfl, e1, e2, e3⟩ := dat_obj rl2 h2 hC
    refine ⟨a, dx, _, rfl, e1, look_zip nm, ?_⟩
    exact call_ok (vs := []) (pre := [.ref a]) (pred := [.obj c' ns fs]) (fun G' l' => .cons (Dat.mono l' h2) .nil) hdd rl2 .nil q3 (fun r ρ' v G' H' l p q => k r ρ' v G' H' ((l1.trans l2).trans l) p q) ((w.mono l1).mono l2)
  | _ => exact q2.elim
/-- C(..): the new instance, then __init__ with it by reference -/
def yMake (c : Str) (sp : PSp) (mask : List Bool) (dfl : List D) (ta : TPa) : TPe := fun ρ q x => ta ρ (fun rs ρ1 => fixM ρ1 mask rs fun as ρ2 => agsOf ρ2 as fun ags is => sp (.ref (.obj c [] []) :: (ags ++ dfl.map .dat))
  (fun r ds => match r, ds with
    | .dat .non, d :: ds => q (.new d) (putAll ρ2 is ds)
    | _, _ => False) (fun e ds => x e (putAll ρ2 is ds.tail))) x
theorem ve_make (mask : List Bool) (M : Mk X.K C f) (F : FnOk X.prog X.w X.K X.mg X.base (L2.CX X.prog X.w) k f fd ps (spOf X.tx sp)) (hr : Room (k + 1) X.A) (hg : Gl X x) (hm : X.mg x = some (.ref C)) (hb : Binds X.K fd ps ds) (hd : Vals dvs ds) (hdd : ∀ G, DatAll X.tx G dvs dds) (tk : Takes X W)
    (ha : VA X W ex (e :: es) t) (hdb : (x == ("__debug__" : Str)) = false := by decide) (he : starEach (e :: es) X.env = (false, eval e X.env) :: starEach es X.env := by rfl) (hpl : (backTo pos (starEach es X.env)).any (·.1) = false := by rfl) :
    VE X W ex (.Call (.Name x p) (e :: es) [] pos) (yMake x sp mask dds t) := by
  obtain ⟨_, pa, wa⟩ := ha
  refine ⟨_, pe_makeW (W := W) M F hr hg hm hb hd tk pa hdb he hpl, fun F hF => ⟨fun pd G ρ σ H Q q x' rl t k w => (wa F hF).ok pd G ρ σ H _ _ _ rl t (fun rs ρ1 vs G1 H1 l1 rl1 h1 q1 => ?_) w⟩⟩
  intro y dx hy hdx hne
  obtain ⟨G2, ρ2, as, l2, rl2, hs, t2⟩ := fixM_ok rl1 h1 q1
  obtain ⟨ags, is, ps, a, b, t3⟩ := agsOf_ok rl2 hs t2
  have hyx : upd H1 dx (.own y) y = none := by rw [upd_ne (Ne.symm hne)]; exact hy
  have sm : Same H1 (upd (upd H1 dx (.own y)) y (.ins C dx [])) := fun b o q => by
    rw [upd_ne (ne_of_none q hy), upd_ne (ne_of_none q hdx)]
    exact q
  have gr : Grow G2 H1 G2 (upd (upd H1 dx (.own y)) y (.ins C dx [])) := ⟨Le.refl _, sm, fun a o e n => by rw [n] at e; cases e⟩
  have yps : y ∉ ps := fun z => by
    obtain ⟨i, s, _, e1, e2, m⟩ := b.at z
    obtain ⟨p', d', e3, _, ob, _⟩ := rl2.mutOb e2 m
    rw [e1] at e3
    cases e3
    obtain ⟨o, e4⟩ := ob.some
    rw [hy] at e4; cases e4
  have up : ∀ {vs as ps}, AgAll X.tx G2 H1 vs as ps → AgAll X.tx G2 (upd (upd H1 dx (.own y)) y (.ins C dx [])) vs as ps := fun {vs as ps} h => by
    induction h with
    | nil => exact .nil
    | dat h _ ih => exact .dat h ih
    | ref g ob n _ ih =>
      obtain ⟨o, e⟩ := ob.some
      exact .ref g (ob.mono (Le.refl _) ((sm _ _ e).trans e.symm)) n ih
  refine ⟨G2, _, y :: ps, _, _, (rl2.grow gr).sub, .ref (rl2.sub.none hy) (ob_obj (ns := []) (xs := []) hm rfl .nil) yps (AgAll.app (hdd G2) (up a)), t3, fun r ds v G' H' cp ro qr => ?_, fun e ds cls dd G' H' cp xo xr => ?_⟩
  · have cp2 : CallPost X.tx G2 H1 G' H' ps ds.tail := by
      obtain ⟨c1, c2, c3, c4⟩ := cp
      refine ⟨c1, fun a o e n => ?_, fun a o e n => ?_, by cases c4 with | cons _ t => exact t⟩
      · obtain ⟨z1, z2⟩ := c2 a o e n
        refine ⟨?_, z2⟩
        cases w : H1 a with
        | none => rfl
        | some u => rw [sm a u w] at z1; cases z1
      · exact c3 a o (sm a o e) (fun z => by
          rcases List.mem_cons.mp z with z | z
          · rw [z, hy] at e; cases e
          · exact n z)
    have rl3 := rl2.call b cp2
    cases ds with
    | nil =>
      cases r with
      | dat d => cases d <;> exact qr.elim
      | _ => exact qr.elim
    | cons d ds =>
      cases r with
      | dat d0 =>
        cases d0 with
        | non =>
          cases ro
          obtain ⟨_, _, _, c4⟩ := cp
          cases c4 with
          | cons h _ => exact ⟨rfl, k (.new d) _ _ G' H' ((l1.trans l2).trans cp2.le) ⟨y, rfl, rl3.pushC rl2 b cp2 hy h.1 h.2⟩ qr⟩
        | _ => exact qr.elim
      | _ => exact qr.elim
  · have cp2 : CallPost X.tx G2 H1 G' H' ps ds.tail := by
      obtain ⟨c1, c2, c3, c4⟩ := cp
      refine ⟨c1, fun a o e n => ?_, fun a o e n => ?_, by cases c4 with | cons _ t => exact t⟩
      · obtain ⟨z1, z2⟩ := c2 a o e n
        refine ⟨?_, z2⟩
        cases w : H1 a with
        | none => rfl
        | some u => rw [sm a u w] at z1; cases z1
      · exact c3 a o (sm a o e) (fun z => by
          rcases List.mem_cons.mp z with z | z
          · rw [z, hy] at e; cases e
          · exact n z)
    exact w e _ G' H' cls dd ((l1.trans l2).trans cp2.le) (rl2.call b cp2).nil xo xr
/-! ## fields -/
def fFld (c f : Str) : D → (R → Prop) → Prop := fun d q => match d with
  | .obj c' ns ds => c' = c ∧ ∃ x, (ns.zip ds).lookup f = some x ∧ q (.dat x)
  | _ => False
theorem look_dat {T : Tx} {G : Hp} {f : Str} {x : D} : ∀ {ns : List Str} {xs : List V} {ds : List D}, DatAll T G xs ds → (ns.zip ds).lookup f = some x → ∃ v, (ns.zip xs).lookup f = some v ∧ Dat T G v x
  | [], _, _, _, e => by simp at e
  | n :: ns, _, _, .nil, e => by simp at e
  | n :: ns, _, _, .cons h t, e => by
    rw [List.zip_cons_cons, List.lookup_cons] at e ⊢
    cases w : (f == n) with
    | true => rw [w] at e; cases e; exact ⟨_, rfl, h⟩
    | false => rw [w] at e; exact look_dat t e
theorem ve_fld {f : Str} (hC : X.mg c = some (.ref C)) (cl : Cls X.K C) (nf : NoAttr X.K C f) (ho : VE X W ex o to) (hb : attributeBase o f X.env (eval o X.env) = eval o X.env := by rfl) : VE X W ex (.Attribute o f pos) (yU (fFld c f) to) :=
  ve_u (r := fun x H Q => ∃ a C dx fs v, x = .ref a ∧ H a = some (.ins C dx fs) ∧ Cls X.K C ∧ NoAttr X.K C f ∧ fs.lookup f = some v ∧ Q v H) (fun te h => pe_fld h hb) ⟨fun G H v d Q q s h1 g k => by
    cases d with
    | obj c' ns ds =>
      obtain ⟨a, C', dx, xs, rfl, e1, e2, e3, e4⟩ := h1
      obtain ⟨ec, x, e5, g⟩ := g
      subst ec
      have e1 : X.mg c' = some (.ref C') := e1
      rw [hC] at e1
      cases e1
      obtain ⟨w, e6, dt⟩ := look_dat e4 e5
      exact ⟨a, C, dx, _, w, rfl, e2, cl, nf, e6, ret_s k dt g⟩
    | _ => exact g.elim⟩ ho
def fputN (f : Str) : List Str → List Str
  | [] => [f]
  | n :: ns => if n = f then n :: ns else n :: fputN f ns
def fputV {α : Type} (f : Str) (y : α) : List Str → List α → List α
  | [], _ => [y]
  | n :: ns, x :: xs => if n = f then y :: xs else x :: fputV f y ns xs
  | _ :: _, [] => []
theorem putF_zip {f : Str} {y : V} : ∀ {ns : List Str} {xs : List V}, xs.length = ns.length → putF f y (ns.zip xs) = (fputN f ns).zip (fputV f y ns xs)
  | [], xs, h => by
    cases xs with
    | nil => rfl
    | cons _ _ => cases h
  | n :: ns, [], h => by cases h
  | n :: ns, x :: xs, h => by
    have ih := putF_zip (f := f) (y := y) (ns := ns) (xs := xs) (by simpa using h)
    rw [List.zip_cons_cons]
    unfold putF fputN fputV
    by_cases e : n = f
    · rw [if_pos e, if_pos e, if_pos e, List.zip_cons_cons]
    · rw [if_neg e, if_neg e, if_neg e, List.zip_cons_cons, ih]
theorem fput_len {α : Type} {f : Str} {y : α} : ∀ {ns : List Str} {xs : List α}, xs.length = ns.length → (fputV f y ns xs).length = (fputN f ns).length
  | [], xs, h => by
    cases xs with
    | nil => rfl
    | cons _ _ => cases h
  | n :: ns, [], h => by cases h
  | n :: ns, x :: xs, h => by
    have ih := fput_len (f := f) (y := y) (ns := ns) (xs := xs) (by simpa using h)
    unfold fputN fputV
    by_cases e : n = f
    · rw [if_pos e, if_pos e]
      simpa using h
    · rw [if_neg e, if_neg e, List.length_cons, List.length_cons, ih]
theorem fput_dat {T : Tx} {G : Hp} {f : Str} {y : V} {d : D} (hy : Dat T G y d) : ∀ {ns : List Str} {xs : List V} {ds : List D}, DatAll T G xs ds → DatAll T G (fputV f y ns xs) (fputV f d ns ds)
  | [], _, _, _ => .cons hy .nil
  | n :: ns, _, _, .nil => .nil
  | n :: ns, _, _, .cons h t => by
    unfold fputV
    by_cases e : n = f
    · rw [if_pos e, if_pos e]; exact .cons hy t
    · rw [if_neg e, if_neg e]; exact .cons h (fput_dat hy t)
/-- o.f = e, o a name -/
def zFld (c f : Str) (to te : TPe) : TPs := fun d ρ => te ρ (fun r ρ1 => fix ρ1 r fun x ρ2 => to ρ2 (fun ro ρ3 => mutAt ρ3 ro fun i s w => match w with
  | .obj c' ns ds => c' = c ∧ ns.length < 1000 ∧ d.nx (ρ3.set i (s.put (.obj c' (fputN f ns) (fputV f x ns ds))))
  | _ => False) d.xc) d.xc
theorem vs_fld {f : Str} {pos' : Pos} {value : Expr} (hC : X.mg c = some (.ref C)) (cl : Cls X.K C) (nf : NoAttr X.K C f) (ho : VE X W ex o to) (hv : VE X W ex value te) (hs : swapsWith value (some (.Attribute o f pos')) pos.line X.env = pure false := by rfl) :
    VS X W ex (.Assign [.Attribute o f pos'] value pos) (zFld c f to te) := by
  obtain ⟨_, po, wo⟩ := ho
  obtain ⟨_, pv, wv⟩ := hv
  refine ⟨_, ps_fld po pv hs, fun F hF => ⟨fun G ρ σ H D d rl t k => (wv F hF).ok [] G ρ σ H _ _ _ rl t (fun r ρ1 v G1 H1 l1 p1 q1 => ?_) (k.xc σ)⟩⟩
  obtain ⟨G2, ρ2, x, l2, rl2, dt, q2⟩ := p1.fix q1
  refine (wo F hF).ok [] G2 ρ2 σ H1 _ _ _ rl2 q2 (fun ro ρ3 u G3 H3 l3 p3 q3 => ?_) (((k.xc σ).mono l1).mono l2)
  have he := mutAt_loc q3
  obtain ⟨G4, l4, rl4, h4⟩ := p3.hold
  rw [he] at h4
  obtain ⟨i, s, w, p, rfl, rfl, e1, e2, e3, e4, ob, q4⟩ := mutAt_ok rl4 h4 q3
  cases w with
  | obj c' ns ds =>
    obtain ⟨ec, hl, q4⟩ := q4
    subst ec
    obtain ⟨C', dx, xs, f1, f2, f3, f4⟩ := ob
    have f1 : X.mg c' = some (.ref C') := f1
    rw [hC] at f1
    cases f1
    refine ⟨p, C, dx, _, rfl, f2, cl, nf, ?_, ?_⟩
    · rw [List.length_zip, f3, Nat.min_self]; exact hl
    · rw [putF_zip f3]
      exact k.nx _ σ G4 _ (((l1.trans l2).trans l3).trans l4) (rl4.mutS e1 e2 e3 (ob_obj hC (fput_len f3) (fput_dat (dt.mono (l3.trans l4)) f4))) q4
  | _ => exact q4.elim
end
end PV
namespace PV
open PySem PySem.Spec PyProof.Rows L2
/-! ## a def -/
def entrySl : Ag → Sl
  | .dat d => .frz d
  | .ref d => .ref d
def entry (n : Nat) (as : List Ag) : Rho := as.map entrySl ++ List.replicate (n - as.length) .any
def refsOf : Nat → List Ag → List Addr → List (Nat × Addr)
  | n, .dat _ :: as, ps => refsOf (n + 1) as ps
  | n, .ref _ :: as, p :: ps => (n, p) :: refsOf (n + 1) as ps
  | _, _, _ => []
def refPos : Nat → List Ag → List Nat
  | n, .dat _ :: as => refPos (n + 1) as
  | n, .ref _ :: as => n :: refPos (n + 1) as
  | _, [] => []
/-- what the parameters by reference hold -/
def refsAt (ρ : Rho) : List Nat → (List D → Prop) → Prop
  | [], k => k []
  | i :: is, k => match ρ[i]? with
    | some (.ref d) => refsAt ρ is fun ds => k (d :: ds)
    | _ => False
def notLoc : R → Prop
  | .loc _ => False
  | _ => True
def endsOf (is : List Nat) (q : R → List D → Prop) (x : Exn → List D → Prop) : PEnds where
  nx := fun ρ => refsAt ρ is fun ds => q (.dat .non) ds
  rt := fun r ρ => notLoc r ∧ refsAt ρ is fun ds => q r ds
  xc := fun e ρ => refsAt ρ is fun ds => x e ds
section
variable {T : Tx} {G H : Hp}
theorem AgAll.get : ∀ {vs : List V} {as : List Ag} {ps : List Addr} {n i : Nat} {a : Ag}, AgAll T G H vs as ps → as[i]? = some a → match a with
    | .dat d => ∃ v, vs[i]? = some v ∧ Dat T G v d
    | .ref d => ∃ p, vs[i]? = some (.ref p) ∧ (n + i, p) ∈ refsOf n as ps ∧ G p = none ∧ Ob T G H p d
  | _, _, _, _, _, _, .nil, e => by simp at e
  | _, _, _, n, 0, a, .dat h t, e => by
    simp at e
    subst e
    exact ⟨_, rfl, h⟩
  | _, _, _, n, 0, a, .ref g ob np t, e => by
    simp at e
    subst e
    exact ⟨_, rfl, by simp [refsOf], g, ob⟩
  | _, _, _, n, i + 1, a, .dat h t, e => by
    have ih := AgAll.get (n := n + 1) (i := i) (a := a) t (by simpa using e)
    cases a with
    | dat d => obtain ⟨v, e1, e2⟩ := ih; exact ⟨v, by simpa using e1, e2⟩
    | ref d =>
      obtain ⟨p, e1, m, r⟩ := ih
      exact ⟨p, by simpa using e1, by simp only [refsOf]; rw [show n + (i + 1) = n + 1 + i by omega]; exact m, r⟩
  | _, _, _, n, i + 1, a, .ref g ob np t, e => by
    have ih := AgAll.get (n := n + 1) (i := i) (a := a) t (by simpa using e)
    cases a with
    | dat d => obtain ⟨v, e1, e2⟩ := ih; exact ⟨v, by simpa using e1, e2⟩
    | ref d =>
      obtain ⟨p, e1, m, r⟩ := ih
      exact ⟨p, by simpa using e1, by simp only [refsOf]; rw [show n + (i + 1) = n + 1 + i by omega]; exact List.mem_cons_of_mem _ m, r⟩
theorem AgAll.refs : ∀ {vs : List V} {as : List Ag} {ps : List Addr} {n : Nat}, AgAll T G H vs as ps → (refsOf n as ps).map (·.2) = ps ∧ (refsOf n as ps).map (·.1) = refPos n as ∧ ps.Nodup ∧
    ∀ q ∈ refsOf n as ps, ∃ i d, q.1 = n + i ∧ as[i]? = some (.ref d) ∧ vs[i]? = some (.ref q.2)
  | _, _, _, n, .nil => ⟨rfl, rfl, List.nodup_nil, fun q hq => by simp [refsOf] at hq⟩
  | _, _, _, n, .dat h t => by
    obtain ⟨a, b, c, d⟩ := AgAll.refs (n := n + 1) t
    refine ⟨by simpa only [refsOf] using a, by simpa only [refsOf, refPos] using b, c, fun q hq => ?_⟩
    obtain ⟨i, dd, e1, e2, e3⟩ := d q (by simpa only [refsOf] using hq)
    exact ⟨i + 1, dd, by omega, by simpa using e2, by simpa using e3⟩
  | _, _, _, n, .ref (p := p) (d := dd0) g ob np t => by
    obtain ⟨a, b, c, d⟩ := AgAll.refs (n := n + 1) t
    refine ⟨by simp only [refsOf, List.map_cons, a], by simp only [refsOf, refPos, List.map_cons, b], List.nodup_cons.mpr ⟨np, c⟩, fun q hq => ?_⟩
    simp only [refsOf] at hq
    rcases List.mem_cons.mp hq with rfl | hq
    · exact ⟨0, dd0, rfl, rfl, rfl⟩
    · obtain ⟨i, dd, e1, e2, e3⟩ := d q hq
      exact ⟨i + 1, dd, by omega, by simpa using e2, by simpa using e3⟩
theorem inj_of_map' {α β : Type} {f : α → β} {l : List α} (h : (l.map f).Nodup) {x y : α} (hx : x ∈ l) (hy : y ∈ l) (e : f x = f y) : x = y := by
  induction l with
  | nil => cases hx
  | cons a l ih =>
    obtain ⟨h1, h2⟩ := List.nodup_cons.mp h
    rcases List.mem_cons.mp hx with rfl | hx
    · rcases List.mem_cons.mp hy with rfl | hy
      · rfl
      · exact absurd (List.mem_map.mpr ⟨y, hy, e.symm⟩) h1
    · rcases List.mem_cons.mp hy with z | hy
      · exact absurd (List.mem_map.mpr ⟨x, hx, by rw [e, z]⟩) h1
      · exact ih h2 hx hy
theorem entry_get {n i : Nat} {as : List Ag} {s : Sl} (h : (entry n as)[i]? = some s) : (∃ a, as[i]? = some a ∧ s = entrySl a) ∨ s = .any := by
  unfold entry at h
  by_cases hi : i < as.length
  · rw [List.getElem?_append_left (by simpa using hi), List.getElem?_map] at h
    cases e : as[i]? with
    | none => rw [e] at h; cases h
    | some a => rw [e] at h; cases h; exact .inl ⟨a, rfl, rfl⟩
  · rw [List.getElem?_append_right (by simpa using hi)] at h
    rw [List.getElem?_replicate] at h
    split at h
    · cases h; exact .inr rfl
    · cases h
theorem start_get {N : List Str} {vs : List V} {i : Nat} {v : V} (h : vs[i]? = some v) : (L2.start N vs)[i]? = some (some v) := by
  unfold L2.start
  have hi := (List.getElem?_eq_some_iff.mp h).1
  rw [List.getElem?_append_left (by simpa using hi), List.getElem?_map, h]
  rfl
/-- at a def's entry -/
theorem rel_start {N : List Str} {vs : List V} {as : List Ag} {ps : List Addr} (sub : Sub G H) (ag : AgAll T G H vs as ps) (hl : vs.length ≤ N.length) : Rel T ⟨H, G, refsOf 0 as ps, none, []⟩ [] G (entry N.length as) (L2.start N vs) H := by
  obtain ⟨r1, r2, r3, r4⟩ := AgAll.refs (n := 0) ag
  have al := ag.length
  refine ⟨?_, sub, Le.refl _, fun a o n e => (by have n : G a = none := n; rw [n] at e; cases e), fun a o e _ => .inl e, fun i s h => ?_, fun i j s t p h1 h2 m1 m2 e1 e2 => ?_, fun q hq => (nomatch hq), List.nodup_nil, fun i s h m q hq => (nomatch hq), fun q hq => (nomatch hq), fun q hq => ?_⟩
  · unfold entry L2.start
    simp [al]
  · rcases entry_get h with ⟨a, e, rfl⟩ | rfl
    · have g := ag.get (n := 0) e
      cases a with
      | dat d => obtain ⟨v, e1, e2⟩ := g; exact ⟨v, start_get e1, e2⟩
      | ref d => obtain ⟨p, e1, m, g, ob⟩ := g; exact ⟨p, start_get e1, by simpa using m, g, ob⟩
    · trivial
  · rcases entry_get h1 with ⟨a, ea, rfl⟩ | rfl
    · rcases entry_get h2 with ⟨b, eb, rfl⟩ | rfl
      · cases a with
        | dat _ => cases m1
        | ref d =>
          cases b with
          | dat _ => cases m2
          | ref d' =>
            obtain ⟨p1, f1, k1, _⟩ := ag.get (n := 0) ea
            obtain ⟨p2, f2, k2, _⟩ := ag.get (n := 0) eb
            rw [start_get f1] at e1
            rw [start_get f2] at e2
            cases e1
            cases e2
            have nd : ((refsOf 0 as ps).map (·.2)).Nodup := by rw [r1]; exact r3
            have := inj_of_map' nd k1 k2 rfl
            simpa using congrArg Prod.fst this
      · cases m2
    · cases m1
  · obtain ⟨i, d, e1, e2, e3⟩ := r4 q hq
    have e1 : q.1 = i := by omega
    rw [e1]
    refine ⟨start_get e3, d, ?_⟩
    unfold entry
    have hi := (List.getElem?_eq_some_iff.mp e2).1
    rw [List.getElem?_append_left (by simpa using hi), List.getElem?_map, e2]
    rfl
theorem refsAt_ok {F : Fm} {ρ : Rho} {σ : L2.St} (rl : Rel T F [] G ρ σ H) : ∀ {rf : List (Nat × Addr)} {k : List D → Prop}, (∀ q ∈ rf, q ∈ F.refs) → refsAt ρ (rf.map (·.1)) k → ∃ ds, Paired (fun p d => G p = none ∧ Ob T G H p d) (rf.map (·.2)) ds ∧ k ds
  | [], k, _, q => ⟨[], .nil, q⟩
  | (i, p) :: rf, k, hm, q => by
    obtain ⟨e1, d, e2⟩ := rl.rfs (i, p) (hm _ List.mem_cons_self)
    have q : (match ρ[i]? with | some (.ref d) => refsAt ρ (rf.map (·.1)) fun ds => k (d :: ds) | _ => False) := q
    have e2 : ρ[i]? = some (.ref d) := e2
    rw [e2] at q
    obtain ⟨p', e3, m, g, ob⟩ := rl.slot _ _ e2
    have e1 : σ[i]? = some (some (.ref p)) := e1
    rw [e1] at e3
    cases e3
    obtain ⟨ds, h, kd⟩ := refsAt_ok rl (rf := rf) (fun q hq => hm q (List.mem_cons_of_mem _ hq)) q
    exact ⟨d :: ds, .cons ⟨g, ob⟩ h, kd⟩
/-- what a caller is told -/
theorem post_of {ρ : Rho} {σ : L2.St} {as : List Ag} {ps : List Addr} {H0 G0 : Hp} {k : List D → Prop} (rl : Rel T ⟨H0, G0, refsOf 0 as ps, none, []⟩ [] G ρ σ H) (r1 : (refsOf 0 as ps).map (·.2) = ps) (r2 : (refsOf 0 as ps).map (·.1) = refPos 0 as)
    (q : refsAt ρ (refPos 0 as) k) : ∃ ds, CallPost T G0 H0 G H ps ds ∧ k ds := by
  rw [← r2] at q
  obtain ⟨ds, h, kd⟩ := refsAt_ok rl (fun q hq => hq) q
  rw [r1] at h
  refine ⟨ds, ⟨rl.old, fun a o e n => ⟨rl.new a o n e, rl.sub a o e⟩, fun a o e m => ?_, h⟩, kd⟩
  exact rl.keep a o e (by show a ∉ (refsOf 0 as ps).map (·.2); rw [r1]; exact m)
end
section
variable {P : Program} {w : World} {K : PySem.W.Frag} {mg : Str → Option Value} {base : Heap} {x qual : Str} {params : Arguments} {body : List Stmt} {scope : Scope} {dvs : List V} {kws : List (Str × V)} {f : Addr} {fd : FuncData}
/-- THE RULE for a def: its body over data, and what it does of data alone -/
theorem def_ok {N ps : List Str} {k : Nat} {sp : PSp} {t : TPs} (F : FunD K x qual params body scope dvs kws f fd) (S : FnScope N ps scope) (hl : ps.length ≤ N.length) (len : ∀ as q e, sp as q e → as.length = ps.length)
    (hbody : ∀ (cdv : Value) (A : Around) (outer : List Env) (s : Shared) (H : Hp) (E : XK), Room k (A.deeper (envOfC qual scope s.heap.objs.size f cdv)) →
      VSs (cxOf (L2.CX P w) P w K mg base N qual scope f cdv A outer s H E) (fun cls d _ H' => E cls d H') none body t)
    (pure : ∀ as q e, sp as q e → t (endsOf (refPos 0 as) q e) (entry N.length as)) : FnOk P w K mg base (L2.CX P w) (k + 1) f fd ps (spOf ⟨mg, K, w⟩ sp) := by
  refine F.ok S (fun vs H Q E ⟨G, as, qs, q, e, _, ag, h, _⟩ => ag.length.trans (len _ _ _ h)) (fun cdv A outer s H vs Q E hr ⟨G, as, qs, q, e, sub, ag, h, hQ, hE⟩ => ?_)
  obtain ⟨ts, pss, wt⟩ := hbody cdv A outer s H E hr
  have hv : vs.length ≤ N.length := by rw [ag.length, len _ _ _ h]; exact hl
  obtain ⟨r1, r2, r3, r4⟩ := AgAll.refs (n := 0) ag
  refine ⟨ts, pss, (wt ⟨H, G, refsOf 0 as qs, none, []⟩ rfl).ok G (entry N.length as) (L2.start N vs) H _ _ (rel_start sub ag hv) (pure as q e h) ?_⟩
  refine ⟨fun ρ σ G' H' l rl z => ?_, fun ρ σ G' H' l rl z => z.elim, fun ρ σ G' H' l rl z => z.elim, fun r ρ σ v G' H' l p z => ?_, fun σ e' ρ G' H' cls dd l rl xo z => ?_⟩
  · obtain ⟨ds, cp, z⟩ := post_of rl r1 r2 z
    exact hQ (.dat .non) ds .non G' H' cp .non z
  · obtain ⟨nl, z⟩ := z
    obtain ⟨ds, cp, z⟩ := post_of p.rel r1 r2 z
    refine hQ r ds v G' H' cp ?_ z
    cases r with
    | dat d => exact p.2
    | new d =>
      obtain ⟨a, rfl, rl⟩ := p
      obtain ⟨g, h0, ob⟩ := rl.pds _ List.mem_cons_self
      exact ⟨a, rfl, h0, g, ob⟩
    | loc i => exact nl.elim
    | fre c d => exact ⟨p.2.1, p.2.2.frN p.1⟩
  · obtain ⟨ds, cp, z⟩ := post_of rl r1 r2 z
    exact hE e' ds cls dd G' H' cp xo z
end
end PV
namespace PV
open PySem PySem.Spec PyProof.Rows L2 PySem.EsX
/-! ## raise -/
def zRaise (c : Str) (ta : TPa) : TPs := fun d ρ => ta ρ (fun rs ρ1 => fixs ρ1 rs fun ds ρ2 => match ds with
  | [x] => d.xc ⟨c, x⟩ ρ2
  | _ => False) d.xc
section
variable {X : Cx} {W : WX} {ex : Ex} {a : Expr} {ta : TPa} {p pos pos2 : Pos} {c : Str} {C : Addr} {k : Nat}
theorem vs_raise (hc : X.calm = true) (T : ExTxt X.prog X.K c (fld c) C) (gC : X.mg c = some (.ref C)) (hr : Room k X.A) (tk : Takes X W) (ha : VA X W ex [a] ta) (hg : Gl X c := by rfl) (hdb : (c == ("__debug__" : Str)) = false := by decide) (hst : starEach [a] X.env = (false, eval a X.env) :: starEach [] X.env := by rfl) :
    VS X W ex (.Raise (some (.Call (.Name c p) [a] [] pos)) none pos2) (zRaise c ta) := by
  obtain ⟨_, pa, wa⟩ := ha
  refine ⟨_, ps_raiseX hc T gC hr tk pa hg hdb hst, fun F hF => ⟨fun G ρ σ H D d rl t k => (wa F hF).ok [] G ρ σ H _ _ _ rl t (fun rs ρ1 vs G1 H1 l1 rl1 h q => ?_) (k.xc σ)⟩⟩
  obtain ⟨G2, ρ2, ds, l2, rl2, dts, q⟩ := RAll.fixs rl1 h q
  cases dts with
  | nil => exact q.elim
  | cons dt t =>
    cases t with
    | nil =>
      refine ⟨_, rfl, fun dd hd => ?_⟩
      exact k.xc σ ⟨c, _⟩ ρ2 G2 _ _ _ (l1.trans l2) (rl2.grow (Grow.laid hd)) ⟨C, dd, _, gC, rfl, rfl, upd_same, dt⟩ q
    | cons _ _ => exact q.elim
end
/-! ## try -/
/-- the widest reading of a block that t serves -/
def canS (T : Tx) (W : WX) (ex : Ex) (t : TPs) : TS := fun D σ H => ∃ (F : Fm) (G : Hp) (ρ : Rho) (d : PEnds), F.ex = ex ∧ Rel T F [] G ρ σ H ∧ t d ρ ∧
  (∀ ρ σ G' H, Le G G' → Rel T F [] G' ρ σ H → d.nx ρ → D.nx σ H) ∧ (∀ ρ σ G' H, Le G G' → Rel T F [] G' ρ σ H → d.bk ρ → D.bk σ H) ∧ (∀ ρ σ G' H, Le G G' → Rel T F [] G' ρ σ H → d.ct ρ → D.ct σ H) ∧
  (∀ r ρ σ v G' H, Le G G' → VPost T F [] G' σ H v ρ r → d.rt r ρ → D.rt v H) ∧
  (∀ σ e ρ' G' H' cls dd, Le G G' → Rel T F [] G' ρ' σ H' → XOk T G' H' e cls dd → d.xc e ρ' → W cls dd σ H')
theorem VSs.can {X : Cx} {W : WX} {ex : Ex} {st : List Stmt} {t : TPs} (h : VSs X W ex st t) : PSs X st (canS X.tx W ex t) := by
  obtain ⟨ts, ps, w⟩ := h
  exact ⟨fun pins s σ H D I ⟨F, G, ρ, d, hF, rl, t, k1, k2, k3, k4, k5⟩ => ps.run pins s σ H D I ((w F hF).ok G ρ σ H D d rl t ⟨k1, k2, k3, k4, k5⟩)⟩
def noExc (ρ : Rho) : Bool := ρ.all fun s => match s with
  | .exc _ _ => false
  | _ => true
/-- which handlers take which errors -/
def catches (c e : Str) : Bool := c == "SlotError" || c == e
/-- the ends of a suite that a name is bound in: the name goes -/
def goneEnds (i : Nat) (d : PEnds) : PEnds :=
  ⟨fun ρ2 => isRef ρ2 i = false ∧ d.nx (ρ2.set i .any), fun r ρ2 => isRef ρ2 i = false ∧ notLoc r ∧ d.rt r (ρ2.set i .any), fun _ _ => False, fun ρ2 => isRef ρ2 i = false ∧ d.bk (ρ2.set i .any), fun ρ2 => isRef ρ2 i = false ∧ d.ct (ρ2.set i .any)⟩
def coldEnds (d : PEnds) : PEnds := ⟨d.nx, d.rt, fun _ _ => False, d.bk, d.ct⟩
theorem Rel.ex {T : Tx} {F : Fm} {pd : List (Addr × D)} {G H : Hp} {ρ : Rho} {σ : L2.St} (e : Option (Nat × Addr × Addr)) (no : ∀ (j : Nat) f d, ρ[j]? ≠ some (.exc f d)) (rl : Rel T F pd G ρ σ H) : Rel T { F with ex := e } pd G ρ σ H :=
  ⟨rl.len, rl.sub, rl.old, rl.new, rl.keep, fun i s h => by
    have k := rl.slot i s h
    cases s with
    | any => trivial
    | frz d => exact k
    | par d => exact k
    | fre c d => exact k
    | own d => exact k
    | ref d => exact k
    | exc f d => exact absurd h (no i f d), rl.apart, rl.pds, rl.pnd, rl.pap, rl.lck, rl.rfs⟩
theorem noExc_of {ρ : Rho} (h : noExc ρ = true) (j : Nat) (f : Str) (d : D) : ρ[j]? ≠ some (.exc f d) := fun e => by
  have z := List.all_eq_true.mp h _ (List.mem_of_getElem? e)
  cases z
/-! ## x op= e, by name -/
def zAug (i : Nat) (f : D → D → (R → Prop) → Prop) (te : TPe) : TPs := fun d ρ => cont ρ (.loc i) (fun _ => True) ∧ te ρ (fun r ρ1 => cont ρ1 (.loc i) fun x => cont ρ1 r fun y => f x y fun res => asgn i res ρ1 d.nx) d.xc
section
variable {X : Cx} {W : WX} {ex : Ex} {e : Expr} {te : TPe} {pos : Pos}
theorem vs_aug {op : Operator} {r : V → V → Hp → VK → Prop} {f : D → D → (R → Prop) → Prop} {x : Str} {i : Nat} {pos' : Pos} (ho : OpR X (inplaceOp op) r) (ok : BOk X r f) (hN : X.N.Nodup) (hi : X.N[i]? = some x) (hx : Loc X.env.scope x) (he : VE X W ex e te) (hf : X.fn x = true ∨ X.env.scope.names.lookup x = some .local := by first | exact .inl rfl | exact .inr rfl | assumption) :
    VS X W ex (.AugAssign (.Name x pos') op e pos) (zAug i f te) := by
  obtain ⟨_, pe, we⟩ := he
  refine ⟨_, ps_aug (ti := r) hN hi hx pe ho hf, fun F hF => ⟨fun G ρ σ H D d rl t k => ?_⟩⟩
  obtain ⟨h0, t⟩ := t
  have hv : ∃ v, σ[i]? = some (some v) := by
    unfold cont at h0
    simp only [] at h0
    cases e1 : ρ[i]? with
    | none => simp only [e1] at h0
    | some s =>
      simp only [e1] at h0
      have kk := rl.slot _ _ e1
      cases s with
      | frz d => obtain ⟨v, z, _⟩ := kk; exact ⟨v, z⟩
      | own d => obtain ⟨v, z, _⟩ := kk; exact ⟨_, z⟩
      | ref d => obtain ⟨v, z, _⟩ := kk; exact ⟨_, z⟩
      | any => exact h0.elim
      | exc _ _ => exact h0.elim
      | par _ => exact h0.elim
      | fre _ _ => exact h0.elim
  obtain ⟨v, hv⟩ := hv
  refine ⟨v, hv, (we F hF).ok [] G ρ σ H _ _ _ rl t (fun r1 ρ1 u G1 H1 l1 p1 q1 => ?_) (k.xc σ)⟩
  obtain ⟨d1, tp1, q1⟩ := RHold.cont p1.rel (show RHold X.tx G1 σ v (.loc i) from hv) q1
  obtain ⟨d2, rl1, tp2, q2⟩ := p1.cont q1
  refine ok.ok G1 H1 v u d1 d2 _ _ rl1.sub tp1 tp2 q2 fun res y G2 H2 g rk qr => ?_
  obtain ⟨G3, ρ3, l3, rl3, q3⟩ := (ROk.post rl1 g rk).asgn qr
  exact k.nx ρ3 _ G3 H2 ((l1.trans g.le).trans l3) rl3 q3
end
end PV
namespace PV
open PySem PySem.Spec PyProof.Rows L2
/-! ## stores: xs[i] = e, d[k] = e -/
/-- the object of the place that o names becomes another one -/
def setAt (o : R) (ρ : Rho) (f : D → (D → Prop) → Prop) (k : Rho → Prop) : Prop := mutAt ρ o fun i s w => f w fun w' => k (ρ.set i (s.put w'))
def uSetL (di x : D) : D → (D → Prop) → Prop := fun w q => match w, di with
  | .lst xs, .int i => ∃ j, ixN xs.length i = some j ∧ q (.lst (xs.set j x))
  | _, _ => False
def uSetD (di x : D) : D → (D → Prop) → Prop := fun w q => match w with
  | .dic ks ds => ∃ k, keyOf? di = some k ∧ ks.length < sizeLine ∧ q (.dic (dput ks ds k x).1 (dput ks ds k x).2)
  | _ => False
/-- [e], [o], [i], then the store -/
def zPut (u : D → D → D → (D → Prop) → Prop) (to ti te : TPe) : TPs := fun d ρ => te ρ (fun r ρ1 => fix ρ1 r fun x ρ2 => to ρ2 (fun ro ρ3 => ti ρ3 (fun ri ρ4 => cont ρ4 ri fun di => setAt ro ρ4 (u di x) d.nx) d.xc) d.xc) d.xc
theorem putK_zip {ks : List Key} {xs : List V} {k : Key} {v : V} (h : xs.length = ks.length) : putK (ks.zip xs) k v = if hasK ks k then ks.zip ((ks.zip xs).map fun kv => if kv.1 = k then v else kv.2) else (ks ++ [k]).zip (xs ++ [v]) := by
  have e1 : ((ks.zip xs).any fun kv => decide (kv.1 = k)) = hasK ks k := by
    rw [valV_any, valV_zip h]
  unfold putK
  rw [e1]
  split
  · rename_i hh
    clear e1 hh
    induction ks generalizing xs with
    | nil => rfl
    | cons a r ih =>
      cases xs with
      | nil => cases h
      | cons x xs =>
        rw [List.zip_cons_cons, List.map_cons, List.map_cons, List.zip_cons_cons, ih (by simpa using h)]
        congr 1
        by_cases e : a = k <;> simp [e]
  · rw [List.zip_append h.symm]
    rfl
theorem dat_map {T : Tx} {G : Hp} {v : V} {d : D} (hv : Dat T G v d) {k : Key} : ∀ {ks : List Key} {xs : List V} {ds : List D}, DatAll T G xs ds → xs.length = ks.length →
    DatAll T G ((ks.zip xs).map fun kv => if kv.1 = k then v else kv.2) ((ks.zip ds).map fun kd => if kd.1 = k then d else kd.2)
  | [], _, _, .nil, _ => .nil
  | [], _, _, .cons _ _, h => by cases h
  | a :: ks, _, _, .nil, h => by cases h
  | a :: ks, _, _, .cons hx t, h => by
    rw [List.zip_cons_cons, List.zip_cons_cons, List.map_cons, List.map_cons]
    refine .cons ?_ (dat_map hv t (by simpa using h))
    by_cases e : a = k
    · simp only [e, if_true]; exact hv
    · simp only [e, if_false]; exact hx
theorem ob_dic {T : Tx} {G H : Hp} {p : Addr} {ks : List Key} {xs : List V} {ds : List D} (hl : xs.length = ks.length) (h : DatAll T G xs ds) : Ob T G (upd H p (.dK (ks.zip xs))) p (.dic ks ds) := ⟨xs, upd_same, hl, h⟩
/-- d[k] = v over a dict that stands -/
theorem ob_dput {T : Tx} {G H : Hp} {p : Addr} {ks : List Key} {xs : List V} {ds : List D} {k : Key} {v : V} {d : D} (hl : xs.length = ks.length) (h : DatAll T G xs ds) (hv : Dat T G v d) :
    Ob T G (upd H p (.dK (putK (ks.zip xs) k v))) p (.dic (dput ks ds k d).1 (dput ks ds k d).2) := by
  rw [putK_zip hl]
  unfold dput
  cases e : hasK ks k with
  | true =>
    simp only [if_true]
    exact ob_dic (by simp [hl]) (dat_map hv h hl)
  | false =>
    simp only [Bool.false_eq_true, if_false]
    exact ob_dic (by simp [hl]) (h.append (.cons hv .nil))
end PV
/-! set(xs), xs a list of ints -/
namespace L2
open PySem PySem.Spec PyProof.Rows
section
variable {P : Program} {w : World} {A : Around} {E : Value → Shared → Prop} {s : Shared}
abbrev mtSet (w : World) : Obj := { cls := .type "set", dict := none, data := .set #[] 0 (.fresh 0 0 (!w.params.followText "set-order")) }
theorem ints_nth {items : Array Value} {ns : List Int} (hit : IntsAre items.toList ns) {i : Nat} {v : Value} (hv : items[i]? = some v) : ∃ k t, ns[i]? = some k ∧ v = .int k t := by
  have hi : i < ns.length := by
    have q := IntsAre.length hit
    rw [Array.length_toList] at q
    rw [← q]
    exact (Array.getElem?_eq_some_iff.mp hv).1
  obtain ⟨t, e⟩ := PyProof.Rows.IntsAre.int_at hit i v (by rw [Array.getElem?_toList]; exact hv)
  refine ⟨ns[i], t, List.getElem?_eq_getElem hi, ?_⟩
  rw [e, List.getD_eq_getElem?_getD, List.getElem?_eq_getElem hi] <;> rfl
theorem call_set_lstI {l : Addr} {items : Array Value} (ns : List Int) {Q : Value → Shared → Prop} (hh : A.handled = none) (hl : s.heap.IsList l items) (hit : IntsAre items.toList ns) (hb : ns.length + 1 < scanBound)
    (h : ∀ (h' : Heap) (tk c : Nat), SetR w h' s.heap.objs.size (fun j => decide (j ∈ ns)) c → c ≤ ns.length → (∀ b o, s.heap.get? b = some o → h'.get? b = some o) → Q (.ref s.heap.objs.size) { s with heap := h', toks := tk }) :
    wpAny (model P w) A (call (.type "set") [.ref l]) Q E s := by
  have hisz : items.size = ns.length := by
    have q := IntsAre.length hit
    rw [Array.length_toList] at q
    exact q
  have k0 := F.called_set.mro
  obtain ⟨c, tl, hmro⟩ := k0
  have k1 := F.called_set.made
  have k2 := F.called_set.sub
  have k3 := F.called_set.notType
  have k4 := F.called_set.canCreate
  have k5 := F.typeCall_set_1 (.ref l)
  have k6 := F.called_set.init.lookup
  have k7 := F.called_set.init.bind (.ref s.heap.objs.size)
  refine wpAny_call (codeAny_of_tree ?_)
  show wpAny _ _ (callAny (.type "set") _) _ _ _
  refine wpAny_pure ⟨Code.quiet_builtin _ (by decide +kernel), codeAny_builtin F.entry_type_call ?_⟩
  rw [Around.under_plain (weight_type_call_type "set" [.ref l] []) rfl]
  repeat (any_goals (first | assumption | wp_step))
  refine codeAny_mono (code_set_led1 (.ref l) (E := E) (Q₁ := fun obj s₁ => obj = .ref s.heap.objs.size ∧ s₁ = { s with heap := s.heap.push (mtSet w) }) ⟨rfl, rfl⟩) fun r s₁ hr => ?_
  rcases r with e | fl
  · exact hr
  cases fl with
  | ret obj =>
    obtain ⟨rfl, rfl⟩ := hr
    have hS : (s.heap.push (mtSet w)).get? s.heap.objs.size = some (mtSet w) := Heap.get?_push_size _ rfl
    have hT : Shared.TypeIs { s with heap := s.heap.push (mtSet w) } (.ref s.heap.objs.size) "set" := ⟨_, hS, rfl⟩
    repeat (any_goals (first | assumption | wp_step))
    refine codeAny_mono (codeAny_call_builtin (R := wants (fun r s₂ => r = .none ∧ ∃ h' tk c, s₂ = { s with heap := h', toks := tk } ∧ SetR w h' s.heap.objs.size (fun j => decide (j ∈ ns)) c ∧ c ≤ ns.length ∧
        (∀ b o, s.heap.get? b = some o → h'.get? b = some o)) E) F.called_set.init.plain F.entry_set_init (check_set_init_1 hT ?_)) fun r₂ s₂ hr₂ => ?_
    · obtain ⟨⟨ocls, odict, odata, oslots⟩, hol, hcl, nl, hdl⟩ := hl
      simp only at hcl hdl
      subst hcl hdl
      have hol' : (s.heap.push (mtSet w)).get? l = some { cls := .type "list", dict := odict, data := .seq items nl, slots := oslots } := Heap.get?_push_of_some _ hol
      have hl1 : (s.heap.push (mtSet w)).IsList l items := ⟨_, hol', rfl, nl, rfl⟩
      have j1 := F.sub_list_set
      have j2 := F.sub_list_frozenset
      have j3 : (Value.type "list" == Value.type "dict") = false := by decide
      unfold Builtin.«set.__init__» noKeywords Builtin.Frozenset.updateFrom
      generalize hPI : pyIter = PI
      wp_walk
      subst hPI
      refine wpAny_pyIter_list hl1 (wpAny_bind (wpAny_runValue ?_))
      have hlS : l < s.heap.objs.size := Heap.lt_size hol
      have hs1 : (s.heap.push (mtSet w)).objs.size = s.heap.objs.size + 1 := Heap.size_push ..
      have hh3 : A.in1.in1.in1.handled = none := by simp [hh]
      have hneI : l ≠ (s.heap.push (mtSet w)).objs.size := by rw [hs1]; exact Nat.ne_of_lt (Nat.lt_succ_of_lt hlS)
      have hSf : s.heap.objs.size ∉ [(s.heap.push (mtSet w)).objs.size, l] := by
        rw [hs1]
        intro m
        rcases List.mem_cons.mp m with m | m
        · exact Nat.ne_of_lt (Nat.lt_succ_self _) m
        · exact Nat.ne_of_gt hlS (List.mem_singleton.mp m)
      refine set_update_ints ((Walks.list hh3 _ l hneI items).toS) s.heap.objs.size hSf ns hisz hb (fun i v hv => ints_nth hit hv) (items.size - 0) 0 _ (by omega) (Nat.zero_le _)
        ⟨⟨_, Heap.get?_push_size _ rfl, rfl, rfl⟩, hl1.push _⟩ ⟨0, Nat.le_refl 0, setR_new_at (Heap.get?_push_of_some _ hS)⟩ fun s' c' hm hc' hS' => ?_
      obtain ⟨h', g2, d', tk', os'⟩ := s'
      have eg : g2 = s.gens := hm.gens
      have ed : d' = s.drawn := hm.drawn
      have eo : os' = s.os := hm.os
      subst eg ed eo
      show wpAny _ _ _ _ _ _
      refine wpAny_pure ?_
      show wpAny _ _ (ret Value.none) _ _ _
      rw [hisz] at hc'
      refine wpAny_pure ⟨rfl, h', tk', c', rfl, hS', hc', fun b o e => hm.heap b o (fun m => ?_) (Heap.get?_push_of_some _ (Heap.get?_push_of_some _ e))⟩
      have hb0 : b < s.heap.objs.size := Heap.lt_size e
      rcases List.mem_cons.mp m with m | m
      · exact Nat.ne_of_lt hb0 m
      · have m := List.mem_singleton.mp m
        rw [hs1] at m
        exact Nat.ne_of_lt (Nat.lt_succ_of_lt hb0) m
    · rcases r₂ with e | fl₂
      · exact hr₂
      cases fl₂ with
      | ret r =>
        obtain ⟨rfl, h', tk, c', rfl, hS', hc', hk'⟩ := hr₂
        repeat (any_goals (first | assumption | wp_step))
        exact h _ _ _ hS' hc' hk'
      | _ => exact hr₂.elim
  | _ => exact hr.elim
end
end L2
namespace L2
open PySem PySem.Spec PyProof.Rows
section
variable {X : Cx}
/-- list * int, any list that is read -/
def rRepS (K : PySem.W.Frag) : R2 := fun x y H Q => ∃ l k xs, x = .ref l ∧ y = .int k ∧ SqL K H l xs ∧ -(2 ^ 63) ≤ k ∧ k < 2 ^ 63 ∧ xs.length * k.toNat ≤ sizeLine ∧ ∀ p, H p = none → Q (.ref p) (upd H p (.lst (List.replicate k.toNat xs).flatten))
theorem op_repS : OpR X (binaryOp .Mult) (rRepS X.K) := by
  intro pins s σ H x y v u Q I rx ry h
  obtain ⟨l, k, xs, rfl, rfl, hH, h1, h2, hz, q⟩ := h
  cases rx
  obtain ⟨t, rfl⟩ := ry
  obtain ⟨its, r, ⟨⟨cls, dd, data, sl⟩, n, ho, hc, hd, hs⟩, z⟩ := I.list hH
  simp only at hc hd hs
  subst hc hd hs
  have hl := r.length
  have hlen : its.toArray.size * k.toNat ≤ sizeLine := by rw [List.size_toArray, ← hl]; exact hz
  have c1 : ¬ its.toArray.size * k.toNat > (2 ^ 63 - 1) / 8 := by
    have : (sizeLine : Nat) ≤ (2 ^ 63 - 1) / 8 := by decide
    omega
  have c2 : ¬ (!Builtin.List.listFitsIndex k) = true := by
    rw [fitsIndex_both h1 h2]
    exact Bool.false_ne_true
  have c3 : ¬ Builtin.List.listTooLong (its.toArray.size * k.toNat) = true := by
    rw [notLongL hlen]
    exact Bool.false_ne_true
  have hnew : List.foldl (fun x1 x2 => x1 ++ x2) #[] (List.replicate (if its.toArray.isEmpty = true then 0 else k.toNat) its.toArray) = (List.replicate k.toNat its).flatten.toArray := by
    have f0 : ∀ m : Nat, List.foldl (fun x1 x2 => x1 ++ x2) #[] (List.replicate m its.toArray) = (List.replicate m its).flatten.toArray := fun m => by
      have := foldl_rep its m []
      rw [List.nil_append] at this
      exact this
    rw [f0]
    cases its with
    | nil => simp
    | cons a r' => rw [if_neg (by simp)]
  refine wpAny_binaryOp_repeat_ref (T := "list") (U := "int") (by decide) ⟨_, ho, rfl⟩ (fun s' => typeIs_int s' k t) noFill_list_mul F.fills_int_mul F.slot_int_rmul repeat_list F.slot_int_index.lookup
    (call_meets F.slot_int_rmul (typeIs_int s k t) F.entry_int_rmul (F.args_int_rmul_2 _ _) (lm_int_rmul_list_any k t l its.toArray n _ sl)
      ⟨ho, rfl, ⟨_, ho, rfl⟩, call_meets F.slot_list_mul ⟨_, ho, rfl⟩ F.entry_list_mul (F.args_list_mul_2 _ _) (lm_list_mul_any l its.toArray n _ sl k t c2 c1 c3) ⟨ho, ?_⟩⟩)
  rw [hnew]
  exact ⟨.ref _, _, I.lnew (t' := s.toks) (r.rep k.toNat) (by rw [PyProof.Rows.lm_len_rep_flat, Nat.mul_comm]; exact hz), rfl, q _ I.fresh⟩
/-- o[i] of a list, where it is stored again -/
theorem get_listP : PGet X (rIxL X.K) := by
  intro pins s σ H x y v u Q I rx ry h
  obtain ⟨p, xs, i, z, rfl, rfl, hq, he, q⟩ := h
  cases rx
  obtain ⟨t, rfl⟩ := ry
  obtain ⟨its, r, pl, hz⟩ := I.list hq
  obtain ⟨j, h1, h2, h3, h4, h5⟩ := atI_get he
  obtain ⟨w, ew, rw'⟩ := r.get h2
  have hl := r.length
  have hn := line63
  have fin : EP X pins σ Q w s := ⟨z, H, I, rw', q⟩
  by_cases h0 : 0 ≤ i
  · have hj : i.toNat = j := by
      rw [seqIndex_of h0 h5] at h1
      exact Option.some.inj h1
    exact wpAny_getItem_list pl.isList h0 (by omega) (by rw [hj]; simpa using ew) fin
  · have hj : (i + (its.toArray.size : Int)).toNat = j := by
      rw [seqIndex_neg (by omega) h4] at h1
      rw [List.size_toArray, ← hl]
      exact Option.some.inj h1
    exact wpAny_getItem_list_neg pl.isList (by omega) (by rw [List.size_toArray] <;> omega) (by omega) (by rw [hj]; simpa using ew) fin
/-- t.index(x), ints, the first place -/
def rIndexT (K : PySem.W.Frag) : V → List V → Hp → VK → Prop := fun x xs H Q => ∃ (p : Addr) (ys : List Int) (z : Int) (j : Nat), x = .ref p ∧ xs = [.int z] ∧ SqT K H p (ys.map V.int) ∧ ys[j]? = some z ∧ (∀ m, m < j → ys[m]? ≠ some z) ∧ Q (.int (j : Nat)) H
theorem flat_ints (ys : List Int) : (ys.map V.int).all flatV = true := by
  rw [List.all_map]
  exact List.all_eq_true.mpr fun _ _ => rfl
theorem mt_tup_indexI : MtR X "tuple.index" (rIndexT X.K) := by
  intro pins s σ H x xs v us Q I rx rs h
  obtain ⟨p, ys, z, j, rfl, rfl, hq, hy, hno, q⟩ := h
  cases rx
  obtain ⟨u, rfl, t, rfl⟩ := vals1 rs
  obtain ⟨its, r, ⟨⟨cls, dd, dt, sl⟩, ho, hc, n, hd⟩, hz⟩ := I.tuple hq
  simp only at hc hd
  subst hc hd
  have hl : its.toArray.size = ys.length := by rw [List.size_toArray, ← r.length, List.length_map]
  have hj : j < its.toArray.size := by rw [hl]; exact (List.getElem?_eq_some_iff.mp hy).1
  have at' : ∀ (m : Nat) (hm : m < its.toArray.size), ∃ y t', ys[m]? = some y ∧ its.toArray[m] = Value.int y t' := fun m hm => by
    have hm' : m < ys.length := by rw [← hl]; exact hm
    obtain ⟨w, hw, t', hw'⟩ := r.get (i := m) (x := .int ys[m]) (by simp [hm'])
    refine ⟨ys[m], t', List.getElem?_eq_getElem hm', ?_⟩
    have e := (List.getElem?_eq_some_iff.mp hw).2
    rw [← hw', ← e]
    simp
  refine call_meets PySem.F.slot_tuple_index ⟨_, ho, rfl⟩ PySem.F.entry_tuple_index (PySem.F.args_tuple_index_2 _ _) (TI.tuple_indexAt p its.toArray n dd sl (.int z t) (eqU (.int z)) j hj ?_ ?_)
    ⟨ho, fun w hw => mem_eqAt (x := .int z) ⟨t, rfl⟩ rfl r (flat_ints ys) w (by simpa using hw), ⟨.int (j : Nat), H, I.tok _, ⟨_, rfl⟩, q⟩⟩
  · obtain ⟨y, t', h1, h2⟩ := at' j hj
    rw [hy] at h1
    cases h1
    rw [h2]
    show (z == z) = true
    exact beq_self_eq_true z
  · intro m hm hmj
    obtain ⟨y, t', h1, h2⟩ := at' m hm
    rw [h2]
    show (y == z) = false
    exact beq_eq_false_iff_ne.mpr fun e => hno m hmj (e ▸ h1)
/-! ### set(..) of ints -/
def nub : List Int → List Int
  | [] => []
  | a :: r => if a ∈ nub r then nub r else a :: nub r
theorem mem_nub {i : Int} : ∀ {l : List Int}, i ∈ nub l ↔ i ∈ l
  | [] => Iff.rfl
  | a :: r => by
    unfold nub
    have ih := mem_nub (i := i) (l := r)
    split
    · rename_i h
      rw [ih, List.mem_cons]
      exact ⟨.inr, fun z => z.elim (fun z => by rw [z]; exact mem_nub.mp h) (fun z => z)⟩
    · rw [List.mem_cons, List.mem_cons, ih]
theorem nub_nodup : ∀ (l : List Int), (nub l).Nodup
  | [] => List.nodup_nil
  | a :: r => by
    unfold nub
    split
    · exact nub_nodup r
    · rename_i h
      exact List.nodup_cons.mpr ⟨h, nub_nodup r⟩
theorem nodup_len {l m : List Int} (h1 : l.Nodup) (h2 : m.Nodup) (h : ∀ i, i ∈ l ↔ i ∈ m) : l.length = m.length := ((List.perm_ext_iff_of_nodup h1 h2).mpr h).length_eq
theorem setR_card {w : World} {h : Heap} {a : Addr} {S : Int → Bool} {n : Nat} {is : List Int} (R : SetR w h a S n) (nd : is.Nodup) (e : ∀ i, S i = decide (i ∈ is)) : n = is.length := by
  obtain ⟨o, es, ep, t, _, _, _, _, nd2, hS, _, _, hn, _⟩ := R
  have k : is.length = (es.toList.map keyOf).length := nodup_len nd nd2 fun i => by
    rw [← hS i, e i]
    exact ⟨fun h => decide_eq_true h, fun h => of_decide_eq_true h⟩
  rw [k, List.length_map, Array.length_toList, hn]
def rSetOf (K : PySem.W.Frag) (w : World) : List V → Hp → VK → Prop := fun xs H Q => ∃ (a : Addr) (ns : List Int), xs = [.ref a] ∧ (SqL K H a (ns.map V.int) ∨ SqT K H a (ns.map V.int)) ∧ ns.length + 1 < scanBound ∧
  ∀ p, H p = none → Q (.ref p) (upd H p (SetO w p (fun j => decide (j ∈ ns)) (nub ns).length))
theorem cr_setOf (hc : X.calm = true) : CallR X (.type "set") (rSetOf X.K X.w) := by
  intro pins s σ H xs us Q I r h
  obtain ⟨a, ns, rfl, hq, hb, q⟩ := h
  rw [Vals.ref1 r]
  have fin : ∀ (h' : Heap) (tk c : Nat), SetR X.w h' s.heap.objs.size (fun j => decide (j ∈ ns)) c → (∀ b o, s.heap.get? b = some o → h'.get? b = some o) → EP X pins σ Q (.ref s.heap.objs.size) { s with heap := h', toks := tk } := fun h' tk c R hk => by
    have e := setR_card R (nub_nodup ns) fun i => decide_eq_decide.mpr mem_nub.symm
    subst e
    exact ⟨.ref _, upd H s.heap.objs.size (SetO X.w s.heap.objs.size _ _), I.laid hk (Nat.le_refl _) (setO_new R), rfl, q _ (I.hok.fresh (Nat.le_refl _))⟩
  rcases hq with hq | hq
  · obtain ⟨its, rv, pl, hz⟩ := I.list hq
    exact call_set_lstI ns (I.ok.hd hc) pl.isList rv.ints hb fun h' tk c R _ hk => fin h' tk c R hk
  · obtain ⟨its, rv, pl, hz⟩ := I.tuple hq
    exact call_set_tupI ns (I.ok.hd hc) pl rv.ints hb fun h' tk c R _ hk => fin h' tk c R hk
/-! ### len of an own instance -/
def rLenOwn (C : Addr) (sp : Sp) : List V → Hp → VK → Prop := fun xs H Q => ∃ a dx fs, xs = [V.ref a] ∧ H a = some (.ins C dx fs) ∧ sp [.ref a] H (fun z H' => ∃ n : Int, z = .int n ∧ 0 ≤ n ∧ n < 2 ^ 63 ∧ Q z H') (fun _ _ _ => False)
theorem call_lenOwn {C f : Addr} {k : Nat} {fd : FuncData} {ps : List Str} {sp : Sp} (hs : PySem.W.findIn X.K (.ref C) "__len__" = some (some (.ref f))) (hf : PySem.W.isFn X.K (.ref f) = true) (F : FnOk X.prog X.w X.K X.mg X.base (L2.CX X.prog X.w) k f fd ps sp)
    (hb : Binds X.K fd ps []) (hr : Room (k + 1) X.A) : CallR X (.builtin "len") (rLenOwn C sp) := by
  intro pins s σ H xs us Q I r h
  obtain ⟨a, dx, fs, rfl, ha, q⟩ := h
  rw [Vals.ref1 r]
  obtain ⟨mA, O, _⟩ := ins_get I.hok ha
  obtain ⟨od, J, _⟩ := O.look
  obtain ⟨m, hF⟩ := I.fr
  have hl : [Value.ref a].length = ps.length := (F.len _ _ _ _ q).symm ▸ rfl
  refine PySem.W.len_K hF I.ok.mod.kin J hs hf (wpAny_call ?_)
  refine codeAny_mono (F.run X.A.in1 X.stack s H ⟨[.ref a], []⟩ [.ref a] [.ref a] _ _ hr.in1 I.env0.in1 (by simpa using hb _ [.ref a] I.kIn hl) (.cons rfl .nil) q) fun r s' hq => ?_
  cases r with
  | error e =>
    obtain ⟨_, _, _, _, _, _, _, _, _, _, _, _, z⟩ := hq
    exact z.elim
  | ok fl =>
    cases fl with
    | ret u =>
      obtain ⟨v, H', I3, rv, n, e1, h0, h1, q3⟩ := I.after hq
      subst e1
      obtain ⟨t, rfl⟩ := rv
      exact ⟨⟨h0, h1⟩, .int n, H', I3.tok _, ⟨_, rfl⟩, q3⟩
    | next => exact False.elim hq
    | brk => exact False.elim hq
    | cont => exact False.elim hq
end
end L2
namespace L2
open PySem PySem.Spec PyProof.Rows
theorem boot_isinstance' : bootBuiltins "isinstance" = some (.builtin "isinstance") := by decide +kernel
theorem boot_len' : bootBuiltins "len" = some (.builtin "len") := by decide +kernel
theorem boot_max' : bootBuiltins "max" = some (.builtin "max") := by decide +kernel
theorem boot_sorted' : bootBuiltins "sorted" = some (.builtin "sorted") := by decide +kernel
theorem boot_set' : bootBuiltins "set" = some (.type "set") := by decide +kernel
theorem boot_list' : bootBuiltins "list" = some (.type "list") := by decide +kernel
theorem boot_tuple' : bootBuiltins "tuple" = some (.type "tuple") := by decide +kernel
theorem boot_int' : bootBuiltins "int" = some (.type "int") := by decide +kernel
theorem boot_bool' : bootBuiltins "bool" = some (.type "bool") := by decide +kernel
/-! ### isinstance(x, T), sets too -/
inductive TyA (K : PySem.W.Frag) (w : World) (H : Hp) : V → Value → Prop where
  | x {x : V} {t : Value} (h : TyX K H x t) : TyA K w H x t
  | set {a : Addr} {S : Int → Bool} {n : Nat} (e : H a = some (SetO w a S n)) : TyA K w H (.ref a) (.type "set")
def rIsiA (K : PySem.W.Frag) (w : World) : List V → Hp → VK → Prop := fun xs H Q => ∃ (x c : V) (t u : Value) (b : Bool), xs = [x, c] ∧ ClsV c u ∧ TyA K w H x t ∧ PySem.W.kitOne K t u = some b ∧ Q (.bl b) H
theorem call_isiA {X : Cx} : CallR X (.builtin "isinstance") (rIsiA X.K X.w) := by
  intro pins s σ H xs us Q I r h
  obtain ⟨x, c, t, u, b, rfl, k, ty, e, q⟩ := h
  obtain ⟨u1, u2, rfl, r1, r2⟩ := vals2 r
  have e2 := k.eq r2
  subst e2
  cases ty with
  | x ty =>
    obtain ⟨P, Z, p, hx⟩ := kit_of I r1 ty
    exact PySem.W.kia_one Z I.kIn p e hx fun tk => ⟨.bl b, H, I.tok tk, rfl, q⟩
  | @set a S n ea =>
    cases (show u1 = Value.ref a from r1)
    obtain ⟨o, _, _, _, ho, ex, _⟩ := setO_get I ea
    exact PySem.W.kia_one PySem.W.kitx_set I.kIn ⟨o, ho, ex.1⟩ e (fun z => nomatch z) fun tk => ⟨.bl b, H, I.tok tk, rfl, q⟩
end L2
namespace PV
open PySem PySem.Spec PyProof.Rows L2
/-! ## built-ins -/
section
variable {X : Cx} {W : WX} {ex : Ex} {e a : Expr} {es : List Expr} {te ta tb : TPe} {t : TPa} {p p2 pos : Pos}
theorem TopAll.one {T : Tx} {G H : Hp} {vs : List V} {d : D} (h : TopAll T G H vs [d]) : ∃ v, vs = [v] ∧ Top T G H v d := by
  cases h with
  | cons h t => cases t; exact ⟨_, rfl, h⟩
theorem TopAll.two {T : Tx} {G H : Hp} {vs : List V} {d e : D} (h : TopAll T G H vs [d, e]) : ∃ v u, vs = [v, u] ∧ Top T G H v d ∧ Top T G H u e := by
  cases h with
  | cons h t =>
    obtain ⟨u, rfl, h2⟩ := TopAll.one t
    exact ⟨_, u, rfl, h, h2⟩
/-- a list or tuple that is read -/
theorem Top.seq {T : Tx} {G H : Hp} {v : V} {d : D} {ds : List D} (s : Sub G H) (h : Top T G H v d) (e : d = .lst ds ∨ d = .tup ds) : ∃ a xs, v = .ref a ∧ (SqL T.K H a xs ∨ SqT T.K H a xs) ∧ DatAll T G xs ds := by
  rcases e with rfl | rfl
  · obtain ⟨a, xs, rfl, h1, h2⟩ := h
    exact ⟨a, xs, rfl, .inl h1, h2⟩
  · obtain ⟨a, xs, rfl, h1, h2⟩ := h.tup s
    exact ⟨a, xs, rfl, .inr h1, h2⟩
theorem datall_ints {T : Tx} {G : Hp} : ∀ {ns : List Int} {xs : List V}, DatAll T G xs (ns.map D.int) → xs = ns.map V.int
  | [], _, h => by cases h; rfl
  | n :: ns, _, h => by
    cases h with
    | cons h t =>
      cases h
      rw [datall_ints t]
      rfl
theorem ints_datall {T : Tx} {G : Hp} : ∀ {ns : List Int}, DatAll T G (ns.map V.int) (ns.map D.int)
  | [] => .nil
  | n :: ns => .cons (.int n) ints_datall
/-! ### len -/
def fLen : List D → (R → Prop) → Prop
  | [.lst ds], q => q (.dat (.int ds.length))
  | [.tup ds], q => q (.dat (.int ds.length))
  | [.str x], q => x.length ≤ sizeLine ∧ q (.dat (.int x.length))
  | _, _ => False
theorem fok_len : FOk X (fun xs H Q => ∃ x n, xs = [x] ∧ LenV X.K x H n ∧ Q (.int n) H) fLen := by
  refine ⟨fun G H vs ds Q q s h f k => ?_⟩
  unfold fLen at f
  split at f
  · obtain ⟨v, rfl, hv⟩ := h.one
    obtain ⟨a, xs, rfl, h1, h2⟩ := hv.seq s (.inl rfl)
    rcases h1 with h1 | h1
    · exact ⟨_, _, rfl, .inl ⟨xs, h1, h2.length.symm⟩, ret_s k (.int _) f⟩
    · exact ⟨_, _, rfl, .inr ⟨xs, h1, h2.length.symm⟩, ret_s k (.int _) f⟩
  · obtain ⟨v, rfl, hv⟩ := h.one
    obtain ⟨a, xs, rfl, h1, h2⟩ := hv.seq s (.inr rfl)
    rcases h1 with h1 | h1
    · exact ⟨_, _, rfl, .inl ⟨xs, h1, h2.length.symm⟩, ret_s k (.int _) f⟩
    · exact ⟨_, _, rfl, .inr ⟨xs, h1, h2.length.symm⟩, ret_s k (.int _) f⟩
  · obtain ⟨v, rfl, hv⟩ := h.one
    cases hv
    exact ⟨_, _, rfl, (show LenV X.K (.str _) H _ from ⟨f.1, rfl⟩), ret_s k (.int _) f.2⟩
  · exact f.elim
/-! ### list(x), tuple(x) -/
def keyD : Key → D
  | .inl i => .int i
  | .inr s => .str s
theorem dat_keyD {T : Tx} {G : Hp} (k : Key) : Dat T G (kV k) (keyD k) := by
  cases k with
  | inl i => exact .int i
  | inr s => exact .str s
theorem dat_keysD {T : Tx} {G : Hp} : ∀ ks : List Key, DatAll T G (ks.map kV) (ks.map keyD)
  | [] => .nil
  | k :: r => .cons (dat_keyD k) (dat_keysD r)
def fList : List D → (R → Prop) → Prop
  | [.dic ks _], q => q (.new (.lst (ks.map keyD)))
  | [.lst ds], q => q (.new (.lst ds))
  | [.tup ds], q => q (.new (.lst ds))
  | [.dicT ks _], q => q (.new (.lst (ks.map fun k => .tup (k.map D.int))))
  | _, _ => False
theorem dat_ints {T : Tx} {G : Hp} : ∀ k : List Int, DatAll T G (k.map V.int) (k.map D.int)
  | [] => .nil
  | i :: k => .cons (.int i) (dat_ints k)
theorem keys_dat {T : Tx} {G : Hp} : ∀ {ks : List (List Int)} {bs : List Addr}, KeysN T.K G ks bs → DatAll T G (bs.map V.ref) (ks.map fun k => .tup (k.map D.int))
  | _, _, .nil => .nil
  | _, _, .cons g t => .cons (.tup g (dat_ints _)) (keys_dat t)
def rListDR : List V → Hp → VK → Prop := fun xs H Q => ∃ p kvs, xs = [.ref p] ∧ Rd H p (.dK kvs) ∧ ∀ q, H q = none → Q (.ref q) (upd H q (.lst (kvs.map fun kv => kV kv.1)))
theorem call_list_dR (hc : X.calm = true) : CallR X (.type "list") rListDR := by
  intro pins s σ H xs us Q I r h
  obtain ⟨p, kvs, e, hk, q⟩ := h
  subst e
  obtain ⟨u, eu, rx⟩ := vals1 r
  subst eu
  obtain rfl : u = Value.ref p := rx
  obtain ⟨z, lo, vs, rk, hd⟩ : ObjOk X.prog X.w H s.heap p (.dK kvs) := by
    rcases hk with hk | ⟨ob, hk⟩
    · exact I.hok p _ hk
    · exact (show ObjOk X.prog X.w H s.heap p (.frz ob (.dK kvs)) from I.hok p _ hk).2
  obtain ⟨ep, hat⟩ := hd.dictAt
  have hl : kvs.length = vs.length := Paired.length rk
  refine PySem.W.kdl_call (PySem.W.kdl_dict (knd := mixKind X.prog X.w) (kvs := vs) (ep := ep) lo) (I.ok.hd hc) hat (by rw [← hl]; exact z) fun h' tk acc' c' hkeep hS hacc => ?_
  refine ⟨.ref s.heap.objs.size, upd H s.heap.objs.size (.lst (kvs.map fun kv => kV kv.1)), I.laid hkeep (Nat.le_refl _) (show ObjOk X.prog X.w _ _ _ (.lst (kvs.map fun kv => kV kv.1)) from ⟨?_, acc'.toList, c', ?_, ?_⟩), rfl, q _ (I.hok.fresh (Nat.le_refl _))⟩
  · rw [List.length_map]; exact z
  · have el : acc'.toList.length = acc'.size := by simp
    refine vals_of_at (by rw [List.length_map, el, hacc.1, hl]) fun j x w h1 h2 => ?_
    obtain ⟨k, y, hky, hi⟩ := hacc.2 j w (by rw [← Array.getElem?_toList]; exact h2)
    have e1 : (kvs.map (·.1))[j]? = some k := by
      rw [KV.keys rk, List.getElem?_map, hky] <;> rfl
    have e2 : (kvs.map fun kv => kV kv.1)[j]? = some (kV k) := by
      have e3 : (kvs.map fun kv => kV kv.1) = (kvs.map (·.1)).map kV := by rw [List.map_map] <;> rfl
      rw [e3, List.getElem?_map, e1] <;> rfl
    rw [e2] at h1
    cases h1
    exact keyIs_rel hi
  · rw [Array.toArray_toList]; exact hS
abbrev rListA (K : PySem.W.Frag) : List V → Hp → VK → Prop := fun xs H Q => ((∃ p ys, xs = [.ref p] ∧ (SqL K H p ys ∨ SqT K H p ys) ∧ ∀ l, H l = none → Q (.ref l) (upd H l (.lst ys))) ∨ rListT K xs H Q) ∨ rListDR xs H Q
theorem fok_list : FOk X (rListA X.K) fList := by
  refine ⟨fun G H vs ds Q q s h f k => ?_⟩
  unfold fList at f
  split at f
  · rename_i ks es
    obtain ⟨v, rfl, hv⟩ := h.one
    obtain ⟨a, xs, rfl, h3, h4, h5⟩ := hv
    refine .inr ⟨a, _, rfl, h3, ?_⟩
    rw [show ((ks.zip xs).map fun kv => kV kv.1) = ks.map kV by rw [show (fun kv : Key × V => kV kv.1) = kV ∘ Prod.fst from rfl, ← List.map_map, List.map_fst_zip (by omega)]]
    exact ret_lst s k (dat_keysD ks) f
  · obtain ⟨v, rfl, hv⟩ := h.one
    obtain ⟨a, xs, rfl, h1, h2⟩ := hv.seq s (.inl rfl)
    exact .inl (.inl ⟨a, xs, rfl, h1, ret_lst s k h2 f⟩)
  · obtain ⟨v, rfl, hv⟩ := h.one
    obtain ⟨a, xs, rfl, h1, h2⟩ := hv.seq s (.inr rfl)
    exact .inl (.inl ⟨a, xs, rfl, h1, ret_lst s k h2 f⟩)
  · obtain ⟨v, rfl, hv⟩ := h.one
    obtain ⟨a, bs, xs, rfl, h3, h4, h5, h6⟩ := hv
    exact .inl (.inr ⟨a, _, bs, xs, rfl, h3, (h5.mono (Sub.seqN s)).at, ret_lst s k (keys_dat h5) f⟩)
  · exact f.elim
def fTuple : List D → (R → Prop) → Prop
  | [.lst ds], q => q (.dat (.tup ds))
  | [.tup ds], q => q (.dat (.tup ds))
  | _, _ => False
theorem fok_tuple : FOk X (rTupOfN X.K) fTuple := by
  refine ⟨fun G H vs ds Q q s h f k => ?_⟩
  unfold fTuple at f
  split at f
  · obtain ⟨v, rfl, hv⟩ := h.one
    obtain ⟨a, xs, rfl, h1, h2⟩ := hv
    exact ⟨a, xs, rfl, .inl ⟨h1, ret_tup s k h2 f⟩⟩
  · obtain ⟨v, rfl, hv⟩ := h.one
    have h0 := hv
    obtain ⟨a, xs, rfl, h1, h2⟩ := hv.tup s
    exact ⟨a, xs, rfl, .inr ⟨h1, ret_s k h0 f⟩⟩
  · exact f.elim
/-! ### max, min, int -/
def fMax2 : List D → (R → Prop) → Prop
  | [.int i, .int j], q => q (.dat (.int (max i j)))
  | _, _ => False
theorem fok_max2 : FOk X (fun xs H Q => ∃ i j, xs = [.int i, .int j] ∧ Q (.int (if j > i then j else i)) H) fMax2 := by
  refine ⟨fun G H vs ds Q q s h f k => ?_⟩
  unfold fMax2 at f
  split at f
  · rename_i i j
    obtain ⟨v, u, rfl, h1, h2⟩ := h.two
    cases h1; cases h2
    refine ⟨_, _, rfl, ?_⟩
    rw [show (if j > i then j else i) = max i j by rw [Int.max_def]; split <;> split <;> omega]
    exact ret_s k (.int _) f
  · exact f.elim
def fMin2 : List D → (R → Prop) → Prop
  | [.int i, .int j], q => q (.dat (.int (min i j)))
  | _, _ => False
def fInt1 : List D → (R → Prop) → Prop
  | [.int i], q => q (.dat (.int i))
  | [.bl b], q => q (.dat (.int (if b then 1 else 0)))
  | _, _ => False
theorem fok_int1 : FOk X (fun xs H Q => (∃ i, xs = [.int i] ∧ Q (.int i) H) ∨ ∃ k, xs = [.bl k] ∧ Q (.int (if k then 1 else 0)) H) fInt1 := by
  refine ⟨fun G H vs ds Q q s h f k => ?_⟩
  unfold fInt1 at f
  split at f
  · obtain ⟨v, rfl, hv⟩ := h.one
    cases hv
    exact .inl ⟨_, rfl, ret_s k (.int _) f⟩
  · obtain ⟨v, rfl, hv⟩ := h.one
    cases hv
    exact .inr ⟨_, rfl, ret_s k (.int _) f⟩
  · exact f.elim
/-! ### set(), set(x) -/
def fSet0 : List D → (R → Prop) → Prop
  | [], q => q (.new (.set []))
  | _, _ => False
theorem ob_set {T : Tx} {G H : Hp} {p : Addr} {S : Int → Bool} {n : Nat} {is : List Int} (e : SetIs S n is) : Ob T G (upd H p (SetO T.w p S n)) p (.set is) := ⟨S, n, upd_same, e⟩
theorem ret_set {T : Tx} {G H : Hp} {Q : VK} {q : R → Prop} {S : Int → Bool} {n : Nat} {is : List Int} (s : Sub G H) (k : ∀ res w G' H', Grow G H G' H' → ROk T H G' H' w res → q res → Q w H') (h : SetIs S n is) (hq : q (.new (.set is))) : ∀ p, H p = none → Q (.ref p) (upd H p (SetO T.w p S n)) :=
  fun p hp => k (.new (.set is)) (.ref p) G _ (Grow.laid hp) ⟨p, rfl, hp, s.none hp, ob_set h⟩ hq
theorem fok_set0 : FOk X (rSet0 X.w) fSet0 := by
  refine ⟨fun G H vs ds Q q s h f k => ?_⟩
  unfold fSet0 at f
  split at f
  · cases h
    exact ⟨rfl, ret_set s k ⟨List.nodup_nil, rfl, fun i => by simp⟩ f⟩
  · exact f.elim
def fSetOf : List D → (R → Prop) → Prop := fun ds q => ∃ ns : List Int, (ds = [.lst (ns.map D.int)] ∨ ds = [.tup (ns.map D.int)]) ∧ ns.length + 1 < scanBound ∧ q (.new (.set (nub ns)))
theorem fok_setOf : FOk X (rSetOf X.K X.w) fSetOf := by
  refine ⟨fun G H vs ds Q q s h f k => ?_⟩
  obtain ⟨ns, hd, hb, f⟩ := f
  obtain ⟨d, rfl, hd'⟩ : ∃ d, ds = [d] ∧ (d = .lst (ns.map D.int) ∨ d = .tup (ns.map D.int)) := by
    rcases hd with rfl | rfl
    · exact ⟨_, rfl, .inl rfl⟩
    · exact ⟨_, rfl, .inr rfl⟩
  obtain ⟨v, rfl, hv⟩ := h.one
  obtain ⟨a, xs, rfl, h1, h2⟩ := hv.seq s hd'
  rw [datall_ints h2] at h1
  exact ⟨a, ns, rfl, h1, hb, ret_set s k ⟨nub_nodup ns, rfl, fun i => decide_eq_decide.mpr mem_nub.symm⟩ f⟩
/-! ### sorted(x) of ints -/
def ins (a : Int) : List Int → List Int
  | [] => [a]
  | b :: r => if a ≤ b then a :: b :: r else b :: ins a r
def isort : List Int → List Int
  | [] => []
  | a :: r => ins a (isort r)
theorem ins_perm (a : Int) : ∀ l : List Int, (ins a l).Perm (a :: l)
  | [] => .refl _
  | b :: r => by
    unfold ins
    split
    · exact .refl _
    · exact ((ins_perm a r).cons b).trans (.swap a b r)
theorem isort_perm : ∀ l : List Int, (isort l).Perm l
  | [] => .refl _
  | a :: r => (ins_perm a _).trans ((isort_perm r).cons a)
theorem ins_sorted (a : Int) : ∀ {l : List Int}, l.Pairwise (· ≤ ·) → (ins a l).Pairwise (· ≤ ·)
  | [], _ => List.pairwise_singleton _ _
  | b :: r, h => by
    obtain ⟨h1, h2⟩ := List.pairwise_cons.mp h
    unfold ins
    split
    · rename_i hab
      exact List.pairwise_cons.mpr ⟨fun c hc => by
        rcases List.mem_cons.mp hc with rfl | hc
        · exact hab
        · exact Int.le_trans hab (h1 c hc), h⟩
    · rename_i hab
      refine List.pairwise_cons.mpr ⟨fun c hc => ?_, ins_sorted a h2⟩
      rcases List.mem_cons.mp ((ins_perm a r).mem_iff.mp hc) with rfl | hc
      · omega
      · exact h1 c hc
theorem isort_sorted : ∀ l : List Int, (isort l).Pairwise (· ≤ ·)
  | [] => List.Pairwise.nil
  | a :: r => ins_sorted a (isort_sorted r)
theorem sorted_uniq : ∀ {l m : List Int}, l.Perm m → l.Pairwise (· ≤ ·) → m.Pairwise (· ≤ ·) → l = m
  | [], _, p, _, _ => p.nil_eq
  | a :: l, [], p, _, _ => by have := p.length_eq; simp at this
  | a :: l, b :: m, p, h1, h2 => by
    obtain ⟨a1, a2⟩ := List.pairwise_cons.mp h1
    obtain ⟨b1, b2⟩ := List.pairwise_cons.mp h2
    have e : a = b := by
      have x1 : b ∈ a :: l := p.mem_iff.mpr List.mem_cons_self
      have x2 : a ∈ b :: m := p.mem_iff.mp List.mem_cons_self
      rcases List.mem_cons.mp x1 with y1 | y1
      · exact y1.symm
      · rcases List.mem_cons.mp x2 with y2 | y2
        · exact y2
        · have := a1 b y1; have := b1 a y2; omega
    subst e
    rw [sorted_uniq (List.perm_cons a |>.mp p) a2 b2]
theorem sorted_is {l m : List Int} (p : l.Perm m) (h : l.Pairwise (· ≤ ·)) : l = isort m := sorted_uniq (p.trans (isort_perm m).symm) h (isort_sorted m)
def fSorted : List D → (R → Prop) → Prop := fun ds q => ∃ ns : List Int, (ds = [.lst (ns.map D.int)] ∨ (ds = [.set ns] ∧ ns.length < 64) ∨ ∃ es, ds = [.dic (ns.map Sum.inl) es] ∧ ns.length < 64) ∧ q (.new (.lst ((isort ns).map D.int)))
def rSortedA (K : PySem.W.Frag) (w : World) : List V → Hp → VK → Prop := fun xs H Q => rSortedI K xs H Q ∨ rSortedSet w xs H Q ∨ ∃ (a : Addr) (kvs : List (Key × V)) (ks : List Int), xs = [.ref a] ∧ Rd H a (.dK kvs) ∧ kvs.map (·.1) = ks.map Sum.inl ∧ ks.length < 64 ∧
    ∀ (ys : List Int) (p : Addr), ys.Perm ks → ys.Pairwise (· ≤ ·) → H p = none → Q (.ref p) (upd H p (.lst (ys.map V.int)))
theorem cr_sortedA (hc : X.calm = true) : CallR X (.builtin "sorted") (rSortedA X.K X.w) := cr_sortedI.or' ((cr_sortedSet hc).or' (call_sortedDI hc))
theorem fok_sorted : FOk X (rSortedA X.K X.w) fSorted := by
  refine ⟨fun G H vs ds Q q s h f k => ?_⟩
  obtain ⟨ns, hd, f⟩ := f
  rcases hd with rfl | ⟨rfl, hn⟩ | ⟨es, rfl, hn⟩
  · obtain ⟨v, rfl, hv⟩ := h.one
    obtain ⟨a, xs, rfl, h1, h2⟩ := hv
    rw [datall_ints h2] at h1
    refine .inl ⟨a, ns, rfl, h1, fun ms p hp hs => ?_⟩
    rw [sorted_is hp hs]
    exact ret_lst s k ints_datall f p
  · obtain ⟨v, rfl, hv⟩ := h.one
    obtain ⟨a, S, n, rfl, h1, nd, hl, hS⟩ := hv
    refine .inr (.inl ⟨a, S, n, rfl, h1, by omega, fun ms p hs hm hl2 => ?_⟩)
    have nm : ms.Nodup := hs.imp fun {a b} h => by omega
    have pm : ms.Perm ns := (List.perm_ext_iff_of_nodup nm nd).mpr fun i => by
      rw [hm i, hS i]
      exact decide_eq_true_iff
    rw [sorted_is pm (hs.imp fun {a b} h => by omega)]
    exact ret_lst s k ints_datall f p
  · obtain ⟨v, rfl, hv⟩ := h.one
    obtain ⟨a, xs, rfl, h1, h2, h3⟩ := hv
    refine .inr (.inr ⟨a, _, ns, rfl, h1, ?_, hn, fun ms p hp hs => ?_⟩)
    · rw [List.map_fst_zip (by rw [h2]; exact Nat.le_refl _)]
    · rw [sorted_is hp hs]
      exact ret_lst s k ints_datall f p
/-! ### list * int -/
def rMulA (K : PySem.W.Frag) : R2 := fun x y H Q => rI CMul (fun i j => .int (i * j)) x y H Q ∨ rRepS K x y H Q
theorem bok_mul : BOk X (rMulA X.K) fMul := by
  refine ⟨fun G H v u d e Q q s h1 h2 f k => ?_⟩
  unfold fMul at f
  split at f
  · cases h1; cases h2
    exact .inl ⟨_, _, rfl, rfl, f.1, ret_s k (.int _) f.2⟩
  · obtain ⟨a, xs, rfl, h3, h4⟩ := h1
    cases h2
    exact .inr ⟨a, _, xs, rfl, rfl, h3, f.1, f.2.1, by rw [h4.length]; exact f.2.2.1, ret_lst s k (h4.rep _) f.2.2.2⟩
  · exact f.elim
/-! ### -x, x.bit_length() -/
def fNeg : D → (R → Prop) → Prop := fun d q => match d with
  | .int i => q (.dat (.int (-i)))
  | _ => False
theorem uok_neg : UOk X (rU fun i => .int (-i)) fNeg := ⟨fun G H v d Q q s h f k => by
  unfold fNeg at f
  split at f
  · cases h
    exact ⟨_, rfl, ret_s k (.int _) f⟩
  · exact f.elim⟩
theorem ve_neg (ha : VE X W ex a ta) : VE X W ex (.UnaryOp .USub a pos) (yU fNeg ta) := ve_u (fun _ h => pe_un un_neg h) uok_neg ha
def fBits : D → (R → Prop) → Prop := fun d q => match d with
  | .int i => q (.dat (.int (Builtin.Int.intBits i : Nat)))
  | _ => False
end
end PV
namespace PV
open PySem PySem.Spec PyProof.Rows L2
/-! ## isinstance(x, T) -/
def tyN : D → Option String
  | .non => some "NoneType" | .bl _ => some "bool" | .int _ => some "int" | .str _ => some "str"
  | .lst _ => some "list" | .tup _ => some "tuple" | .tupU _ => none | .dic _ _ => some "dict" | .dicT _ _ => none | .set _ => some "set" | .obj _ _ _ => none
def isiT (T n : String) : Bool := n == T || (n == "bool" && T == "int")
def tyNames : List String := ["NoneType", "bool", "int", "str", "list", "tuple", "dict", "set"]
abbrev KitOf (K : PySem.W.Frag) (T : String) : Prop := ∀ n ∈ tyNames, PySem.W.kitOne K (.type n) (.type T) = some (isiT T n)
theorem kit_int {K : PySem.W.Frag} : KitOf K "int" := fun n hn => by
  simp only [tyNames, List.mem_cons, List.not_mem_nil, or_false] at hn
  rcases hn with rfl | rfl | rfl | rfl | rfl | rfl | rfl | rfl <;> kernel_rfl
theorem kit_bool {K : PySem.W.Frag} : KitOf K "bool" := fun n hn => by
  simp only [tyNames, List.mem_cons, List.not_mem_nil, or_false] at hn
  rcases hn with rfl | rfl | rfl | rfl | rfl | rfl | rfl | rfl <;> kernel_rfl
theorem kit_list {K : PySem.W.Frag} : KitOf K "list" := fun n hn => by
  simp only [tyNames, List.mem_cons, List.not_mem_nil, or_false] at hn
  rcases hn with rfl | rfl | rfl | rfl | rfl | rfl | rfl | rfl <;> kernel_rfl
theorem kit_tuple {K : PySem.W.Frag} : KitOf K "tuple" := fun n hn => by
  simp only [tyNames, List.mem_cons, List.not_mem_nil, or_false] at hn
  rcases hn with rfl | rfl | rfl | rfl | rfl | rfl | rfl | rfl <;> kernel_rfl
/-- what isinstance asks of an own class -/
structure OwnC (X : Cx) (c : Str) (C : Addr) : Prop where
  mg : X.mg c = some (.ref C)
  cl : Cls X.K C
  ha : PySem.W.findIn X.K (.ref C) "__class__" = some (some (.builtin "object.__class__"))
  hn : PySem.W.specialIn X.K (.builtin "object.__class__") "__get__" = some (some (.builtin "getset_descriptor.__get__"))
  htk : PySem.W.takesIn X.K (.builtin "object.__class__") = some true
  hm : PySem.W.mroIn X.K C (.type "object") = some true
abbrev OwnNot (X : Cx) (T : String) (own : List Str) : Prop := ∀ c, own.contains c = true → ∃ C, OwnC X c C ∧ PySem.W.kitOne X.K (.ref C) (.type T) = some false
theorem ownNot_nil {X : Cx} {T : String} : OwnNot X T [] := fun c h => by simp at h
theorem tyN_ok {X : Cx} {G H : Hp} {v : V} {d : D} {n : String} (s : Sub G H) (h : Top X.tx G H v d) (e : tyN d = some n) : TyA X.K X.w H v (.type n) := by
  cases d with
  | non => cases h; cases e; exact .x (.base .non)
  | bl b => cases h; cases e; exact .x (.base (.bl b))
  | int i => cases h; cases e; exact .x (.base (.int i))
  | str i => cases h; cases e; exact .x (.base (.str i))
  | lst ds =>
    obtain ⟨a, xs, rfl, h1, h2⟩ := h
    cases e
    rcases h1 with (h1 | ⟨o, h1⟩) | h1
    · exact .x (.base (.lst h1))
    · exact .x (.base (.frz h1))
    · obtain ⟨o, its, n, h1, hc, _⟩ := h1
      exact .x (.kList h1 hc)
  | tup ds =>
    obtain ⟨a, xs, rfl, h1, h2⟩ := h.tup s
    cases e
    rcases h1 with (h1 | ⟨o, h1⟩) | h1
    · exact .x (.base (.tup h1))
    · exact .x (.fTuple h1)
    · obtain ⟨o, its, n, h1, hc, _⟩ := h1
      exact .x (.kTuple h1 hc)
  | tupU ds => cases e
  | dic ks ds =>
    obtain ⟨a, xs, rfl, h1, h2⟩ := h
    cases e
    rcases h1 with h1 | ⟨o, h1⟩
    · exact .x (.base (.dK h1))
    · exact .x (.fDict h1)
  | dicT _ _ => cases e
  | set is =>
    obtain ⟨a, S, n, rfl, h1, h2⟩ := h
    cases e
    exact .set h1
  | obj c ns ds => cases e
theorem tyN_mem {d : D} {n : String} (e : tyN d = some n) : n ∈ tyNames := by
  cases d <;> cases e <;> decide
def fIsi (T : String) (own : List Str) : D → (R → Prop) → Prop := fun d q => match d with
  | .obj c _ _ => own.contains c = true ∧ q (.dat (.bl false))
  | d => ∃ n, tyN d = some n ∧ q (.dat (.bl (isiT T n)))
theorem uok_isi {X : Cx} {T : String} {own : List Str} (hk : KitOf X.K T) (ho : OwnNot X T own) : UOk X (fun x H Q => rIsiA X.K X.w [x, .ty T] H Q) (fIsi T own) := by
  refine ⟨fun G H v d Q q s h f k => ?_⟩
  have gen : (∃ n, tyN d = some n ∧ q (.dat (.bl (isiT T n)))) → rIsiA X.K X.w [v, .ty T] H Q := fun ⟨n, e, f⟩ => ⟨v, .ty T, _, _, _, rfl, .ty T, tyN_ok s h e, hk n (tyN_mem e), ret_s k (.bl _) f⟩
  cases d with
  | obj c ns ds =>
    obtain ⟨a, C, dx, xs, rfl, e1, e2, e3, e4⟩ := h
    obtain ⟨hc, f⟩ := f
    obtain ⟨C', oc, e⟩ := ho c hc
    have e1 : X.mg c = some (.ref C) := e1
    rw [oc.mg] at e1
    cases e1
    exact ⟨.ref a, .ty T, _, _, _, rfl, .ty T, .x (.base (.ins e2 oc.cl oc.ha oc.hn oc.htk oc.hm)), e, ret_s k (.bl _) f⟩
  | _ => exact gen f
section
variable {X : Cx} {W : WX} {ex : Ex} {e a o : Expr} {es : List Expr} {te ta tb to ti : TPe} {t : TPa} {p p2 pos : Pos}
/-- isinstance(e, T) -/
theorem ve_isi {T : String} {x : Str} {own : List Str} (hk : KitOf X.K T) (ho : OwnNot X T own) (hg : Gl X "isinstance") (hm : X.mg "isinstance" = none) (hgT : Gl X x) (hmT : X.mg x = none) (hb : bootBuiltins x = some (.type T)) (he : VE X W ex e te)
    (hn : x ≠ "__name__" := by decide) (hd : (x == ("__debug__" : Str)) = false := by decide)
    (h1 : starEach [e, .Name x p2] X.env = (false, eval e X.env) :: starEach [.Name x p2] X.env := by rfl) (h2 : starEach [.Name x p2] X.env = (false, eval (.Name x p2) X.env) :: starEach [] X.env := by rfl)
    (hpl : (backTo pos (starEach [.Name x p2] X.env)).any (·.1) = false := by rfl) : VE X W ex (.Call (.Name "isinstance" p) [e, .Name x p2] [] pos) (yU (fIsi T own) te) :=
  ve_u (fun _ h => pe_callB call_isiA hg hm boot_isinstance' (pa_cons h (pa_cons (pe_bltn (v := .ty T) hgT hmT hb rfl hn hd) pa_nil h2) h1) (by decide) (by decide) h1 hpl) (uok_isi hk ho) he
/-! ## len(o) of an own instance -/
def yLenO (c : Str) (sp : PSp) (to : TPe) : TPe := fun ρ q x => to ρ (fun r ρ1 => fix ρ1 r fun d ρ2 => match d with
  | .obj c' ns fs => c' = c ∧ sp [.dat (.obj c' ns fs)] (fun r _ => match r with
    | .dat (.int n) => 0 ≤ n ∧ n < 2 ^ 63 ∧ q (.dat (.int n)) ρ2
    | _ => False) (fun _ _ => False)
  | _ => False) x
theorem ve_lenO {C f : Addr} {k : Nat} {fd : FuncData} {ps : List Str} {sp : PSp} {c : Str} (hC : X.mg c = some (.ref C)) (hs : PySem.W.findIn X.K (.ref C) "__len__" = some (some (.ref f))) (hf : PySem.W.isFn X.K (.ref f) = true)
    (F : FnOk X.prog X.w X.K X.mg X.base (L2.CX X.prog X.w) k f fd ps (spOf X.tx sp)) (hb : Binds X.K fd ps []) (hr : Room (k + 1) X.A) (hg : Gl X "len") (hm : X.mg "len" = none) (ho : VE X W ex o to)
    (h1 : starEach [o] X.env = (false, eval o X.env) :: starEach [] X.env := by rfl) (hpl : (backTo pos (starEach [] X.env)).any (·.1) = false := by rfl) : VE X W ex (.Call (.Name "len" p) [o] [] pos) (yLenO c sp to) := by
  obtain ⟨_, po, wo⟩ := ho
  refine ⟨_, pe_callB (call_lenOwn hs hf F hb hr) hg hm boot_len' (pa_cons po pa_nil h1) (by decide) (by decide) h1 hpl, fun F hF => ⟨fun pd G ρ σ H Q q x rl t k w => (wo F hF).ok pd G ρ σ H _ _ _ rl t (fun r ρ1 v G1 H1 l1 p1 q1 => ?_) w⟩⟩
  obtain ⟨G2, ρ2, d, l2, rl2, h2, q2⟩ := p1.fix q1
  cases d with
  | obj c' ns fs =>
    obtain ⟨ec, q3⟩ := q2
    subst ec
    obtain ⟨a, dx, xs, rfl, e1, e2, e3⟩ := dat_obj rl2 h2 hC
    refine ⟨a, dx, _, rfl, e1, G2, _, [], _, _, rl2.sub, .dat h2 .nil, q3, fun r ds v G' H' cp ro qr => ?_, fun e ds cls dd G' H' cp xo xr => xr.elim⟩
    cases r with
    | dat d =>
      cases d with
      | int n =>
        cases ro
        obtain ⟨n0, n1, qr⟩ := qr
        have rl3 := rl2.call .nil cp
        cases cp.obs
        exact ⟨n, rfl, n0, n1, k (.dat (.int n)) ρ2 _ G' H' ((l1.trans l2).trans cp.le) ⟨rl3, .int n⟩ qr⟩
      | _ => exact qr.elim
    | _ => exact qr.elim
  | _ => exact q2.elim
/-! ## s.add(e) -/
def isSet : D → Prop
  | .set _ => True
  | _ => False
def mSAdd : D → List D → (D → D → Prop) → Prop := fun d ds q => match d, ds with
  | .set is, [.int i] => is.length + 1 < scanBound ∧ q (.set (if i ∈ is then is else is ++ [i])) .non
  | _, _ => False
def yMs (f : D → List D → (D → D → Prop) → Prop) (to : TPe) (ta : TPa) : TPe := fun ρ q x => to ρ (fun r ρ1 => mutAt ρ1 r fun _ _ d0 => isSet d0 ∧ ta ρ1 (fun rs ρ2 => fixs ρ2 rs fun ds ρ3 => mutAt ρ3 r fun i s d => f d ds fun d' res => q (.dat res) (ρ3.set i (s.put d'))) x) x
theorem mok_sadd : MOk X (rSAdd X.w) mSAdd := ⟨fun G H p d vs ds Q q s ob dts f k => by
  unfold mSAdd at f
  split at f
  · rename_i is i
    obtain ⟨v, rfl, dt⟩ := dts.two
    cases dt
    obtain ⟨S, n, hx, nd, hn, hS⟩ := ob
    refine ⟨p, i, S, n, rfl, rfl, hx, by rw [hn]; exact f.1, k _ .non .non _ (ob_set (T := X.tx) (S := fun j => S j || decide (j = i)) ?_) .non f.2⟩
    by_cases m : i ∈ is
    · rw [if_pos m, hS i, if_pos (decide_eq_true m)]
      refine ⟨nd, hn, fun j => ?_⟩
      show (S j || decide (j = i)) = _
      rw [hS j]
      by_cases e : j = i
      · subst e; simp [m]
      · simp [e]
    · rw [if_neg m, hS i, if_neg (by simpa using m)]
      refine ⟨List.nodup_append.mpr ⟨nd, by simp, fun a ha b hb => ?_⟩, by simp [hn], fun j => ?_⟩
      · rw [List.mem_singleton.mp hb]
        exact fun z => m (z ▸ ha)
      · show (S j || decide (j = i)) = _
        rw [hS j]
        by_cases e : j = i
        · subst e; simp
        · simp [e]
  · exact f.elim⟩
theorem ve_sadd {apos : Pos} (ho : VE X W ex o to) (ha : VA X W ex (e :: es) t) (hbase : attributeBase o "add" X.env (eval o X.env) = eval o X.env := by rfl)
    (hfew : ((backTo pos (starEach (e :: es) X.env)).all (fun x => !x.1) && (backToKw pos (keywordEach [] X.env)).all (fun x => x.1.isSome)
      && decide ((e :: es).length + ([] : List Keyword).length + (if ([] : List Keyword).isEmpty then 0 else 1) < 30)) = true := by rfl)
    (hline : (apos.endLine == pos.line) = true := by rfl) (hs : starEach (e :: es) X.env = (false, eval e X.env) :: starEach es X.env := by rfl) (hplain : (backTo pos (starEach es X.env)).any (·.1) = false := by rfl) :
    VE X W ex (.Call (.Attribute o "add" apos) (e :: es) [] pos) (yMs mSAdd to t) := by
  obtain ⟨_, po, wo⟩ := ho
  obtain ⟨_, pa, wa⟩ := ha
  refine ⟨_, pe_sadd po pa hbase hfew hline hs hplain, fun F hF => ⟨fun pd G ρ σ H Q q x rl t k w => (wo F hF).ok pd G ρ σ H _ _ _ rl t (fun r1 ρ1 v G1 H1 l1 p1 q1 => ?_) w⟩⟩
  have he := mutAt_loc q1
  obtain ⟨G1', l1', rl1, h1⟩ := p1.hold
  rw [he] at h1
  obtain ⟨i, s, d, p, rfl, rfl, e1, e2, e3, e4, ob, il, q1⟩ := mutAt_ok rl1 h1 q1
  refine ⟨?_, (wa F hF).ok pd G1' ρ1 σ H1 _ _ _ rl1 q1 (fun rs ρ2 vs G2 H2 l2 rl2 h2 q2 => ?_) ((w.mono l1).mono l1')⟩
  · cases d with
    | set is =>
      obtain ⟨S, n, hx, _⟩ := ob
      exact ⟨p, S, n, rfl, hx⟩
    | _ => exact il.elim
  · obtain ⟨G3, ρ3, ds, l3, rl3, dts, q3⟩ := RAll.fixs rl2 h2 q2
    obtain ⟨i', s', d', p', e, ev, f1, f2, f3, f4, ob', q4⟩ := mutAt_ok rl3 (show RHold X.tx G3 σ (.ref p) (.loc i) from e3) q3
    cases e
    cases ev
    exact mok_sadd.ok G3 H2 p d' vs ds _ _ rl3.sub ob' dts q4 fun d2 res y o2 ob2 dt2 q5 => k (.dat res) _ y G3 _ (((l1.trans l1').trans l2).trans l3) ⟨rl3.mutS f1 f2 f3 ob2, dt2⟩ q5
/-! ## methods that read -/
def isTup : D → Prop
  | .tup _ => True
  | _ => False
structure MRok (X : Cx) (r : V → List V → Hp → VK → Prop) (f : D → List D → (R → Prop) → Prop) : Prop where
  ok : ∀ (G H : Hp) (v : V) (d : D) (vs : List V) (ds : List D) (Q : VK) (q : R → Prop), Sub G H → Top X.tx G H v d → TopAll X.tx G H vs ds → f d ds q → (∀ res w G' H', Grow G H G' H' → ROk X.tx H G' H' w res → q res → Q w H') → r v vs H Q
def yRm (is : D → Prop) (f : D → List D → (R → Prop) → Prop) (to : TPe) (ta : TPa) : TPe := fun ρ q x => to ρ (fun r ρ1 => cont ρ1 (hold r) is ∧ ta ρ1 (fun rs ρ2 => cont ρ2 (hold r) fun d => conts ρ2 rs fun ds => f d ds fun res => q res ρ2) x) x
/-- t.index(x) of ints -/
def fIndexT : D → List D → (R → Prop) → Prop := fun d ds q => match d, ds with
  | .tup es, [.int z] => ∃ (ys : List Int) (j : Nat), es = ys.map D.int ∧ ys[j]? = some z ∧ (∀ m, m < j → ys[m]? ≠ some z) ∧ q (.dat (.int (j : Nat)))
  | _, _ => False
theorem mrok_indexT : MRok X (rIndexT X.K) fIndexT := ⟨fun G H v d vs ds Q q s h hs f k => by
  unfold fIndexT at f
  split at f
  · obtain ⟨u, rfl, hu⟩ := hs.one
    cases hu
    obtain ⟨a, xs, rfl, h1, h2⟩ := h.tup s
    obtain ⟨ys, j, rfl, e1, e2, f⟩ := f
    rw [datall_ints h2] at h1
    exact ⟨a, ys, _, j, rfl, rfl, h1, e1, e2, ret_s k (.int _) f⟩
  · exact f.elim⟩
theorem ve_tm {c : Expr} {r : V → List V → Hp → VK → Prop} {f : D → List D → (R → Prop) → Prop} (hm : ∀ te ta, PE X o te → PA X es ta → PE X c (tTM X.K r te ta)) (ok : MRok X r f) (ho : VE X W ex o to) (ha : VA X W ex es t) : VE X W ex c (yRm isTup f to t) := by
  obtain ⟨_, po, wo⟩ := ho
  obtain ⟨_, pa, wa⟩ := ha
  refine ⟨_, hm _ _ po pa, fun F hF => ⟨fun pd G ρ σ H Q q x rl t k w => (wo F hF).ok pd G ρ σ H _ _ _ rl t (fun r1 ρ1 v G1 H1 l1 p1 q1 => ?_) w⟩⟩
  obtain ⟨G1', l1', rl1, h1⟩ := p1.hold
  obtain ⟨q0, q1⟩ := q1
  obtain ⟨d0, tp0, hd0⟩ := RHold.cont rl1 h1 q0
  refine ⟨?_, (wa F hF).ok pd G1' ρ1 σ H1 _ _ _ rl1 q1 (fun rs ρ2 vs G2 H2 l2 rl2 h2 q2 => ?_) ((w.mono l1).mono l1')⟩
  · cases d0 with
    | tup ds =>
      obtain ⟨a, xs, rfl, e1, _⟩ := tp0.tupN rl1.sub
      exact ⟨a, xs, rfl, e1⟩
    | _ => exact hd0.elim
  obtain ⟨d, tp, q3⟩ := RHold.cont rl2 (h1.mono l2) q2
  obtain ⟨ds, tps, q4⟩ := RAll.conts rl2 h2 q3
  exact ok.ok G2 H2 v d vs ds _ _ rl2.sub tp tps q4 fun res y G3 H3 g rk qr => k res ρ2 y G3 H3 (((l1.trans l1').trans l2).trans g.le) (ROk.post rl2 g rk) qr
end
end PV
namespace PV
open PySem PySem.Spec PyProof.Rows L2
/-! ## dict comprehensions -/
def yDcL (g : TPg) (tt : TPt) (tk te : TPe) (vs : List Nat) : List D → List Key → List D → Rho → (List Key → List D → Rho → Prop) → Prop
  | [], ks, es, ρ, q => q ks es ρ
  | x :: r, ks, es, ρ, q => g x (anyP ρ vs) fun ρ1 => tt ρ1 (fun b ρ2 => if b = true then tk ρ2 (fun rk ρ3 => te ρ3 (fun res ρ4 => fix ρ4 res fun d ρ5 => cont ρ5 (hold rk) fun kd => ∃ k, keyOf? kd = some k ∧ ks.length < sizeLine ∧ noRefs ρ5 vs = true ∧ yDcL g tt tk te vs r (dput ks es k d).1 (dput ks es k d).2 (anyP ρ5 vs) q) (fun _ _ => False)) (fun _ _ => False)
      else noRefs ρ2 vs = true ∧ yDcL g tt tk te vs r ks es (anyP ρ2 vs) q) fun _ _ => False
def yDc (ti : TPi) (g : TPg) (tt : TPt) (tk te : TPe) (vs : List Nat) : TPe := fun ρ q x => ti ρ (fun ds ρ1 => noRefs ρ1 vs = true ∧ yDcL g tt tk te vs ds [] [] (anyP ρ1 vs) fun ks es ρ2 => q (.new (.dic ks es)) ρ2) x
section
variable {X : Cx} {W : WX} {ex : Ex} {tg iter kx vx : Expr} {ifs : List Expr} {scope : Scope} {own : List (Str × Nat)} {ti : TPi} {g : TPg} {tt : TPt} {tk te : TPe} {js : List Nat} {pos : Pos}
theorem dc_w {F : Fm} {wi : TI} (hF : F.ex = ex) (w1 : VIw X W F wi ti) (hjs : ∀ j ∈ js, j ∈ own.map (·.2)) : VEw X W F (tDc wi (canG X.tx js g) (canT X.tx ex tt) (canE X.tx ex tk) (canE X.tx ex te) (own.map (·.2))) (yDc ti g tt tk te (own.map (·.2))) := by
  refine ⟨fun pd G ρ σ H Q q x rl t k w => w1.ok pd G ρ σ H _ _ _ rl t (fun ds ρ1 G1 H1 J l1 rl1 wd q1 => ?_) w⟩
  generalize own.map (·.2) = vs at hjs q1 ⊢
  obtain ⟨nr, q1⟩ := q1
  intro a ha
  have gn := rl1.sub.none ha
  have rl2 : Rel X.tx F ((a, .dic [] []) :: pd) G1 (anyP ρ1 vs) σ (upd H1 a (.dK [])) := (rl1.push (Grow.laid ha) ha gn (ob_dic (ks := []) (xs := []) rfl .nil)).back nr rfl rfl
  refine ⟨fun i m H => m = ds.length - i ∧ i ≤ ds.length ∧ ∃ G ρ ks es, Le G1 G ∧ Rel X.tx F ((a, .dic ks es) :: pd) G ρ σ H ∧ noRefs ρ vs = true ∧ yDcL g tt tk te vs (ds.drop i) ks es ρ (fun ks es ρ2 => q (.new (.dic ks es)) ρ2),
    ⟨ds.length, by simp, Nat.zero_le _, G1, _, [], [], Le.refl _, rl2, anyP_noRefs nr, q1⟩, ?_⟩
  rintro i m H2 ⟨rfl, hi, G2, ρ2, ks, es, l2, rl3, nr2, q2⟩
  by_cases hlt : i < ds.length
  · refine .inr ⟨wd.goes i H2 G2 l2 rl3.sub hlt, fun H' => ∃ G ρ ks es, Le G1 G ∧ Rel X.tx F ((a, .dic ks es) :: pd) G ρ σ H' ∧ noRefs ρ vs = true ∧ yDcL g tt tk te vs (ds.drop (i + 1)) ks es ρ (fun ks es ρ2 => q (.new (.dic ks es)) ρ2),
      fun H' h => ⟨ds.length - (i + 1), by omega, rfl, hlt, h⟩, fun y H' hy => ?_⟩
    rw [List.drop_eq_getElem_cons hlt] at q2
    obtain ⟨G3, gr, dt⟩ := wd.yields i H2 G2 y H' ds[i] l2 rl3.sub (by simp [hlt]) hy
    refine ⟨F, _, ds[i], G3, anyP ρ2 vs, _, (rl3.grow gr).anyP nr2, dt, q2, fun ρ4 σ4 rl4 wp q4 => ?_⟩
    have we : wipe σ4 vs = wipe σ vs := (wp vs hjs).trans wipe_wipe
    have hl : σ.length = σ4.length := by
      have z := congrArg List.length we
      rw [wipe_length, wipe_length] at z
      exact z.symm
    have l3 : Le G1 G3 := l2.trans gr.le
    refine ⟨we, F, _, G3, ρ4, _, hF, rl4, q4, fun b ρ5 G5 H5 l5 rl5 q5 => ?_⟩
    cases b with
    | true =>
      refine iteT ⟨F, _, G5, ρ5, _, hF, rl5, by simpa using q5, fun rk ρ6 vk G6 H6 l6 p6 q6 => ?_⟩
      obtain ⟨G6', l6', rl6, hk⟩ := p6.hold
      refine ⟨F, _, G6', ρ6, _, hF, rl6, q6, fun r ρ7 v G7 H7 l7 p7 q7 => ?_⟩
      obtain ⟨G8, ρ8, d, l8, rl8, dt8, q8⟩ := p7.fix q7
      obtain ⟨kd, tpk, ky, ek, hsz, nr8, q9⟩ := RHold.cont rl8 ((hk.mono l7).mono l8) q8
      cases keyOf_top tpk ek
      obtain ⟨_, _, xs, hxs, hlx, dts⟩ := rl8.pds (a, .dic ks es) List.mem_cons_self
      refine ⟨ks.zip xs, ky, rfl, hxs, by rw [List.length_zip, hlx, Nat.min_self]; exact hsz, G8, anyP ρ8 vs, _, _, ((((l3.trans l5).trans l6).trans l6').trans l7).trans l8, ?_, anyP_noRefs nr8, q9⟩
      exact (rl8.mutP (ob_dput hlx dts dt8)).back nr8 we hl
    | false =>
      have q6 : noRefs ρ5 vs = true ∧ yDcL g tt tk te vs (ds.drop (i + 1)) ks es (anyP ρ5 vs) (fun ks es ρ2 => q (.new (.dic ks es)) ρ2) := by simpa using q5
      exact iteF ⟨G5, anyP ρ5 vs, ks, es, l3.trans l5, rl5.back q6.1 we hl, anyP_noRefs q6.1, q6.2⟩
  · have e : i = ds.length := by omega
    subst e
    rw [List.drop_length] at q2
    exact .inl ⟨wd.stops H2 G2 l2 rl3.sub, k (.new (.dic ks es)) ρ2 (.ref a) G2 H2 (l1.trans l2) ⟨a, rfl, rl3⟩ q2⟩
end
/-! ## o[i] op= e -/
def getL : D → D → (D → Prop) → Prop := fun w di k => match w, di with
  | .lst xs, .int i => match atI xs i with
    | some x => k x
    | none => False
  | _, _ => False
section
variable {X : Cx} {W : WX} {ex : Ex} {o i e a b : Expr} {to ti te ta tb : TPe} {pos tpos p : Pos}
/-! ## list(range(..)), range(a, b) -/
def yLstRg (ta : TPe) : TPe := fun ρ q x => ta ρ (fun r ρ1 => cont ρ1 r fun d => match d with
  | .int n => n ≤ 16777216 ∧ -(2 ^ 62) ≤ n ∧ q (.new (.lst (rangeD 0 n))) ρ1
  | _ => False) x
theorem rg_dat {T : Tx} {G : Hp} {a b : Int} : DatAll T G (rgV a b) (rangeD a b) := by
  unfold rgV rangeD
  generalize (List.range (b - a).toNat) = l
  induction l with
  | nil => exact .nil
  | cons n l ih => exact .cons (.int _) ih
theorem ve_lstRg (hc : X.calm = true) (hg : Gl X "list") (hm : X.mg "list" = none) (hgr : Gl X "range") (hmr : X.mg "range" = none) (ha : VE X W ex a ta)
    (na : starEach [a] X.env = (false, eval a X.env) :: starEach [] X.env := by rfl) (nb : starEach [.Call (.Name "range" p) [a] [] tpos] X.env = (false, eval (.Call (.Name "range" p) [a] [] tpos) X.env) :: starEach [] X.env := by rfl) {p2 : Pos} :
    VE X W ex (.Call (.Name "list" p2) [.Call (.Name "range" p) [a] [] tpos] [] pos) (yLstRg ta) := by
  obtain ⟨_, pa, wa⟩ := ha
  refine ⟨_, pe_listRg hc hg hm (prg_1 hgr hmr pa na) nb, fun F hF => ⟨fun pd G ρ σ H Q q x rl t k w => (wa F hF).ok pd G ρ σ H _ _ _ rl t (fun r ρ1 v G1 H1 l1 p1 q1 => ?_) w⟩⟩
  obtain ⟨d, rl1, tp, q2⟩ := p1.cont q1
  cases d with
  | int n =>
    cases tp
    obtain ⟨b1, b2, q3⟩ := q2
    refine ⟨n, rfl, ⟨by omega, by omega, b2, by omega, by omega⟩, fun z hz => ?_⟩
    exact k (.new (.lst (rangeD 0 n))) ρ1 _ G1 _ l1 (ROk.post (G' := G1) (r := .new (.lst (rangeD 0 n))) rl1 (Grow.laid hz) ⟨z, rfl, hz, rl1.sub.none hz, _, upd_same, rg_dat⟩) q3
  | _ => exact q2.elim
end
end PV
namespace L2
open PySem PySem.Spec PyProof.Rows
section
variable {X : Cx}
theorem ix_dictR (hu : X.A.units + 1 < cLine) : IxR X PV.rDGetR := by
  intro value slice pins s σ H x y v u Q I rx ry h hs
  obtain ⟨a, z, rfl, g, q⟩ := h
  obtain rfl : v = Value.ref a := rx
  exact tail_any (dict_typeIs I g) PySem.F.slot_dict_getitem.lookup (d_getItem hu I g ry fun w' s3 I3 rw' => ⟨z, H, I3, rw', q⟩) hs
theorem get_dictP (hu : X.A.units + 1 < cLine) : PGet X PV.rDGetR := by
  intro pins s σ H x y v u Q I rx ry h
  obtain ⟨a, z, rfl, g, q⟩ := h
  obtain rfl : v = Value.ref a := rx
  exact d_getItem hu I g ry fun w' s3 I3 rw' => ⟨z, H, I3, rw', q⟩
def rSetDA : V → V → V → Hp → (Hp → Prop) → Prop := fun o i v H Q => ∃ a H', o = .ref a ∧ DPut H a i v H' ∧ Q H'
theorem set_dictP (hu : X.A.units + 1 < cLine) : PSet X rSetDA := by
  intro pins s σ H o i v ov iv u Q I ro ri rv h
  obtain ⟨a, H', rfl, g, q⟩ := h
  obtain rfl : ov = Value.ref a := ro
  exact d_setItem hu I g ri rv fun s4 I4 => ⟨H', I4, q⟩
theorem ix_T (hu : X.A.units + 1 < cLine) : IxR X (rTGet X.K) := by
  intro value slice pins s σ H x y v u Q I rx ry h hs
  obtain ⟨a, b, k, ks, bs, xs, i, z, rfl, rfl, hb, ha, hk, hi, hv, q⟩ := h
  obtain rfl : v = Value.ref a := rx
  cases ry
  obtain ⟨_, es, _, _, _, _, dd⟩ := dto_get I ha hk
  exact tail_any dd.typeIs PySem.F.slot_dict_getitem.lookup (t_getItem hu I hb ha hk hi hv fun w' s3 I3 rw' => ⟨z, H, I3, rw', q⟩) hs
def rSetT (K : PySem.W.Frag) : V → V → V → Hp → (Hp → Prop) → Prop := fun o i v H Q => ∃ a b H', o = .ref a ∧ i = .ref b ∧ TPut K H a b v H' ∧ Q H'
theorem set_T (hu : X.A.units + 1 < cLine) : PSet X (rSetT X.K) := by
  intro pins s σ H o i v ov iv u Q I ro ri rv h
  obtain ⟨a, b, H', rfl, rfl, g, q⟩ := h
  obtain rfl : ov = Value.ref a := ro
  cases ri
  exact t_setItem hu I g rv fun s4 I4 => ⟨H', I4, q⟩
theorem PSet.or {t t' : TSet} (h : PSet X t) (h' : PSet X t') : PSet X (fun o i v H Q => t o i v H Q ∨ t' o i v H Q) := by
  intro pins s σ H o i v ov iv u Q I ro ri rv q
  rcases q with q | q
  · exact h pins s σ H o i v ov iv u Q I ro ri rv q
  · exact h' pins s σ H o i v ov iv u Q I ro ri rv q
theorem PGet.or {t t' : V → V → Hp → VK → Prop} (h : PGet X t) (h' : PGet X t') : PGet X (fun o i H Q => t o i H Q ∨ t' o i H Q) := by
  intro pins s σ H o i ov iv Q I ro ri q
  rcases q with q | q
  · exact h pins s σ H o i ov iv Q I ro ri q
  · exact h' pins s σ H o i ov iv Q I ro ri q
theorem op_mulA : OpR X (binaryOp .Mult) (PV.rMulA X.K) := op_mul.or' op_repS
end
end L2
namespace PV
open PySem PySem.Spec PyProof.Rows L2
def D.isInt : D → Prop
  | .int _ => True
  | _ => False
def D.isStr : D → Prop
  | .str _ => True
  | _ => False
/-! ## o[i], of a list, a tuple, a dict -/
def fIxA : D → D → (R → Prop) → Prop := fun d e q => match d with
  | .dic ks ds => fDGet (.dic ks ds) e q
  | .dicT ks ds => ∃ (k : List Int) (i : Nat) (x : D), e = .tup (k.map D.int) ∧ ks[i]? = some k ∧ ds[i]? = some x ∧ q (.dat x)
  | d => fIx d e q
theorem bok_ixA {X : Cx} : BOk X (fun x y H Q => rIxA X.K x y H Q ∨ rDGetR x y H Q ∨ rTGet X.K x y H Q) fIxA := by
  refine ⟨fun G H v u d e Q q s h1 h2 f k => ?_⟩
  cases d with
  | dic ks ds => exact .inr (.inl (bok_dget.ok G H v u _ e Q q s h1 h2 f k))
  | dicT ks ds =>
    obtain ⟨kk, i, x, rfl, hi, hx, f⟩ := f
    obtain ⟨a, bs, xs, rfl, h3, h4, h5, h6⟩ := h1
    obtain ⟨b, ys, rfl, g1, g2⟩ := h2.tupN s
    have e := tup_ints g2
    subst e
    obtain ⟨z, e1, e2⟩ := h6.get hx
    exact .inr (.inr ⟨a, b, kk, ks, bs, xs, i, z, rfl, rfl, g1.t, h3, (h5.mono (Sub.seqN s)).at, hi, e1, ret_s k e2 f⟩)
  | lst ds => exact .inl (bok_ix.ok G H v u _ e Q q s h1 h2 f k)
  | tup ds => exact .inl (bok_ix.ok G H v u _ e Q q s h1 h2 f k)
  | tupU ds => exact .inl (bok_ix.ok G H v u _ e Q q s h1 h2 f k)
  | _ => exact f.elim
/-! ## o[i] = e, of a list, a dict -/
def uSet (di x : D) : D → (D → Prop) → Prop := fun w q => match w with
  | .dic ks ds => uSetD di x (.dic ks ds) q
  | .dicT ks ds => ∃ k : List Int, di = .tup (k.map D.int) ∧ ((∃ i, ks[i]? = some k ∧ q (.dicT ks (ds.set i x))) ∨ (k ∉ ks ∧ ks.length < sizeLine ∧ q (.dicT (ks ++ [k]) (ds ++ [x]))))
  | w => uSetL di x w q
def getA : D → D → (D → Prop) → Prop := fun w di k => match w with
  | .dic ks ds => ∃ ky x, keyOf? di = some ky ∧ dget ks ds ky = some x ∧ k x
  | w => getL w di k
def zAugS (f : D → D → (R → Prop) → Prop) (to ti te : TPe) : TPs := fun d ρ => to ρ (fun ro ρ1 => ti ρ1 (fun ri ρ2 => cont ρ2 (hold ri) fun di => mutAt ρ2 ro fun _ _ w => getA w di fun x => te ρ2 (fun r ρ3 => cont ρ3 r fun y => f x y fun res => match res with
  | .dat z => setAt ro ρ3 (uSet di z) d.nx
  | _ => False) d.xc) d.xc) d.xc
section
variable {X : Cx} {W : WX} {ex : Ex} {o i e a b c : Expr} {to ti te ta tb tc : TPe} {pos pos' tpos p : Pos}
theorem ve_ix (hu : X.A.units + 65 < cLine) (ha : VE X W ex a ta) (hb : VE X W ex b tb) (hs : PlainIx b := by intro _ _; rfl) : VE X W ex (.Subscript a b pos) (yB fIxA ta tb) :=
  ve_b (fun _ _ h1 h2 => pe_ix (ix_any.or ((ix_dictR (by omega)).or (ix_T (by omega)))) h1 h2 hs) bok_ixA ha hb
/-- the store of x at o[i] -/
theorem set_step {F : Fm} {G : Hp} {ρ : Rho} {σ : L2.St} {H : Hp} {o' : R} {u v : V} {di x : D} {z : V} {k : Rho → Prop} (rl : Rel X.tx F [] G ρ σ H) (h : RHold X.tx G σ u o') (dv : Dat X.tx G v x) (ti : Top X.tx G H z di) (q : setAt o' ρ (uSet di x) k) :
    (rSetL u z v H (fun H' => ∃ ρ', Rel X.tx F [] G ρ' σ H' ∧ k ρ')) ∨ rSetDA u z v H (fun H' => ∃ ρ', Rel X.tx F [] G ρ' σ H' ∧ k ρ') ∨ rSetT X.K u z v H (fun H' => ∃ ρ', Rel X.tx F [] G ρ' σ H' ∧ k ρ') := by
  obtain ⟨j, s, w, p, rfl, rfl, e1, e2, e3, e4, ob, q⟩ := mutAt_ok rl h q
  cases w with
  | lst xs =>
    cases di with
    | int n =>
      cases ti
      obtain ⟨m, em, q7⟩ := q
      obtain ⟨ys, hy, ty⟩ := ob
      exact .inl ⟨p, ys, n, m, rfl, rfl, hy, by rw [ty.length]; exact em, _, rl.mutS e1 e2 e3 (ob_lst (DatAll.set dv m ty)), q7⟩
    | _ => exact q.elim
  | dic ks ds =>
    obtain ⟨ky, ek, hsz, q7⟩ := q
    obtain ⟨ys, hy, hly, ty⟩ := ob
    cases keyOf_top ti ek
    exact .inr (.inl ⟨p, _, rfl, DPut.k hy (by rw [List.length_zip, hly, Nat.min_self]; exact hsz), _, rl.mutS e1 e2 e3 (ob_dput hly ty dv), q7⟩)
  | dicT ks ds =>
    obtain ⟨kk, rfl, q7⟩ := q
    obtain ⟨bs, xs, h3, h4, h5, h6⟩ := ob
    obtain ⟨b, ys, rfl, g1, g2⟩ := Top.tupN rl.sub ti
    have e := tup_ints g2
    subst e
    have g0 : SqN X.K G b (kk.map V.int) := by
      cases (show Dat X.tx G (.ref b) (.tup (kk.map D.int)) from ti) with
      | tup g t =>
        have := tup_ints t
        subst this
        exact g
    have hk := (h5.mono (Sub.seqN rl.sub)).at
    rcases q7 with ⟨i, hi, q7⟩ | ⟨hn, hl, q7⟩
    · exact .inr (.inr ⟨p, b, _, rfl, rfl, ⟨kk, ks, bs, xs, g1.t, h3, hk, .inl ⟨i, hi, rfl⟩⟩, _, rl.mutS e1 e2 e3 (show Ob X.tx G _ p (.dicT ks (ds.set i x)) from ⟨bs, _, upd_same, by rw [List.length_set]; exact h4, h5, DatAll.set dv i h6⟩), q7⟩)
    · exact .inr (.inr ⟨p, b, _, rfl, rfl, ⟨kk, ks, bs, xs, g1.t, h3, hk, .inr ⟨hn, hl, rfl⟩⟩, _, rl.mutS e1 e2 e3 (show Ob X.tx G _ p (.dicT (ks ++ [kk]) (ds ++ [x])) from ⟨bs ++ [b], _, upd_same, by rw [List.length_append, List.length_append, h4]; rfl, h5.append g0, h6.append (.cons dv .nil)⟩), q7⟩)
  | _ => exact q.elim
theorem vs_setI (hu : X.A.units + 65 < cLine) (ho : VE X W ex o to) (hi : VE X W ex i ti) (he : VE X W ex e te) (ha : ∀ v, assign (.Subscript o i pos') X.env v = (holding [v] (eval o X.env) >>= fun ov => holding [v, ov] (eval i X.env) >>= fun iv => standAt pos' >>= fun _ => holding [v, ov, iv] (setItem ov iv v) >>= fun _ => release [v, ov, iv] []) := by intro _; rfl)
    (hs : swapsWithSole [.Subscript o i pos'] e pos.line X.env = pure false := by rfl) (hw : swappedStores [.Subscript o i pos'] e X.env = pure none := by rfl) (h1 : (assignEach [.Subscript o i pos'] X.env).map (·.2) = [assign (.Subscript o i pos') X.env] := by rfl) :
    VS X W ex (.Assign [.Subscript o i pos'] e pos) (zPut uSet to ti te) := by
  obtain ⟨_, po, wo⟩ := ho
  obtain ⟨_, pi, wi⟩ := hi
  obtain ⟨_, pe, we⟩ := he
  refine ⟨_, ps_asg pe (pg_sub po pi (set_list.or ((set_dictP (by omega)).or (set_T (by omega)))) ha) hs hw h1, fun F hF => ⟨fun G ρ σ H D d rl t k => (we F hF).ok [] G ρ σ H _ _ _ rl t (fun r ρ1 v G1 H1 l1 p1 q1 => ?_) (k.xc σ)⟩⟩
  obtain ⟨G2, ρ2, x, l2, rl2, dt, q2⟩ := p1.fix q1
  refine (wo F hF).ok [] G2 ρ2 σ H1 _ _ _ rl2 q2 (fun ro ρ3 u G3 H3 l3 p3 q3 => ?_) (((k.xc σ).mono l1).mono l2)
  obtain ⟨G3', l3', rl3, h3⟩ := p3.hold
  refine (wi F hF).ok [] G3' ρ3 σ H3 _ _ _ rl3 q3 (fun ri ρ4 z G4 H4 l4 p4 q4 => ?_) (((((k.xc σ).mono l1).mono l2).mono l3).mono l3')
  obtain ⟨di, rl4, tp, q5⟩ := p4.cont q4
  have hl := mutAt_loc q5
  rw [hl] at h3
  have fin : ∀ H', (∃ ρ', Rel X.tx F [] G4 ρ' σ H' ∧ d.nx ρ') → D.nx σ H' := fun H' ⟨ρ', r, q⟩ => k.nx ρ' σ G4 H' ((((l1.trans l2).trans l3).trans l3').trans l4) r q
  rcases set_step rl4 (h3.mono l4) (dt.mono ((l3.trans l3').trans l4)) tp q5 with ⟨p, ys, n, m, e1, e2, e3, e4, q6⟩ | ⟨p, H', e1, e2, q6⟩ | ⟨p, b, H', e1, e2, e3, q6⟩
  · exact .inl ⟨p, ys, n, m, e1, e2, e3, e4, fin _ q6⟩
  · exact .inr (.inl ⟨p, H', e1, e2, fin _ q6⟩)
  · exact .inr (.inr ⟨p, b, H', e1, e2, e3, fin _ q6⟩)
theorem vs_augS {op : Operator} {r : V → V → Hp → VK → Prop} {f : D → D → (R → Prop) → Prop} (hu : X.A.units + 65 < cLine) (hop : OpR X (inplaceOp op) r) (ok : BOk X r f) (ho : VE X W ex o to) (hi : VE X W ex i ti) (he : VE X W ex e te)
    (ha : ∀ ov iv new, augStore i ov iv new = (do holding [new, ov, iv] (setItem ov iv new); release [new, ov, iv] []; pure .next) := by intros; rfl) : VS X W ex (.AugAssign (.Subscript o i tpos) op e pos) (zAugS f to ti te) := by
  obtain ⟨_, po, wo⟩ := ho
  obtain ⟨_, pi, wi⟩ := hi
  obtain ⟨tf, pe, we⟩ := he
  refine ⟨_, ps_augS po pi (get_listP.or (get_dictP (by omega))) pe (tip := r) hop (set_list.or ((set_dictP (by omega)).or (set_T (by omega)))) ha, fun F hF => ⟨fun G ρ σ H DD d rl t k => (wo F hF).ok [] G ρ σ H _ _ _ rl t (fun ro ρ1 u G1 H1 l1 p1 q1 => ?_) (k.xc σ)⟩⟩
  obtain ⟨G1', l1', rl1, h1⟩ := p1.hold
  refine (wi F hF).ok [] G1' ρ1 σ H1 _ _ _ rl1 q1 (fun ri ρ2 z G2 H2 l2 p2 q2 => ?_) (((k.xc σ).mono l1).mono l1')
  obtain ⟨G2', l2', rl2, h2⟩ := p2.hold
  obtain ⟨di, tpi, q3⟩ := RHold.cont rl2 h2 q2
  have hl := mutAt_loc q3
  rw [hl] at h1
  have h1' := (h1.mono l2).mono l2'
  have hz : ∀ (ρ' : Rho) (G' H' : Hp), Le G2' G' → Rel X.tx F [] G' ρ' σ H' → (di.isInt ∨ di.isStr) → Top X.tx G' H' z di := fun ρ' G' H' l' rl' sc => by
    rcases sc with sc | sc
    · cases di with
      | int n => cases tpi; exact .int n
      | _ => exact sc.elim
    · cases di with
      | str n => cases tpi; exact .str n
      | _ => exact sc.elim
  obtain ⟨j, s, w, p, rfl, rfl, e1, e2, e3, e4, ob, q4⟩ := mutAt_ok rl2 h1' q3
  have rest : ∀ (x : D) (v : V), Dat X.tx G2' v x → (di.isInt ∨ di.isStr) → (te ρ2 (fun r ρ3 => cont ρ3 r fun y => f x y fun res => match res with
      | .dat z => setAt (.loc j) ρ3 (uSet di z) d.nx
      | _ => False) d.xc) → tf σ H2 fun y H3 => r v y H3 fun zz H4 => rSetL (.ref p) z zz H4 (fun H' => DD.nx σ H') ∨ rSetDA (.ref p) z zz H4 (fun H' => DD.nx σ H') ∨ rSetT X.K (.ref p) z zz H4 (fun H' => DD.nx σ H') := fun x v dv sc q4 => (we F hF).ok [] G2' ρ2 σ H2 _ _ _ rl2 q4 (fun r3 ρ3 v3 G3 H3 l3 p3 q5 => by
        obtain ⟨y, rl3, tpy, q6⟩ := p3.cont q5
        refine ok.ok G3 H3 v v3 x y _ _ rl3.sub (Dat.top rl3.sub (dv.mono l3)) tpy q6 fun res w4 G4 H4 g rk qr => ?_
        cases res with
        | dat zz =>
          have rl4 := rl3.grow g
          have fin : ∀ H', (∃ ρ', Rel X.tx F [] G4 ρ' σ H' ∧ d.nx ρ') → DD.nx σ H' := fun H' ⟨ρ', r, q⟩ => k.nx ρ' σ G4 H' (((((l1.trans l1').trans l2).trans l2').trans l3).trans g.le) r q
          rcases set_step rl4 (show RHold X.tx G4 σ (.ref p) (.loc j) from e3) rk (hz ρ3 G4 H4 (l3.trans g.le) rl4 sc) qr with ⟨p, ys, n, m, e1, e2, e3, e4, q6⟩ | ⟨p, H', e1, e2, q6⟩ | ⟨p, b, H', e1, e2, e3, q6⟩
          · exact .inl ⟨p, ys, n, m, e1, e2, e3, e4, fin _ q6⟩
          · exact .inr (.inl ⟨p, H', e1, e2, fin _ q6⟩)
          · exact .inr (.inr ⟨p, b, H', e1, e2, e3, fin _ q6⟩)
        | _ => exact qr.elim) (((((k.xc σ).mono l1).mono l1').mono l2).mono l2')
  cases w with
  | lst xs =>
    cases di with
    | int n =>
      cases tpi
      have q4 : (match atI xs n with
        | some x => (fun x => te ρ2 (fun r ρ3 => cont ρ3 r fun y => f x y fun res => match res with
          | .dat z => setAt (.loc j) ρ3 (uSet (.int n) z) d.nx
          | _ => False) d.xc) x
        | none => False) := q4
      cases ea : atI xs n with
      | none => rw [ea] at q4; exact q4.elim
      | some x =>
        rw [ea] at q4
        obtain ⟨ys, hy, ty⟩ := ob
        obtain ⟨v, ev, dv⟩ := ty.atI ea
        exact .inl ⟨p, ys, n, v, rfl, rfl, SqL.of hy, ev, rest x v dv (.inl trivial) q4⟩
    | _ => exact q4.elim
  | dic ks ds =>
    obtain ⟨ky, x, ek, eg, q5⟩ := q4
    obtain ⟨ys, hy, hly, ty⟩ := ob
    cases keyOf_top tpi ek
    obtain ⟨g1, g2⟩ := find_zip (k := ky) ty hly.symm
    have g := dget_of (T := X.tx) (G := G2') (.inl hy) ky
    cases w : valV (ks.zip ys) ky with
    | none =>
      have eg' : ((ks.zip ds).find? fun kd => decide (kd.1 = ky)).map (·.2) = some x := eg
      rw [g2 w] at eg'
      cases eg'
    | some y =>
      obtain ⟨d', e3', dt⟩ := g1 y w
      have eg' : ((ks.zip ds).find? fun kd => decide (kd.1 = ky)).map (·.2) = some x := eg
      rw [e3'] at eg'
      cases eg'
      rw [w] at g
      refine .inr ⟨p, y, rfl, g, rest _ y dt ?_ q5⟩
      cases di with
      | int n => exact .inl trivial
      | str n => exact .inr trivial
      | _ => exact absurd ek (by simp [keyOf?])
  | _ => exact q4.elim
end
end PV
namespace PV
open PySem PySem.Spec PyProof.Rows L2
/-! ## rules in short, as the printer writes them -/
section
variable {X : Cx} {W : WX} {ex : Ex} {o i e a b c : Expr} {es : List Expr} {to ti te ta tb tc : TPe} {t : TPa} {pos apos p : Pos}
theorem ve_add (ha : VE X W ex a ta) (hb : VE X W ex b tb) : VE X W ex (.BinOp a .Add b pos) (yB fAdd ta tb) := ve_b (fun _ _ h1 h2 => pe_op op_addA h1 h2) bok_add ha hb
theorem ve_sub (ha : VE X W ex a ta) (hb : VE X W ex b tb) : VE X W ex (.BinOp a .Sub b pos) (yB fSub ta tb) := ve_b (fun _ _ h1 h2 => pe_op op_sub h1 h2) bok_sub ha hb
theorem ve_mul (ha : VE X W ex a ta) (hb : VE X W ex b tb) : VE X W ex (.BinOp a .Mult b pos) (yB fMul ta tb) := ve_b (fun _ _ h1 h2 => pe_op op_mulA h1 h2) bok_mul ha hb
theorem ve_fdiv (ha : VE X W ex a ta) (hb : VE X W ex b tb) : VE X W ex (.BinOp a .FloorDiv b pos) (yB fFdiv ta tb) := ve_b (fun _ _ h1 h2 => pe_op op_fdivN h1 h2) bok_fdiv ha hb
theorem ve_mod (ha : VE X W ex a ta) (hb : VE X W ex b tb) : VE X W ex (.BinOp a .Mod b pos) (yB fMod ta tb) := ve_b (fun _ _ h1 h2 => pe_op op_modN h1 h2) bok_mod ha hb
theorem ve_pow (ha : VE X W ex a ta) (hb : VE X W ex b tb) : VE X W ex (.BinOp a .Pow b pos) (yB fPow ta tb) := ve_b (fun _ _ h1 h2 => pe_op op_pow h1 h2) bok_pow ha hb
theorem ve_shl (ha : VE X W ex a ta) (hb : VE X W ex b tb) : VE X W ex (.BinOp a .LShift b pos) (yB fShl ta tb) := ve_b (fun _ _ h1 h2 => pe_op op_shl h1 h2) bok_shl ha hb
theorem ve_shr (ha : VE X W ex a ta) (hb : VE X W ex b tb) : VE X W ex (.BinOp a .RShift b pos) (yB fShr ta tb) := ve_b (fun _ _ h1 h2 => pe_op op_shr h1 h2) bok_shr ha hb
theorem ve_band (ha : VE X W ex a ta) (hb : VE X W ex b tb) : VE X W ex (.BinOp a .BitAnd b pos) (yB fAnd ta tb) := ve_b (fun _ _ h1 h2 => pe_op op_and h1 h2) bok_and ha hb
theorem hu64 {n : Nat} (h : X.A.units + 65 < n) : X.A.units + 64 < n := by omega
theorem opEq (hu : X.A.units + 65 < cLine) : OpR X (compareOp .Eq) (rEqD X.K) := op_eqD (hu64 hu)
theorem opNe (hu : X.A.units + 65 < cLine) : OpR X (compareOp .NotEq) (rNeD X.K) := op_neD (hu64 hu)
theorem hu65 {k : Nat} {A : Around} (hr : Room k A) : A.units + 65 < cLine := by have := hr.un; omega
/-! built-ins -/
theorem ve_len (hm : X.mg "len" = none) (ha : VE X W ex a ta) (hg : Gl X "len" := by rfl) (h1 : starEach [a] X.env = (false, eval a X.env) :: starEach [] X.env := by rfl) (hpl : (backTo pos (starEach [] X.env)).any (·.1) = false := by rfl) : VE X W ex (.Call (.Name "len" p) [a] [] pos) (yF fLen (yCons ta yNil)) :=
  ve_B call_len fok_len hg hm boot_len' (va_cons ha va_nil h1) (by decide) (by decide) h1 hpl
theorem ve_max2 (hc : X.calm = true) (hm : X.mg "max" = none) (ha : VE X W ex a ta) (hb : VE X W ex b tb) (hg : Gl X "max" := by rfl) (h1 : starEach [a, b] X.env = (false, eval a X.env) :: starEach [b] X.env := by rfl) (h2 : starEach [b] X.env = (false, eval b X.env) :: starEach [] X.env := by rfl) (hpl : (backTo pos (starEach [b] X.env)).any (·.1) = false := by rfl) : VE X W ex (.Call (.Name "max" p) [a, b] [] pos) (yF fMax2 (yCons ta (yCons tb yNil))) :=
  ve_B (call_max2 hc) fok_max2 hg hm boot_max' (va_cons ha (va_cons hb va_nil h2) h1) (by decide) (by decide) h1 hpl
theorem ve_sorted (hc : X.calm = true) (hm : X.mg "sorted" = none) (ha : VE X W ex a ta) (hg : Gl X "sorted" := by rfl) (h1 : starEach [a] X.env = (false, eval a X.env) :: starEach [] X.env := by rfl) (hpl : (backTo pos (starEach [] X.env)).any (·.1) = false := by rfl) : VE X W ex (.Call (.Name "sorted" p) [a] [] pos) (yF fSorted (yCons ta yNil)) :=
  ve_B (cr_sortedA hc) fok_sorted hg hm boot_sorted' (va_cons ha va_nil h1) (by decide) (by decide) h1 hpl
theorem ve_list (hc : X.calm = true) (hm : X.mg "list" = none) (ha : VE X W ex a ta) (hg : Gl X "list" := by rfl) (h1 : starEach [a] X.env = (false, eval a X.env) :: starEach [] X.env := by rfl) (hpl : (backTo pos (starEach [] X.env)).any (·.1) = false := by rfl) : VE X W ex (.Call (.Name "list" p) [a] [] pos) (yF fList (yCons ta yNil)) :=
  ve_Ty ((call_list_of.or' (call_list_T hc)).or' (call_list_dR hc)) fok_list hg hm boot_list' (va_cons ha va_nil h1) (by decide) (by decide) h1 hpl
theorem ve_tuple (hm : X.mg "tuple" = none) (ha : VE X W ex a ta) (hg : Gl X "tuple" := by rfl) (h1 : starEach [a] X.env = (false, eval a X.env) :: starEach [] X.env := by rfl) (hpl : (backTo pos (starEach [] X.env)).any (·.1) = false := by rfl) : VE X W ex (.Call (.Name "tuple" p) [a] [] pos) (yF fTuple (yCons ta yNil)) :=
  ve_Ty call_tuple_ofN fok_tuple hg hm boot_tuple' (va_cons ha va_nil h1) (by decide) (by decide) h1 hpl
theorem ve_int1 (hm : X.mg "int" = none) (ha : VE X W ex a ta) (hg : Gl X "int" := by rfl) (h1 : starEach [a] X.env = (false, eval a X.env) :: starEach [] X.env := by rfl) (hpl : (backTo pos (starEach [] X.env)).any (·.1) = false := by rfl) : VE X W ex (.Call (.Name "int" p) [a] [] pos) (yF fInt1 (yCons ta yNil)) :=
  ve_Ty call_int1 fok_int1 hg hm boot_int' (va_cons ha va_nil h1) (by decide) (by decide) h1 hpl
theorem ve_set0 (hm : X.mg "set" = none) (hg : Gl X "set" := by rfl) : VE X W ex (.Call (.Name "set" p) [] [] pos) (yF fSet0 yNil) := ve_Ty0 cr_set0 fok_set0 hg hm boot_set'
theorem ve_set1 (hc : X.calm = true) (hm : X.mg "set" = none) (ha : VE X W ex a ta) (hg : Gl X "set" := by rfl) (h1 : starEach [a] X.env = (false, eval a X.env) :: starEach [] X.env := by rfl) (hpl : (backTo pos (starEach [] X.env)).any (·.1) = false := by rfl) : VE X W ex (.Call (.Name "set" p) [a] [] pos) (yF fSetOf (yCons ta yNil)) :=
  ve_Ty (cr_setOf hc) fok_setOf hg hm boot_set' (va_cons ha va_nil h1) (by decide) (by decide) h1 hpl
/-! methods -/
abbrev Few (e : Expr) (es : List Expr) (X : Cx) (pos : Pos) : Prop := ((backTo pos (starEach (e :: es) X.env)).all (fun x => !x.1) && (backToKw pos (keywordEach [] X.env)).all (fun x => x.1.isSome)
      && decide ((e :: es).length + ([] : List Keyword).length + (if ([] : List Keyword).isEmpty then 0 else 1) < 30)) = true
theorem ve_append (ho : VE X W ex o to) (ha : VE X W ex e te) (hb : attributeBase o "append" X.env (eval o X.env) = eval o X.env := by rfl) (hf : Few e [] X pos := by rfl) (hl : (apos.endLine == pos.line) = true := by rfl)
    (hs : starEach [e] X.env = (false, eval e X.env) :: starEach [] X.env := by rfl) (hp : (backTo pos (starEach [] X.env)).any (·.1) = false := by rfl) : VE X W ex (.Call (.Attribute o "append" apos) [e] [] pos) (yMt mAppend to (yCons te yNil)) :=
  ve_mt (fun _ _ h1 h2 => pe_bm PySem.F.plainAttrs_list PySem.F.slot_list_append PySem.F.type_list_append mt_append h1 h2 hb hf hl hs hp) mok_append ho (va_cons ha va_nil hs)
theorem ve_popAt (ho : VE X W ex o to) (ha : VE X W ex e te) (hb : attributeBase o "pop" X.env (eval o X.env) = eval o X.env := by rfl) (hf : Few e [] X pos := by rfl) (hl : (apos.endLine == pos.line) = true := by rfl)
    (hs : starEach [e] X.env = (false, eval e X.env) :: starEach [] X.env := by rfl) (hp : (backTo pos (starEach [] X.env)).any (·.1) = false := by rfl) : VE X W ex (.Call (.Attribute o "pop" apos) [e] [] pos) (yMt mPopAt to (yCons te yNil)) :=
  ve_mt (fun _ _ h1 h2 => pe_bm PySem.F.plainAttrs_list PySem.F.slot_list_pop PySem.F.type_list_pop mt_popAt h1 h2 hb hf hl hs hp) mok_popAt ho (va_cons ha va_nil hs)
theorem ve_tindex (ho : VE X W ex o to) (ha : VE X W ex e te) (hb : attributeBase o "index" X.env (eval o X.env) = eval o X.env := by rfl) (hf : Few e [] X pos := by rfl) (hl : (apos.endLine == pos.line) = true := by rfl)
    (hs : starEach [e] X.env = (false, eval e X.env) :: starEach [] X.env := by rfl) (hp : (backTo pos (starEach [] X.env)).any (·.1) = false := by rfl) : VE X W ex (.Call (.Attribute o "index" apos) [e] [] pos) (yRm isTup fIndexT to (yCons te yNil)) :=
  ve_tm (fun _ _ h1 h2 => pe_tm PySem.F.plainAttrs_tuple PySem.F.slot_tuple_index PySem.F.type_tuple_index mt_tup_indexI h1 h2 hb hf hl hs hp) mrok_indexT ho (va_cons ha va_nil hs)
end
/-! ## defs that are called -/
structure FnG (P : Program) (w : World) (K : PySem.W.Frag) (mg : Str → Option Value) (base : Heap) (x : Str) (f : Addr) (k : Nat) (ps : List Str) (sp : PSp) (dvs : List V) (dds : List D) : Prop where
  g : mg x = some (.ref f)
  kp : PySem.W.keepIn K (.ref f) = true
  ex : ∃ fd ds, FnOk P w K mg base (L2.CX P w) k f fd ps (spOf ⟨mg, K, w⟩ sp) ∧ Binds K fd ps ds ∧ Vals dvs ds
  dd : ∀ G, DatAll ⟨mg, K, w⟩ G dvs dds
/-- a method of the class c at C -/
structure FnM (P : Program) (w : World) (K : PySem.W.Frag) (mg : Str → Option Value) (base : Heap) (c m : Str) (C f : Addr) (k : Nat) (ps : List Str) (sp : PSp) : Prop where
  g : mg c = some (.ref C)
  cl : Cls K C
  hm : Meth K C m f
  ex : ∃ fd, FnOk P w K mg base (L2.CX P w) k f fd ps (spOf ⟨mg, K, w⟩ sp) ∧ Binds K fd ps []
/-- __len__ -/
structure FnL (P : Program) (w : World) (K : PySem.W.Frag) (mg : Str → Option Value) (base : Heap) (c : Str) (C f : Addr) (k : Nat) (ps : List Str) (sp : PSp) : Prop where
  g : mg c = some (.ref C)
  hs : PySem.W.findIn K (.ref C) "__len__" = some (some (.ref f))
  hf : PySem.W.isFn K (.ref f) = true
  ex : ∃ fd, FnOk P w K mg base (L2.CX P w) k f fd ps (spOf ⟨mg, K, w⟩ sp) ∧ Binds K fd ps []
/-- C(..) -/
structure FnI (P : Program) (w : World) (K : PySem.W.Frag) (mg : Str → Option Value) (base : Heap) (c : Str) (C f : Addr) (k : Nat) (ps : List Str) (sp : PSp) : Prop where
  g : mg c = some (.ref C)
  mkr : Mk K C f
  ex : ∃ fd, FnOk P w K mg base (L2.CX P w) k f fd ps (spOf ⟨mg, K, w⟩ sp) ∧ Binds K fd ps []
section
variable {X : Cx} {W : WX} {ex : Ex} {o e : Expr} {es : List Expr} {to te : TPe} {t : TPa} {sp : PSp} {dvs : List V} {dds : List D} {pos apos p : Pos} {k : Nat} {f C : Addr} {ps : List Str} {x m c : Str}
theorem vg_call (mask : List Bool) (F : FnG X.prog X.w X.K X.mg X.base x f k ps sp dvs dds) (hr : Room k X.A) (tk : Takes X W) (ha : VA X W ex (e :: es) t) (hg : Gl X x := by rfl) (hdb : (x == ("__debug__" : Str)) = false := by decide)
    (he : starEach (e :: es) X.env = (false, eval e X.env) :: starEach es X.env := by rfl) (hpl : (backTo pos (starEach es X.env)).any (·.1) = false := by rfl) : VE X W ex (.Call (.Name x p) (e :: es) [] pos) (yCall sp mask dds t) := by
  obtain ⟨fd, ds, F1, b, v⟩ := F.ex
  exact ve_call mask F1 hr hg F.g F.kp b v F.dd tk ha hdb he hpl
theorem dd0 {T : Tx} (G : Hp) : DatAll T G [] [] := .nil
theorem vg_meth0 {pl : Sem Bool} (F : FnM X.prog X.w X.K X.mg X.base c m C f k ps sp) (hr : Room k X.A) (tk : Takes X W) (ho : VE X W ex o to)
    (ht : eval (.Call (.Attribute o m apos) [] [] pos) X.env = (eval o X.env >>= fun ov => standAt apos.atName >>= fun _ => holding [ov] (getMethod ov m pl) >>= fun z => callWith pos z.1 z.2 (backTo pos (starEach [] X.env)) (backToKw pos (keywordEach [] X.env))) := by rfl) :
    VE X W ex (.Call (.Attribute o m apos) [] [] pos) (yMeth c m sp [] [] to yNil) := by
  obtain ⟨fd, F1, b⟩ := F.ex
  exact ve_meth0 F.g F.cl F.hm F1 hr b .nil dd0 tk ho ht
theorem vg_lenO (F : FnL X.prog X.w X.K X.mg X.base c C f k ps sp) (hr : Room (k + 1) X.A) (hm : X.mg "len" = none) (ho : VE X W ex o to) (hg : Gl X "len" := by rfl)
    (h1 : starEach [o] X.env = (false, eval o X.env) :: starEach [] X.env := by rfl) (hpl : (backTo pos (starEach [] X.env)).any (·.1) = false := by rfl) : VE X W ex (.Call (.Name "len" p) [o] [] pos) (yLenO c sp to) := by
  obtain ⟨fd, F1, b⟩ := F.ex
  exact ve_lenO F.g F.hs F.hf F1 b hr hg hm ho h1 hpl
theorem vg_make (mask : List Bool) (F : FnI X.prog X.w X.K X.mg X.base x C f k ps sp) (hr : Room (k + 1) X.A) (tk : Takes X W) (ha : VA X W ex (e :: es) t) (hg : Gl X x := by rfl) (hdb : (x == ("__debug__" : Str)) = false := by decide)
    (he : starEach (e :: es) X.env = (false, eval e X.env) :: starEach es X.env := by rfl) (hpl : (backTo pos (starEach es X.env)).any (·.1) = false := by rfl) : VE X W ex (.Call (.Name x p) (e :: es) [] pos) (yMake x sp mask [] t) := by
  obtain ⟨fd, F1, b⟩ := F.ex
  exact ve_make mask F.mkr F1 hr hg F.g b .nil dd0 tk ha hdb he hpl
end
end PV
namespace L2
open PySem PySem.Spec PyProof.Rows
section
variable {X : Cx}
/-- name = {k: v for ..} on one line, the name a local one -/
theorem ps_setDc {i : Nat} {y : Str} {py : Pos} {kx vx tg iter : Expr} {ifs : List Expr} {scope : Scope} {own : List (Str × Nat)} {pos spos : Pos} {wi : TI} {g : TG} {tt : TT} {tk tv : TE} (hc : X.calm = true) (hN : X.N.Nodup) (hy : X.N[i]? = some y) (hyl : X.env.scope.names.lookup y = some .local)
    (hsw : swapsWith (.DictComp kx vx [⟨tg, iter, ifs, 0⟩] scope pos) (some (.Name y py)) spos.line X.env = pure true) (hi : PI X tg iter wi) (ok : BlkOk X.N X.env.scope scope own)
    (hg : ∀ (s : Shared) (H : Hp) (C : Addr) (cl : List (Str × Addr)) (fp : List Addr), PG (X.blk s H scope (compEnvC scope cl C X.env) fp) tg g) (ht : ∀ (s : Shared) (H : Hp) (C : Addr) (cl : List (Str × Addr)) (fp : List Addr), PTs (X.blk s H scope (compEnvC scope cl C X.env) fp) ifs tt)
    (hk : ∀ (s : Shared) (H : Hp) (C : Addr) (cl : List (Str × Addr)) (fp : List Addr), PE (X.blk s H scope (compEnvC scope cl C X.env) fp) kx tk)
    (he : ∀ (s : Shared) (H : Hp) (C : Addr) (cl : List (Str × Addr)) (fp : List Addr), PE (X.blk s H scope (compEnvC scope cl C X.env) fp) vx tv) (hs : ∀ x, foldedSetIterable iter X.env x = pure x := by intro _; rfl) :
    PS X (.Assign [.Name y py] (.DictComp kx vx [⟨tg, iter, ifs, 0⟩] scope pos) spos) (tAsg (tDc wi g tt tk tv (own.map (·.2))) (gName i)) := by
  refine ⟨fun pins s σ H D I h => ?_⟩
  rw [exec_Assign_Name_used _ _ _ _ hsw]
  refine wpAny_bind (wpAny_standAt (wpAny_bind ?_))
  show wpAny _ X.A (do let _ ← comprehension (.DictComp kx vx [⟨tg, iter, ifs, 0⟩] scope pos) scope X.env (firstIterPos [⟨tg, iter, ifs, 0⟩] pos) newDict false (eval iter X.env) (some (assign (.Name y py) X.env))) _ _ s
  have h : tDc wi g tt tk tv (own.map (·.2)) σ H (fun x H1 => gName i x σ H1 D.nx) := h
  refine wpAny_bind (thn (dc_core (Qf := fun _ s' => SP X pins D .next s') hc hN I hi ok hg ht hk he hs h fun L C s' m H' I' q hn f => ?_) fun _ s' hq => wpAny_pure (wpAny_pure hq))
  show wpAny _ _ (assign (.Name y py) X.env (.ref L)) _ _ _
  refine wpAny_assign_Name (store_ok2 (v := V.ref L) I' hN hy (.inl hyl) rfl (fun s2 I2 ⟨a, sb, ha⟩ => ?_) (.inr hyl))
  obtain ⟨f0, f1, f2, f3, f4, f5⟩ := f
  have haC : C ≠ a := by
    rcases ha with z | z
    · rw [z]; exact f1
    · exact fun e => f4 y a z e.symm
  refine ⟨m, hn.sameBut sb haC, fun h3 sb3 => ?_⟩
  exact ⟨_, H', I2.turned (t' := s2.toks) (fun b o hb e => (sb3.2 b hb).trans e) f0 f1 f3 f4 f5, q⟩
theorem sw_trueD {kx vx : Expr} {gs : List Comprehension} {scope : Scope} {pos py : Pos} {y : Str} {l : Nat} {env : Env} (hk : env.scope.kind = .function) (hy : env.scope.names.lookup y = some .local) (hl : (py.line == pos.line) = true)
    (ha : (scope.names.any fun (n, k) => n == y && (k == .local || k == .cell)) = false) : swapsWith (.DictComp kx vx gs scope pos) (some (.Name y py)) l env = pure true := by
  have ky : env.kindOf y = some .local := hy
  have hb : env.blockKind = .function := by unfold Env.blockKind; rw [hk]; rfl
  unfold swapsWith
  simp only [hb, ky, ha, Expr.pos, hl]
  rfl
end
end L2
namespace PV
open PySem PySem.Spec PyProof.Rows L2
theorem vs_setDc {X : Cx} {W : WX} {ex : Ex} {tg iter kx vx : Expr} {ifs : List Expr} {scope : Scope} {own : List (Str × Nat)} {ti : TPi} {g : TPg} {tt : TPt} {tk te : TPe} {js : List Nat} {pos : Pos} {i : Nat} {y : Str} {py spos : Pos} (hc : X.calm = true) (hN : X.N.Nodup) (hy : X.N[i]? = some y) (hyl : X.env.scope.names.lookup y = some .local)
    (hsw : swapsWith (.DictComp kx vx [⟨tg, iter, ifs, 0⟩] scope pos) (some (.Name y py)) spos.line X.env = pure true) (hi : VI X W ex tg iter ti) (ok : BlkOk X.N X.env.scope scope own) (hjs : ∀ j ∈ js, j ∈ own.map (·.2))
    (hg : ∀ (s : Shared) (H : Hp) (C : Addr) (cl : List (Str × Addr)) (fp : List Addr), VG (X.blk s H scope (compEnvC scope cl C X.env) fp) tg js g) (ht : ∀ (s : Shared) (H : Hp) (C : Addr) (cl : List (Str × Addr)) (fp : List Addr), VTs (X.blk s H scope (compEnvC scope cl C X.env) fp) W0 ex ifs tt)
    (hk : ∀ (s : Shared) (H : Hp) (C : Addr) (cl : List (Str × Addr)) (fp : List Addr), VE (X.blk s H scope (compEnvC scope cl C X.env) fp) W0 ex kx tk)
    (he : ∀ (s : Shared) (H : Hp) (C : Addr) (cl : List (Str × Addr)) (fp : List Addr), VE (X.blk s H scope (compEnvC scope cl C X.env) fp) W0 ex vx te) (hs : ∀ x, foldedSetIterable iter X.env x = pure x := by intro _; rfl) :
    VS X W ex (.Assign [.Name y py] (.DictComp kx vx [⟨tg, iter, ifs, 0⟩] scope pos) spos) (zSet i (yDc ti g tt tk te (own.map (·.2)))) := by
  obtain ⟨_, p1, w1⟩ := hi
  exact ⟨_, ps_setDc hc hN hy hyl hsw p1 ok (fun s H C cl fp => (hg s H C cl fp).can) (fun s H C cl fp => (ht s H C cl fp).can) (fun s H C cl fp => (hk s H C cl fp).can) (fun s H C cl fp => (he s H C cl fp).can) hs, fun F hF => vsw_set (dc_w hF (w1 F hF) hjs)⟩
def fAddI := fI0 fun i j => .int (i + j)
theorem bok_addI {X : Cx} : BOk X (rI0 fun i j => .int (i + j)) fAddI := bok_i0 (g := fun i j => .int (i + j)) fun _ _ _ => .int _
/-! ## a call with one new object, by reference: f([..]) -/
theorem Rel.call1 {T : Tx} {F : Fm} {pd : List (Addr × D)} {G G' H H' : Hp} {ρ : Rho} {σ : L2.St} {p : Addr} {d d' : D} (rl : Rel T F ((p, d) :: pd) G ρ σ H) (cp : CallPost T G H G' H' [p] [d']) : Rel T F pd G' ρ σ H' := by
  obtain ⟨gp, hp, ob⟩ := rl.pds (p, d) List.mem_cons_self
  have gp : G p = none := gp
  have hp : F.H0 p = none := hp
  have ob : Ob T G H p d := ob
  have nd := List.nodup_cons.mp rl.pnd
  have one : ∀ {a : Addr}, a ∉ [p] → a ≠ p := fun {a} h e => h (by simp [e])
  have keepG : ∀ a o, G a = some o → H' a = some o ∨ LockOf o H' a := fun a o e => by
    have np : a ∉ [p] := fun z => by rw [List.mem_singleton.mp z, gp] at e; cases e
    rcases rl.sub a o e with z | ⟨ob, kvs, eo, z⟩
    · rcases cp.keep a o z np with z | ⟨_, z⟩
      · exact .inl z
      · exact .inr z
    · rcases cp.keep a _ z np with z | ⟨_, ob', kvs', w, _⟩
      · exact .inr ⟨ob, kvs, eo, z⟩
      · exact (LkT.no_frz w).elim
  have objs : ∀ q d, G q = none → Ob T G H q d → q ≠ p → G' q = none ∧ Ob T G' H' q d := fun q d g ob np => by
    have np : q ∉ [p] := fun z => np (List.mem_singleton.mp z)
    obtain ⟨o, e⟩ := ob.some
    refine ⟨?_, ?_⟩
    · cases w : G' q with
      | none => rfl
      | some u =>
        have z := (cp.new q u w g).1
        rw [e] at z; cases z
    · rcases cp.keep q o e np with z | ⟨z, _⟩
      · exact ob.mono cp.le (z.trans e.symm)
      · rw [g] at z; cases z
  refine ⟨rl.len, fun a o e => ?_, rl.old.trans cp.le, fun a o n e => ?_, fun a o e m => ?_, fun j t h => ?_, rl.apart, fun q hq => ?_, nd.2, fun i s h m q hq => rl.pap i s h m q (List.mem_cons_of_mem _ hq), fun q hq => ?_, rl.rfs⟩
  · cases g : G a with
    | some u =>
      have := cp.le a u g
      rw [e] at this
      cases this
      exact keepG a o g
    | none => exact (cp.new a o e g).2
  · cases g : G a with
    | some u => exact rl.new a u n g
    | none => exact rl.h0 (cp.new a o e g).1
  · have np : a ∉ [p] := fun z => by rw [List.mem_singleton.mp z, hp] at e; cases e
    rcases rl.keep a o e m with z | ⟨z0, ob, kvs, eo, z⟩
    · rcases cp.keep a o z np with z | ⟨z1, z⟩
      · exact .inl z
      · refine .inr ⟨?_, z⟩
        cases w : F.G0 a with
        | none =>
          have := rl.new a o w z1
          rw [e] at this; cases this
        | some u =>
          have := rl.old a u w
          rw [z1] at this
          cases this
          rfl
    · rcases cp.keep a _ z np with z | ⟨_, ob', kvs', w, _⟩
      · exact .inr ⟨z0, ob, kvs, eo, z⟩
      · exact (LkT.no_frz w).elim
  · have k := rl.slot j t h
    cases t with
    | any => trivial
    | frz d => obtain ⟨v, e, dt⟩ := k; exact ⟨v, e, dt.mono cp.le⟩
    | par d => obtain ⟨v, e, dt⟩ := k; exact ⟨v, e, dt⟩
    | fre c d => obtain ⟨v, e, dt, f⟩ := k; exact ⟨v, e, dt.mono cp.le, f.mono cp.le⟩
    | own d =>
      obtain ⟨q, e, g, z, ob⟩ := k
      obtain ⟨a, b⟩ := objs q d g ob (fun w => rl.pap j _ h rfl (p, _) List.mem_cons_self (by rw [e, w]))
      exact ⟨q, e, a, z, b⟩
    | ref d =>
      obtain ⟨q, e, z, g, ob⟩ := k
      obtain ⟨a, b⟩ := objs q d g ob (fun w => rl.pap j _ h rfl (p, _) List.mem_cons_self (by rw [e, w]))
      exact ⟨q, e, z, a, b⟩
    | exc f d =>
      obtain ⟨a, dd, v, e1, e2, e3, e4⟩ := k
      have ndd : dd ∉ [p] := fun z => Ob.noXd ob (by rw [← List.mem_singleton.mp z]; exact e3)
      rcases cp.keep dd _ e3 ndd with z | ⟨_, _, _, w, _⟩
      · exact ⟨a, dd, v, e1, e2, z, e4.mono cp.le⟩
      · exact (LkT.no_xd w).elim
  · obtain ⟨g, z, ob⟩ := rl.pds q (List.mem_cons_of_mem _ hq)
    obtain ⟨a, b⟩ := objs q.1 q.2 g ob (fun w => nd.1 (List.mem_map.mpr ⟨q, hq, w⟩))
    exact ⟨a, z, b⟩
  · obtain ⟨z1, z2, ob', kvs, z3⟩ := rl.lck q hq
    have np : q.1 ∉ [p] := fun z => z2 (by rw [List.mem_singleton.mp z]; exact gp)
    refine ⟨?_, fun z => ?_, ob', kvs, z3⟩
    · rcases cp.keep q.1 _ z1 np with z | ⟨_, ob2, kvs2, w, _⟩
      · exact z
      · rw [z3] at w; exact (LkT.no_frz w).elim
    · cases g : G q.1 with
      | none => exact z2 g
      | some u =>
        have := cp.le _ u g
        rw [z] at this; cases this
def yCallN (sp : PSp) (te : TPe) : TPe := fun ρ q x => te ρ (fun r ρ1 => match r with
  | .new d => sp [.ref d] (fun r _ => match r with
    | .dat d => q (.dat d) ρ1
    | _ => False) (fun e _ => x e ρ1)
  | _ => False) x
end PV
/-! ## slots that no statement reads any more are forgotten at a loop's head; loops by invariants -/
namespace PV
open PySem PySem.Spec PyProof.Rows L2
def fgS : Sl → Sl
  | .ref d => .ref d
  | _ => .any
def fgM : List Bool → Rho → Rho
  | true :: m, s :: ρ => fgS s :: fgM m ρ
  | false :: m, s :: ρ => s :: fgM m ρ
  | _, ρ => ρ
theorem fgS_mut {s : Sl} (h : (fgS s).mut = true) : fgS s = s := by cases s <;> first | rfl | cases h
theorem fgM_len : ∀ {m : List Bool} {ρ : Rho}, (fgM m ρ).length = ρ.length
  | [], ρ => by cases ρ <;> rfl
  | true :: m, [] => rfl
  | false :: m, [] => rfl
  | true :: m, s :: ρ => congrArg (· + 1) (fgM_len (m := m) (ρ := ρ))
  | false :: m, s :: ρ => congrArg (· + 1) (fgM_len (m := m) (ρ := ρ))
theorem fgM_get : ∀ {m : List Bool} {ρ : Rho} {i : Nat} {s : Sl}, (fgM m ρ)[i]? = some s → ∃ t, ρ[i]? = some t ∧ (s = t ∨ s = fgS t)
  | [], ρ, i, s, h => by cases ρ <;> exact ⟨s, h, .inl rfl⟩
  | true :: m, [], i, s, h => by simp [fgM] at h
  | false :: m, [], i, s, h => by simp [fgM] at h
  | true :: m, t :: ρ, 0, s, h => ⟨t, rfl, .inr (by simpa [fgM] using h.symm)⟩
  | false :: m, t :: ρ, 0, s, h => ⟨t, rfl, .inl (by simpa [fgM] using h.symm)⟩
  | true :: m, t :: ρ, i + 1, s, h => by
    obtain ⟨u, a, b⟩ := fgM_get (m := m) (ρ := ρ) (i := i) (s := s) (by simpa [fgM] using h)
    exact ⟨u, by simpa using a, b⟩
  | false :: m, t :: ρ, i + 1, s, h => by
    obtain ⟨u, a, b⟩ := fgM_get (m := m) (ρ := ρ) (i := i) (s := s) (by simpa [fgM] using h)
    exact ⟨u, by simpa using a, b⟩
theorem fgM_ref : ∀ {m : List Bool} {ρ : Rho} {i : Nat} {d : D}, ρ[i]? = some (.ref d) → (fgM m ρ)[i]? = some (.ref d)
  | [], ρ, i, s, h => by cases ρ <;> exact h
  | true :: m, [], i, s, h => by simp at h
  | false :: m, [], i, s, h => by simp at h
  | true :: m, t :: ρ, 0, d, h => by
    have h : t = .ref d := by simpa using h
    subst h
    rfl
  | false :: m, t :: ρ, 0, d, h => by simpa [fgM] using h
  | true :: m, t :: ρ, i + 1, d, h => by
    have := fgM_ref (m := m) (ρ := ρ) (i := i) (d := d) (by simpa using h)
    simpa [fgM] using this
  | false :: m, t :: ρ, i + 1, d, h => by
    have := fgM_ref (m := m) (ρ := ρ) (i := i) (d := d) (by simpa using h)
    simpa [fgM] using this
section
variable {T : Tx} {F : Fm} {pd : List (Addr × D)} {G H : Hp} {ρ : Rho} {σ : L2.St}
theorem Rel.fgM (rl : Rel T F pd G ρ σ H) (m : List Bool) : Rel T F pd G (PV.fgM m ρ) σ H := by
  have mutt : ∀ {i : Nat} {s : Sl}, (PV.fgM m ρ)[i]? = some s → s.mut = true → ρ[i]? = some s := fun {i s} h hm => by
    obtain ⟨t, e, z⟩ := fgM_get h
    rcases z with rfl | rfl
    · exact e
    · rw [fgS_mut hm]; exact e
  refine ⟨by rw [fgM_len]; exact rl.len, rl.sub, rl.old, rl.new, rl.keep, fun i s h => ?_, fun i j s t p h1 h2 m1 m2 => rl.apart i j s t p (mutt h1 m1) (mutt h2 m2) m1 m2, rl.pds, rl.pnd, fun i s h m' => rl.pap i s (mutt h m') m', rl.lck, fun q hq => ?_⟩
  · obtain ⟨t, e, z⟩ := fgM_get h
    rcases z with rfl | rfl
    · exact rl.slot i s e
    · cases t with
      | ref d => exact rl.slot i _ e
      | _ => trivial
  · obtain ⟨e1, d, e2⟩ := rl.rfs q hq
    exact ⟨e1, d, fgM_ref e2⟩
end
/-- a body behind which slots are forgotten -/
def zBF (m : List Bool) (tb : TPs) : TPs := fun d ρ => tb { d with nx := fun ρ => d.nx (fgM m ρ), ct := fun ρ => d.ct (fgM m ρ) } ρ
def zForF (m : List Bool) (ti : TPi) (g : TPg) (tb : TPs) : TPs := fun d ρ => ti ρ (fun ds ρ1 => zForL g (zBF m tb) d ds (fgM m ρ1)) d.xc
def zWhileF (m : List Bool) (c : TPt) (tb : TPs) : TPs := fun d ρ => ∃ n, zWhileN c (zBF m tb) d n (fgM m ρ)
section
variable {X : Cx} {W : WX} {ex : Ex} {tg iter c : Expr} {body : List Stmt} {ti : TPi} {g : TPg} {tb : TPs} {tc : TPt} {js : List Nat} {pos : Pos}
theorem vss_bf (m : List Bool) (hb : VSs X W ex body tb) : VSs X W ex body (zBF m tb) := by
  obtain ⟨ts, p, w⟩ := hb
  refine ⟨ts, p, fun F hF => ⟨fun G ρ σ H D d rl t k => (w F hF).ok G ρ σ H D _ rl t ⟨fun ρ' σ' G' H' l rl' q => k.nx _ σ' G' H' l (rl'.fgM m) q, k.bk, fun ρ' σ' G' H' l rl' q => k.ct _ σ' G' H' l (rl'.fgM m) q, k.rt, k.xc⟩⟩⟩
/-- an entry at which slots are forgotten -/
theorem vi_fg (m : List Bool) (hi : VI X W ex tg iter ti) : VI X W ex tg iter (fun ρ q x => ti ρ (fun ds ρ1 => q ds (fgM m ρ1)) x) := by
  obtain ⟨wi, p, w⟩ := hi
  exact ⟨wi, p, fun F hF => ⟨fun pd G ρ σ H R q x rl t k wk => (w F hF).ok pd G ρ σ H R _ x rl t (fun ds ρ1 G1 H1 J l rl1 wd q1 => k ds _ G1 H1 J l (rl1.fgM m) wd q1) wk⟩⟩
theorem vs_forF (m : List Bool) (hp : PassesOwn (model X.prog X.w) X.A X.env X.xe) (hc : X.calm = true) (hi : VI X W ex tg iter ti) (hg : VG X tg js g) (hb : VSs X W ex body tb)
    (hs : ∀ x, foldedSetIterable iter X.env x = pure x := by intro _; rfl) : VS X W ex (.For tg iter body [] pos) (zForF m ti g tb) := vs_for hp hc (vi_fg m hi) hg (vss_bf m hb) hs
theorem vs_whileF (m : List Bool) (hp : PassesOwn (model X.prog X.w) X.A X.env X.xe) (hc : VT X W ex c tc) (hb : VSs X W ex body tb) : VS X W ex (.While c body [] pos) (zWhileF m tc tb) := by
  obtain ⟨ts, p, w⟩ := vs_while (pos := pos) hp hc (vss_bf m hb)
  exact ⟨ts, p, fun F hF => ⟨fun G ρ σ H D d rl ⟨n, t⟩ k => (w F hF).ok G _ σ H D d (rl.fgM m) ⟨n, t⟩ k⟩⟩
end
/-! ### invariants -/
theorem for_inv {g : TPg} {tb : TPs} {E : PEnds} {ρ : Rho} (I : Nat → Rho → Prop) : ∀ {ds : List D}, I 0 ρ →
    (∀ k x ρ, ds[k]? = some x → I k ρ → ∀ N : Rho → Prop, (∀ ρ', I (k + 1) ρ' → N ρ') → g x ρ fun ρ1 => tb { E with nx := N, ct := N, bk := E.nx } ρ1) →
    (∀ ρ, I ds.length ρ → E.nx ρ) → zForL g tb E ds ρ := by
  intro ds h0 hs hn
  have key : ∀ (r : List D) (k : Nat) (ρ : Rho), I k ρ → (∀ j x, r[j]? = some x → ds[k + j]? = some x) → k + r.length = ds.length → zForL g tb E r ρ := by
    intro r
    induction r with
    | nil =>
      intro k ρ hI _ hl
      have : k = ds.length := by simpa using hl
      subst this
      exact hn ρ hI
    | cons x r ih =>
      intro k ρ hI hd hl
      refine hs k x ρ (by simpa using hd 0 x rfl) hI _ fun ρ' h' => ih (k + 1) ρ' h' (fun j y e => ?_) (by simp at hl; omega)
      have := hd (j + 1) y (by simpa using e)
      rw [show k + 1 + j = k + (j + 1) by omega]
      exact this
  exact key ds 0 ρ h0 (fun j x e => by simpa using e) (by simp)
theorem forF_inv {m : List Bool} {g : TPg} {tb : TPs} {E : PEnds} {ρ : Rho} (I : Nat → Rho → Prop) {ds : List D} (h0 : I 0 ρ)
    (hs : ∀ k x ρ, ds[k]? = some x → I k ρ → ∀ N : Rho → Prop, (∀ ρ', I (k + 1) ρ' → N ρ') → g x ρ fun ρ1 => tb { E with nx := fun ρ => N (fgM m ρ), ct := fun ρ => N (fgM m ρ), bk := E.nx } ρ1)
    (hn : ∀ ρ, I ds.length ρ → E.nx ρ) : zForL g (zBF m tb) E ds ρ := for_inv I h0 (fun k x ρ e i N hN => hs k x ρ e i N hN) hn
theorem while_inv {c : TPt} {tb : TPs} {E : PEnds} {ρ : Rho} (I : Nat → Rho → Prop) (n : Nat) (h0 : I n ρ)
    (hs : ∀ n ρ, I n ρ → ∀ N : Rho → Prop, (∀ m ρ', m < n → I m ρ' → N ρ') → c ρ (fun b ρ1 => if b = true then tb { E with nx := N, ct := N, bk := E.nx } ρ1 else E.nx ρ1) E.xc) : ∃ n, zWhileN c tb E n ρ := by
  have key : ∀ (k n : Nat) (ρ : Rho), n < k → I n ρ → zWhileN c tb E k ρ := by
    intro k
    induction k with
    | zero => intro n ρ h; omega
    | succ k ih => exact fun n ρ h hI => hs n ρ hI _ fun m ρ' hm h' => ih m ρ' (by omega) h'
  exact ⟨n + 1, key (n + 1) n ρ (Nat.lt_succ_self n) h0⟩
theorem whileF_inv {m : List Bool} {c : TPt} {tb : TPs} {E : PEnds} {ρ : Rho} (I : Nat → Rho → Prop) (n : Nat) (h0 : I n (fgM m ρ))
    (hs : ∀ n ρ, I n ρ → ∀ N : Rho → Prop, (∀ m ρ', m < n → I m ρ' → N ρ') → c ρ (fun b ρ1 => if b = true then tb { E with nx := fun ρ => N (fgM m ρ), ct := fun ρ => N (fgM m ρ), bk := E.nx } ρ1 else E.nx ρ1) E.xc) : zWhileF m c tb E ρ :=
  while_inv I n h0 hs
/-- a comprehension's list -/
theorem lc_inv {g : TPg} {tt : TPt} {te : TPe} {vs : List Nat} {ρ : Rho} {q : List D → Rho → Prop} (I : Nat → List D → Rho → Prop) {ds : List D} (h0 : I 0 [] ρ)
    (hs : ∀ k x acc ρ, ds[k]? = some x → I k acc ρ → ∀ (K : D → Rho → Prop) (L : Rho → Prop), (∀ d ρ', acc.length < sizeLine → noRefs ρ' vs = true → I (k + 1) (acc ++ [d]) (anyP ρ' vs) → K d ρ') → (∀ ρ', noRefs ρ' vs = true → I (k + 1) acc (anyP ρ' vs) → L ρ') →
      g x (anyP ρ vs) fun ρ1 => tt ρ1 (fun b ρ2 => if b = true then te ρ2 (fun res ρ3 => fix ρ3 res K) (fun _ _ => False) else L ρ2) fun _ _ => False)
    (hn : ∀ acc ρ, I ds.length acc ρ → q acc ρ) : yLcL g tt te vs ds [] ρ q := by
  have key : ∀ (r : List D) (k : Nat) (acc : List D) (ρ : Rho), I k acc ρ → (∀ j x, r[j]? = some x → ds[k + j]? = some x) → k + r.length = ds.length → yLcL g tt te vs r acc ρ q := by
    intro r
    induction r with
    | nil =>
      intro k acc ρ hI _ hl
      have : k = ds.length := by simpa using hl
      subst this
      exact hn acc ρ hI
    | cons x r ih =>
      intro k acc ρ hI hd hl
      have hd' : ∀ j y, r[j]? = some y → ds[k + 1 + j]? = some y := fun j y e => by
        have := hd (j + 1) y (by simpa using e)
        rw [show k + 1 + j = k + (j + 1) by omega]
        exact this
      have hl' : k + 1 + r.length = ds.length := by simp at hl; omega
      unfold yLcL
      exact hs k x acc ρ (by simpa using hd 0 x rfl) hI _ _ (fun d ρ' a b c => ⟨a, b, ih (k + 1) _ _ c hd' hl'⟩) fun ρ' b c => ⟨b, ih (k + 1) _ _ c hd' hl'⟩
  exact key ds 0 [] ρ h0 (fun j x e => by simpa using e) (by simp)
end PV
namespace L2
open PySem PySem.Spec PyProof.Rows
/-- xs[::c] -/
def stepL {α : Type} (xs : List α) (c : Int) : List α := (sliceRange (sliceBounds none none (some c) xs.length).1 (sliceBounds none none (some c) xs.length).2.1 (sliceBounds none none (some c) xs.length).2.2).filterMap (xs[·]?)
end L2
namespace PV
open PySem PySem.Spec PyProof.Rows L2
/-! ## xs[::c] -/
def fStep (c : Int) : D → (R → Prop) → Prop := fun d q => match d with
  | .lst ds => q (.new (.lst (stepL ds c)))
  | _ => False
end PV
namespace PV
open PySem PySem.Spec PyProof.Rows L2
/-! ## {e1: e2}, the key a tuple of ints -/
def yTDisp (tk tv : TPe) : TPe := fun ρ q x => tk ρ (fun r ρ1 => tv ρ1 (fun s ρ2 => cont ρ2 (hold r) fun d => fix ρ2 s fun e ρ3 => ∃ k : List Int, d = .tup (k.map D.int) ∧ q (.new (.dicT [k] [e])) ρ3) x) x
end PV
namespace PV
open PySem PySem.Spec PyProof.Rows L2
/-! ## x, y = e1, e2: the tuple itself is not kept -/
theorem Rel.swap {T : Tx} {F : Fm} {a b : Addr × D} {pd : List (Addr × D)} {G H : Hp} {ρ : Rho} {σ : L2.St} (rl : Rel T F (a :: b :: pd) G ρ σ H) : Rel T F (b :: a :: pd) G ρ σ H := by
  have m : ∀ {q : Addr × D}, q ∈ b :: a :: pd → q ∈ a :: b :: pd := fun {q} h => by
    simp only [List.mem_cons] at h ⊢
    rcases h with h | h | h
    · exact .inr (.inl h)
    · exact .inl h
    · exact .inr (.inr h)
  refine ⟨rl.len, rl.sub, rl.old, rl.new, rl.keep, rl.slot, rl.apart, fun q hq => rl.pds q (m hq), ?_, fun i s h hm q hq => rl.pap i s h hm q (m hq), rl.lck, rl.rfs⟩
  have := rl.pnd
  simp only [List.map_cons, List.nodup_cons, List.mem_cons, not_or] at this ⊢
  exact ⟨⟨fun e => this.1.1 e.symm, this.2.1⟩, this.1.2, this.2.2⟩
def zAsg2 (i j : Nat) (t1 t2 : TPe) : TPs := fun d ρ => t1 ρ (fun r1 ρ1 => notLoc r1 ∧ t2 ρ1 (fun r2 ρ2 => notLoc r2 ∧ asgn i r1 ρ2 fun ρ3 => asgn j r2 ρ3 d.nx) d.xc) d.xc
end PV
namespace PV
open PySem PySem.Spec PyProof.Rows L2
/-! ## a slot that nothing changes any more is given away at once -/
def fz (i : Nat) (ρ : Rho) : Rho := match ρ[i]? with
  | some (.own d) => ρ.set i (.frz d)
  | _ => ρ
theorem Rel.fz {T : Tx} {F : Fm} {pd : List (Addr × D)} {G H : Hp} {ρ : Rho} {σ : L2.St} (i : Nat) (rl : Rel T F pd G ρ σ H) : ∃ G', Le G G' ∧ Rel T F pd G' (PV.fz i ρ) σ H := by
  unfold PV.fz
  cases e : ρ[i]? with
  | none => exact ⟨G, Le.refl _, rl⟩
  | some s =>
    cases s with
    | own d =>
      obtain ⟨p, e1, _⟩ := rl.slot _ _ e
      obtain ⟨G', l, r, _⟩ := rl.freezeS e e1
      exact ⟨G', l, r⟩
    | _ => exact ⟨G, Le.refl _, rl⟩
def zFz (i : Nat) (t : TPs) : TPs := fun d ρ => t { d with nx := fun ρ => d.nx (fz i ρ) } ρ
theorem vs_fz {X : Cx} {W : WX} {ex : Ex} {st : Stmt} {t : TPs} (i : Nat) (h : VS X W ex st t) : VS X W ex st (zFz i t) := by
  obtain ⟨ts, p, w⟩ := h
  exact ⟨ts, p, fun F hF => ⟨fun G ρ σ H D d rl t k => (w F hF).ok G ρ σ H D _ rl t ⟨fun ρ' σ' G' H' l rl' q => let ⟨G2, l2, rl2⟩ := rl'.fz i; k.nx _ σ' G2 H' (l.trans l2) rl2 q, k.bk, k.ct, k.rt, k.xc⟩⟩⟩
end PV
namespace L2
open PySem PySem.Spec PyProof.Rows
end L2
namespace PV
open PySem PySem.Spec PyProof.Rows L2
/-! ## d.get(k), d.get(k, x) -/
/-! ## dict(xs), xs a list of pairs -/
end PV
namespace PV
open PySem PySem.Spec PyProof.Rows L2
/-! ## x, y = e1, e2 where the tuple is made (a name of the two is no local) -/
end PV
/-! the program's defs: what each answers, of data alone -/
namespace Law
open PySem PySem.Spec PyProof.Rows L2 PV
/-! ### kinds -/
def whole : D → Bool
  | .int _ => true
  | _ => false
def below (d : D) (m : Int) : Bool := match d with
  | .int i => decide (0 ≤ i) && decide (i < m)
  | _ => false
def plain (d : D) : Prop := ∃ n, tyN d = some n
/-- a strictly ascending list of slots below n, all above b -/
def slotsUp (n : Int) : Int → List D → Bool
  | _, [] => true
  | b, .int i :: r => decide (b < i) && decide (i < n) && slotsUp n i r
  | _, _ :: _ => false
def slotList (n : Int) : D → Bool
  | .lst [] => false
  | .lst (x :: r) => slotsUp n (-1) (x :: r)
  | _ => false
/-- d and, if it is a list, its items are no instances -/
def plain1 (d : D) : Prop := plain d ∧ ∀ ds, d = .lst ds → ∀ x ∈ ds, plain x
def sp_is_whole : PSp := fun as q _ => ∃ d, as = [.dat d] ∧ plain d ∧ q (.dat (.bl (whole d))) []
def sp_is_below : PSp := fun as q _ => ∃ d m, as = [.dat d, .dat (.int m)] ∧ plain d ∧ q (.dat (.bl (below d m))) []
def sp_is_slot_list : PSp := fun as q _ => ∃ d n, as = [.dat d, .dat (.int n)] ∧ plain1 d ∧ q (.dat (.bl (slotList n d))) []
/-! ### books -/
def rowD (r : List Int) : D := .tup (r.map D.int)
def maskFrom (s : Int) : Nat → List (List Int) → Nat
  | _, [] => 0
  | a, r :: rs => (if s ∈ r then 2 ^ a else 0) + maskFrom s (a + 1) rs
/-- who may use slot s, as bits -/
def mask (rows : List (List Int)) (s : Int) : Nat := maskFrom s 0 rows
def usersOf (n : Int) (rows : List (List Int)) : List Nat := (List.range n.toNat).map fun s : Nat => mask rows (s : Int)
def natD (u : Nat) : D := .int (u : Int)
def bookOf (n : Int) (rows : List (List Int)) : D := .obj "Book" ["_slots", "_allowed", "_users"] [.int n, .lst (rows.map rowD), .tup ((usersOf n rows).map natD)]
structure RowOk (n : Int) (r : List Int) : Prop where
  up : r.Pairwise (· < ·)
  lo : ∀ s ∈ r, 0 ≤ s
  hi : ∀ s ∈ r, s < n
  ne : r ≠ []
structure BookOk (n : Int) (rows : List (List Int)) : Prop where
  n1 : 1 ≤ n
  n60 : n ≤ 60
  len : rows.length ≤ 60
  row : ∀ r ∈ rows, RowOk n r
def sp_Book_size : PSp := fun as q _ => ∃ n rows, as = [.dat (bookOf n rows)] ∧ q (.dat (.int n)) []
def sp_Book_len : PSp := fun as q _ => ∃ n rows, as = [.dat (bookOf n rows)] ∧ q (.dat (.int (rows.length : Nat))) []
def sp_Book_users : PSp := fun as q _ => ∃ n rows, as = [.dat (bookOf n rows)] ∧ q (.dat (.tup ((usersOf n rows).map natD))) []
/-- the first row of allowed that is none -/
def rowFault (n : Int) : Int → List D → Option Int
  | _, [] => none
  | i, d :: r => if slotList n d = true then rowFault n (i + 1) r else some i
def bookFault (ds da : D) : Option Int := match ds with
  | .int n => if 1 ≤ n ∧ n ≤ 60 then (match da with
    | .lst rows => if rows.length ≤ 60 then rowFault n 0 rows else some (-1)
    | _ => some (-1)) else some (-1)
  | _ => some (-1)
/-- and its items, and theirs -/
def plain2 (d : D) : Prop := plain d ∧ ∀ ds, d = .lst ds → ∀ x ∈ ds, plain1 x
def orFault (c : Str) (o : Option Int) (q : R → List D → Prop) (e : Exn → List D → Prop) (ds : List D) : Prop := match o with
  | none => q (.dat .non) ds
  | some i => e ⟨c, .int i⟩ ds
def sp_check_book : PSp := fun as q e => ∃ d a, as = [.dat d, .dat a] ∧ plain d ∧ plain2 a ∧ orFault "NoBook" (bookFault d a) q e []
def sp_users_of_slots : PSp := fun as q _ => ∃ n rows, as = [.dat (.int n), .dat (.lst (rows.map rowD))] ∧ BookOk n rows ∧ q (.dat (.tup ((usersOf n rows).map natD))) []
/-- Book(slots, allowed), valid -/
def sp_Book_init : PSp := fun as q e => ∃ n rows, as = [.ref (.obj "Book" [] []), .dat (.int n), .dat (.lst (rows.map fun r => .lst (r.map D.int)))] ∧ BookOk n rows ∧ q (.dat .non) [bookOf n rows]
/-! ### timetables -/
def ttFrom (n : Int) (rows : List (List Int)) : Nat → List Int → List D → Option Int
  | _, _, [] => none
  | i, seen, .int s :: r => if 0 ≤ s ∧ s < n ∧ s ∉ seen ∧ s ∈ rows.getD i [] then ttFrom n rows (i + 1) (seen ++ [s]) r else some (i : Int)
  | i, _, _ :: _ => some (i : Int)
def ttFault (n : Int) (rows : List (List Int)) : D → Option Int
  | .tup ds => if ds.length = rows.length then ttFrom n rows 0 [] ds else some (-1)
  | _ => some (-1)
def plainT (d : D) : Prop := plain d ∧ ∀ ds, d = .tup ds → ∀ x ∈ ds, plain x
def sp_check_timetable : PSp := fun as q e => ∃ n rows d, as = [.dat (bookOf n rows), .dat d] ∧ BookOk n rows ∧ plainT d ∧ orFault "NoTimetable" (ttFault n rows d) q e []
/-! ### ways -/
def ttD (tt : List Int) : D := .tup (tt.map D.int)
structure TtOk (n : Int) (rows : List (List Int)) (tt : List Int) : Prop where
  len : tt.length = rows.length
  mem : ∀ (a : Nat) (s : Int) (r : List Int), tt[a]? = some s → rows[a]? = some r → s ∈ r
  nd : tt.Nodup
def bitsOf (u : Nat) : List Nat := (List.range (u.log2 + 1)).filter u.testBit
def freeS (n : Int) (tt : List Int) : List Int := ((List.range n.toNat).map fun i : Nat => (i : Int)).filter fun s => decide (s ∉ tt)
abbrev Ways := List (Int × Option (Nat × Int))
def wput (w : Ways) (k : Int) (v : Option (Nat × Int)) : Ways := if w.any (fun p => decide (p.1 = k)) = true then w.map fun p => if p.1 = k then (p.1, v) else p else w ++ [(k, v)]
def inner (tt : List Int) (slot : Int) : List Nat → Ways → List Int → Ways × List Int
  | [], w, f => (w, f)
  | a :: r, w, f => inner tt slot r (wput w (tt.getD a 0) (some (a, slot))) (f ++ [tt.getD a 0])
def layerF (rows : List (List Int)) (tt : List Int) : List Int → Nat → Ways → List Int → Nat × Ways × List Int
  | [], wt, w, f => (wt, w, f)
  | s :: r, wt, w, f => layerF rows tt r (wt - (mask rows s &&& wt)) (inner tt s (bitsOf (mask rows s &&& wt)) w f).1 (inner tt s (bitsOf (mask rows s &&& wt)) w f).2
def waysN (rows : List (List Int)) (tt : List Int) : Nat → List Int → Nat → Ways → Ways
  | 0, _, _, w => w
  | k + 1, ly, wt, w => if ly = [] then w else waysN rows tt k (layerF rows tt ly wt w []).2.2 (layerF rows tt ly wt w []).1 (layerF rows tt ly wt w []).2.1
def ways0 : List Int → Ways → Ways
  | [], w => w
  | s :: r, w => ways0 r (wput w s none)
def waysF (rows : List (List Int)) (tt : List Int) (slots : List Int) (waiting : Nat) : Ways := waysN rows tt (waiting + 2) slots waiting (ways0 slots [])
def waysOut (n : Int) (rows : List (List Int)) (tt : List Int) (gone : List Nat) : Ways := waysF rows tt (freeS n tt ++ gone.map fun k => tt.getD k 0) (2 ^ rows.length - 1 - (gone.map fun a => 2 ^ a).sum)
/-! ### opening -/
def keysOf (w : Ways) : List Int := w.map (·.1)
def openS (n : Int) (rows : List (List Int)) (tt : List Int) : List Int := isort (keysOf (waysOut n rows tt []))
/-- a function of a book and a timetable: its errors first -/
def ofTt (n : Int) (rows : List (List Int)) (d : D) (e : Exn → List D → Prop) (k : List Int → Prop) : Prop := match ttFault n rows d with
  | some i => e ⟨"NoTimetable", .int i⟩ []
  | none => ∃ tt, d = ttD tt ∧ TtOk n rows tt ∧ k tt
/-- the first item that is no occupied slot or is met again; or all of them -/
def insideFrom (n : Int) (tt : List Int) : Nat → List Int → List D → Sum Nat (List Int)
  | _, seen, [] => .inr seen
  | i, seen, .int s :: r => if 0 ≤ s ∧ s < n ∧ s ∈ tt ∧ s ∉ seen then insideFrom n tt (i + 1) (seen ++ [s]) r else .inl i
  | i, _, _ :: _ => .inl i
def leavesFrom (rows : List (List Int)) (tt : List Int) (inside : List Int) : Nat → List Int → Option Nat
  | _, [] => none
  | i, s :: r => if (rows.getD (tt.idxOf s) []).all (fun x => decide (x ∈ inside)) = true then leavesFrom rows tt inside (i + 1) r else some i
def tightFault (n : Int) (rows : List (List Int)) (tt : List Int) : D → Option Int
  | .tup ds => match insideFrom n tt 0 [] ds with
    | .inl i => some (i : Nat)
    | .inr ss => match leavesFrom rows tt ss 0 ss with
      | none => none
      | some i => some ((ss.length + i : Nat) : Int)
  | _ => some (-1)
def optD : Option Int → D
  | none => .non
  | some i => .int i
def sp_tight_fault : PSp := fun as q _ => ∃ n rows tt d, as = [.dat (bookOf n rows), .dat (ttD tt), .dat d] ∧ BookOk n rows ∧ TtOk n rows tt ∧ plainT d ∧ (∀ ds, d = .tup ds → ds.length < 1000) ∧ q (.dat (optD (tightFault n rows tt d))) []
def sp_check_tight : PSp := fun as q e => ∃ n rows d f, as = [.dat (bookOf n rows), .dat d, .dat f] ∧ BookOk n rows ∧ plainT d ∧ plainT f ∧ (∀ ds, f = .tup ds → ds.length < 1000) ∧ ofTt n rows d e fun tt => orFault "NoCertificate" (tightFault n rows tt f) q e []
end Law
namespace Law
open PySem PySem.Spec PyProof.Rows L2 PV
def t_is_whole : TPs :=
    (zRet (yAndV (yU (fIsi "int" []) (yVar 0)) (yNotV (yU (fIsi "bool" []) (yVar 0)))))
def t_is_below : TPs :=
    (zRet (yAndV (yU (fIsi "int" []) (yVar 0)) (yAndV (yNotV (yU (fIsi "bool" []) (yVar 0))) (yCh fLe fLt (yC (.int 0)) (yVar 0) (yVar 1)))))
def t_is_slot_list : TPs :=
    (zSeq (zIf (yOr (yNot (yTru (yU (fIsi "list" []) (yVar 0)))) (yT (yB fEq (yF fLen (yCons (yVar 0) yNil)) (yC (.int 0)))))
    (zRet (yC (.bl false))) zNext)
    (zSeq (zSet 2 (yU fNeg (yC (.int 1))))
    (zSeq (zFor (iSq (yVar 0)) (gN 3)
    (zSeq (zIf (yOr (yNot (yTru (yU (fIsi "int" []) (yVar 3)))) (yOr (yTru (yU (fIsi "bool" []) (yVar 3))) (yNot (yT (yCh fLt fLt (yVar 2) (yVar 3) (yVar 1))))))
    (zRet (yC (.bl false))) zNext)
    (zSet 2 (yVar 3))))
    (zRet (yC (.bl true))))))
def t_users_of_slots : TPs :=
    (zSeq (zSet 2 (yB fMul (yLst (yCons (yC (.int 0)) yNil)) (yVar 0)))
    (zSeq (zFor (iEn (yVar 1)) (gT 2 (gsCons (gN 3) (gsCons (gN 4) gsNil)))
    (zSeq (zSet 5 (yB fShl (yC (.int 1)) (yVar 3)))
    (zFor (iSq (yVar 4)) (gN 6)
    (zAugS fAddI (yVar 2) (yVar 6) (yVar 5)))))
    (zRet (yF fTuple (yCons (yVar 2) yNil)))))
def t_Book_size : TPs :=
    (zRet (yU (fFld "Book" "_slots") (yVar 0)))
def t_Book_len : TPs :=
    (zRet (yF fLen (yCons (yU (fFld "Book" "_allowed") (yVar 0)) yNil)))
def t_Book_users : TPs :=
    (zRet (yU (fFld "Book" "_users") (yVar 0)))
def t_check_book : TPs :=
    (zSeq (zIf (yOr (yNot (yTru (yCall sp_is_whole [false] [] (yCons (yVar 0) yNil)))) (yNot (yT (yCh fLe fLe (yC (.int 1)) (yVar 0) (yC (.int 60))))))
    (zRaise "NoBook" (yCons (yU fNeg (yC (.int 1))) yNil)) zNext)
    (zSeq (zIf (yOr (yNot (yTru (yU (fIsi "list" []) (yVar 1)))) (yT (yB fGt (yF fLen (yCons (yVar 1) yNil)) (yC (.int 60)))))
    (zRaise "NoBook" (yCons (yU fNeg (yC (.int 1))) yNil)) zNext)
    (zFor (iEn (yVar 1)) (gT 2 (gsCons (gN 2) (gsCons (gN 3) gsNil)))
    (zIf (yNot (yTru (yCall sp_is_slot_list [false, false] [] (yCons (yVar 3) (yCons (yVar 0) yNil)))))
    (zRaise "NoBook" (yCons (yVar 2) yNil)) zNext))))
def t_tight_fault : TPs :=
    (zSeq (zIf (yNot (yTru (yU (fIsi "tuple" []) (yVar 2))))
    (zRet (yU fNeg (yC (.int 1)))) zNext)
    (zSeq (zSet 4 (yDc (iEn (yVar 1)) (gT 2 (gsCons (gN 9) (gsCons (gN 3) gsNil))) yYes (yVar 3) (yVar 9) ([9, 3])))
    (zSeq (zSet 5 (yF fSet0 yNil))
    (zSeq (zFor (iEn (yVar 2)) (gT 2 (gsCons (gN 6) (gsCons (gN 3) gsNil)))
    (zSeq (zIf (yOr (yNot (yTru (yCall sp_is_below [false, false] [] (yCons (yVar 3) (yCons (yMeth "Book" "size" sp_Book_size [] [] (yVar 0) yNil) yNil))))) (yOr (yT (yB (fIn true) (yVar 3) (yVar 4))) (yT (yB (fIn false) (yVar 3) (yVar 5)))))
    (zRet (yVar 6)) zNext)
    (zDrop (yMs mSAdd (yVar 5) (yCons (yVar 3) yNil)))))
    (zSeq (zSet 7 (yC (.int 0)))
    (zSeq (zFor (iEn (yMeth "Book" "users" sp_Book_users [] [] (yVar 0) yNil)) (gT 2 (gsCons (gN 3) (gsCons (gN 8) gsNil)))
    (zIf (yT (yB (fIn true) (yVar 3) (yVar 5)))
    (zAug 7 fOr (yVar 8)) zNext))
    (zSeq (zFor (iEn (yVar 2)) (gT 2 (gsCons (gN 6) (gsCons (gN 3) gsNil)))
    (zIf (yTru (yB fAnd (yB fShr (yVar 7) (yB fIxA (yVar 4) (yVar 3))) (yC (.int 1))))
    (zRet (yB fAdd (yF fLen (yCons (yVar 2) yNil)) (yVar 6))) zNext))
    (zRet (yC .non)))))))))
def t_check_timetable : TPs :=
    (zSeq (zIf (yOr (yNot (yTru (yU (fIsi "tuple" []) (yVar 1)))) (yT (yB fNe (yF fLen (yCons (yVar 1) yNil)) (yLenO "Book" sp_Book_len (yVar 0)))))
    (zRaise "NoTimetable" (yCons (yU fNeg (yC (.int 1))) yNil)) zNext)
    (zSeq (zSet 2 (yMeth "Book" "users" sp_Book_users [] [] (yVar 0) yNil))
    (zSeq (zSet 3 (yF fSet0 yNil))
    (zFor (iEn (yVar 1)) (gT 2 (gsCons (gN 4) (gsCons (gN 5) gsNil)))
    (zSeq (zIf (yOr (yNot (yTru (yCall sp_is_below [false, false] [] (yCons (yVar 5) (yCons (yF fLen (yCons (yVar 2) yNil)) yNil))))) (yOr (yT (yB (fIn false) (yVar 5) (yVar 3))) (yNot (yTru (yB fAnd (yB fShr (yB fIxA (yVar 2) (yVar 5)) (yVar 4)) (yC (.int 1)))))))
    (zRaise "NoTimetable" (yCons (yVar 4) yNil)) zNext)
    (zDrop (yMs mSAdd (yVar 3) (yCons (yVar 5) yNil))))))))
def t_Book_init : TPs :=
    (zSeq (zDrop (yCall sp_check_book [false, false] [] (yCons (yVar 1) (yCons (yVar 2) yNil))))
    (zSeq (zFld "Book" "_slots" (yVar 0) (yVar 1))
    (zSeq (zFld "Book" "_allowed" (yVar 0) (yLc (iSq (yVar 2)) (gN 3) yYes (yF fTuple (yCons (yVar 3) yNil)) ([3])))
    (zFld "Book" "_users" (yVar 0) (yCall sp_users_of_slots [false, false] [] (yCons (yVar 1) (yCons (yU (fFld "Book" "_allowed") (yVar 0)) yNil)))))))
def t_check_tight : TPs :=
    (zSeq (zDrop (yCall sp_check_timetable [false, false] [] (yCons (yVar 0) (yCons (yVar 1) yNil))))
    (zSeq (zSet 3 (yCall sp_tight_fault [false, false, false] [] (yCons (yVar 0) (yCons (yVar 1) (yCons (yVar 2) yNil)))))
    (zIf (yT (yB fNotN (yVar 3) (yC .non)))
    (zRaise "NoCertificate" (yCons (yVar 3) yNil)) zNext)))
end Law
/-! the laws' helpers: what each answers, of data alone -/
namespace Law
open PySem PySem.Spec PyProof.Rows L2 PV
/-- the well of draws -/
def wellD (a b c : Int) : D := .lst [.int a, .int b, .int c]
def sp_law_draw : PSp := fun as q _ => ∃ a b c m : Int, as = [.ref (wellD a b c), .dat (.int m)] ∧ 0 < m ∧ m < 1000000 ∧ ∀ r a' c' : Int, 0 ≤ r → r < m → q (.dat (.int r)) [wellD a' b c']
def rowL (r : List Int) : D := .lst (r.map D.int)
/-- a book and a timetable are drawn -/
def sp_law_book : PSp := fun as q _ => ∃ a b c m : Int, as = [.ref (wellD a b c), .dat (.int m)] ∧ 1 ≤ m ∧ m ≤ 60 ∧ ∀ (n : Int) (rows : List (List Int)) (tt : List Int) (a' c' : Int), BookOk n rows → TtOk n rows tt → n ≤ m → q (.dat (.tup [.int n, .lst (rows.map rowL), ttD tt])) [wellD a' b c']
def sp_law_open : PSp := fun as q _ => ∃ n rows tt, as = [.dat (.int n), .dat (.lst (rows.map rowL)), .dat (ttD tt)] ∧ BookOk n rows ∧ TtOk n rows tt ∧ q (.new (.lst ((openS n rows tt).map D.int))) []
end Law
namespace Law
open PySem PySem.Spec PyProof.Rows L2 PV
def t_law_draw : TPs :=
    (zSeq (zIf (yT (yB fGt (yB fIxA (yVar 0) (yC (.int 0))) (yC (.int 0))))
    (zSeq (zSet 2 (yB fMod (yB fIxA (yVar 0) (yC (.int 0))) (yVar 1)))
    (zSeq (zPut uSet (yVar 0) (yC (.int 0)) (yB fFdiv (yB fIxA (yVar 0) (yC (.int 0))) (yVar 1)))
    (zRet (yVar 2)))) zNext)
    (zSeq (zPut uSet (yVar 0) (yC (.int 2)) (yB fAdd (yB fIxA (yVar 0) (yC (.int 2))) (yC (.int 1))))
    (zSeq (zSet 3 (yB fMod (yB fMul (yB fAdd (yB fAdd (yB fIxA (yVar 0) (yC (.int 1))) (yB fMul (yC (.int 104729)) (yB fIxA (yVar 0) (yC (.int 2))))) (yC (.int 1))) (yC (.int 48271))) (yC (.int 2147483647))))
    (zSeq (zSet 3 (yB fMod (yB fMul (yVar 3) (yB fAdd (yB fFdiv (yVar 3) (yC (.int 1009))) (yC (.int 69621)))) (yC (.int 2147483647))))
    (zRet (yB fMod (yB fMod (yB fMul (yVar 3) (yB fAdd (yB fFdiv (yVar 3) (yC (.int 2003))) (yC (.int 40692)))) (yC (.int 2147483399))) (yVar 1)))))))
def t_law_open : TPs :=
    (zSeq (zSet 4 (yLc (iR1 (yVar 0)) (gN 3) (yT (yB (fIn true) (yVar 3) (yVar 2))) (yVar 3) ([3])))
    (zSeq (zSet 5 (yC (.bl true)))
    (zSeq (zWhileF [true, false, false, true, false, false, true, true, true] (yTru (yVar 5))
    (zSeq (zSet 6 (yLst yNil))
    (zSeq (zForF [true, false, false, true, false, true, false, true, true] (iEn (yVar 2)) (gT 2 (gsCons (gN 7) (gsCons (gN 3) gsNil)))
    (zIf (yAnd (yT (yB (fIn true) (yVar 3) (yVar 4))) (yT (yB fNe (yLc (iSq (yB fIxA (yVar 1) (yVar 7))) (gN 8) (yT (yB (fIn false) (yVar 8) (yVar 4))) (yVar 8) ([8])) (yLst yNil))))
    (zDrop (yMt mAppend (yVar 6) (yCons (yVar 3) yNil))) zNext))
    (zSeq (zSet 5 (yB fNe (yVar 6) (yLst yNil)))
    (zSet 4 (yB fAdd (yVar 4) (yVar 6)))))))
    (zRet (yF fSorted (yCons (yVar 4) yNil))))))
def t_law_book : TPs :=
    (zSeq (zSet 2 (yB fSub (yVar 1) (yB fFdiv (yCall sp_law_draw [true, false] [] (yCons (yVar 0) (yCons (yVar 1) yNil))) (yB fIxA (yLst (yCons (yC (.int 1)) (yCons (yC (.int 2)) (yCons (yC (.int 3)) yNil)))) (yCall sp_law_draw [true, false] [] (yCons (yVar 0) (yCons (yC (.int 3)) yNil)))))))
    (zSeq (zSet 3 (yLstRg (yVar 2)))
    (zSeq (zSet 4 (yLst yNil))
    (zSeq (zWhile (yT (yB fNe (yVar 3) (yLst yNil)))
    (zDrop (yMt mAppend (yVar 4) (yCons (yMt mPopAt (yVar 3) (yCons (yCall sp_law_draw [true, false] [] (yCons (yVar 0) (yCons (yF fLen (yCons (yVar 3) yNil)) yNil))) yNil)) yNil))))
    (zSeq (zSet 5 (yF fMax2 (yCons (yC (.int 0)) (yCons (yB fSub (yVar 2) (yB fIxA (yLst (yCons (yC (.int 1)) (yCons (yC (.int 1)) (yCons (yC (.int 0)) (yCons (yC (.int 2)) (yCons (yC (.int 3)) (yCons (yCall sp_law_draw [true, false] [] (yCons (yVar 0) (yCons (yB fAdd (yVar 2) (yC (.int 1))) yNil))) yNil))))))) (yCall sp_law_draw [true, false] [] (yCons (yVar 0) (yCons (yC (.int 6)) yNil))))) yNil))))
    (zSeq (zSet 6 (yB fIxA (yLst (yCons (yC (.int 0)) (yCons (yC (.int 0)) (yCons (yCall sp_law_draw [true, false] [] (yCons (yVar 0) (yCons (yB fAdd (yVar 2) (yC (.int 1))) yNil))) yNil)))) (yCall sp_law_draw [true, false] [] (yCons (yVar 0) (yCons (yC (.int 3)) yNil)))))
    (zSeq (zSet 7 (yB fIxA (yLst (yCons (yC (.int 2)) (yCons (yC (.int 3)) (yCons (yC (.int 4)) (yCons (yC (.int 6)) yNil))))) (yCall sp_law_draw [true, false] [] (yCons (yVar 0) (yCons (yC (.int 4)) yNil)))))
    (zSeq (zSet 8 (yLst yNil))
    (zSeq (zFor (iR1 (yVar 5)) (gN 9)
    (zSeq (zSet 10 (yLst (yCons (yB fIxA (yVar 4) (yVar 9)) yNil)))
    (zSeq (zFor (iR1 (yCall sp_law_draw [true, false] [] (yCons (yVar 0) (yCons (yVar 7) yNil)))) (gN 11)
    (zDrop (yMt mAppend (yVar 10) (yCons (yB fIxA (yVar 4) (yCall sp_law_draw [true, false] [] (yCons (yVar 0) (yCons (yB fIxA (yLst (yCons (yVar 2) (yCons (yF fMax2 (yCons (yC (.int 1)) (yCons (yVar 6) yNil))) yNil))) (yF fInt1 (yCons (yB fLt (yVar 9) (yVar 6)) yNil))) yNil)))) yNil))))
    (zDrop (yMt mAppend (yVar 8) (yCons (yF fSorted (yCons (yF fSetOf (yCons (yVar 10) yNil)) yNil)) yNil))))))
    (zRet (yTup (yCons (yVar 2) (yCons (yVar 8) (yCons (yF fTuple (yCons (ySl (yVar 4) yNoPart (yPart (yVar 5))) yNil)) yNil))))))))))))))
end Law
/-! ## == and != of an own instance with an __eq__ of its own -/
namespace L2
open PySem PySem.Spec PyProof.Rows
end L2
namespace PV
open PySem PySem.Spec PyProof.Rows L2
end PV
/-! ## isinstance(x, C), C an own class -/
namespace PV
open PySem PySem.Spec PyProof.Rows L2
end PV
namespace PV
open PySem PySem.Spec PyProof.Rows L2
end PV
namespace PV
open PySem PySem.Spec PyProof.Rows L2
/-! ## f([..], e, ..): the first argument a new list, by reference -/
end PV
/-! ## dicts that are walked: their keys, values, items -/
namespace L2
open PySem PySem.Spec PyProof.Rows
/-- what is said of a dict -/
inductive DicV (d : Addr) : HO → List V → List V → Prop
  | k (kvs : List (Key × V)) : DicV d (.dK kvs) (kvs.map fun kv => kV kv.1) (kvs.map (·.2))
  | t (ks : List (List Int)) (bs : List Addr) (xs : List V) : xs.length = ks.length → bs.length = ks.length → DicV d (DTO d ks bs xs) (bs.map V.ref) xs
theorem DicV.mut {d : Addr} {u : HO} {ks xs : List V} (h : DicV d u ks xs) : Mut (some u) := by cases h <;> exact True.intro
/-! ### what is walked -/
end L2
/-! ## dicts that are walked, of data alone -/
namespace PV
open PySem PySem.Spec PyProof.Rows L2
abbrev Fm.lock (F : Fm) (a : Addr) (o : HO) : Fm := { F with lk := (a, o) :: F.lk }
section
variable {T : Tx} {F : Fm} {pd : List (Addr × D)} {G G' H H' : Hp} {ρ : Rho} {σ : L2.St} {a : Addr} {o : HO} {ob : Obj}
theorem Rel.unlk (rl : Rel T (F.lock a o) pd G ρ σ H) : Rel T F pd G ρ σ H :=
  ⟨rl.len, rl.sub, rl.old, rl.new, rl.keep, fun i s h => (by have k := rl.slot i s h; cases s <;> exact k), rl.apart, rl.pds, rl.pnd, rl.pap, fun q hq => rl.lck q (List.mem_cons_of_mem _ hq), rl.rfs⟩
theorem VPost.unlk {T : Tx} {F : Fm} {pd : List (Addr × D)} {G : Hp} {σ : L2.St} {H : Hp} {v : V} {ρ : Rho} {r : R} {a : Addr} {o : HO} (h : VPost T (F.lock a o) pd G σ H v ρ r) : VPost T F pd G σ H v ρ r := by
  cases r with
  | dat d => exact ⟨h.1.unlk, h.2⟩
  | fre c d => exact ⟨h.1.unlk, h.2⟩
  | new d => obtain ⟨p, e, rl⟩ := h; exact ⟨p, e, rl.unlk⟩
  | loc i => exact ⟨h.1.unlk, h.2⟩
theorem WOk.lk {X : Cx} {W : WX} {x : Exn → Rho → Prop} (w : WOk X W F x G σ) : WOk X W (F.lock a o) x G σ := fun e ρ' G' H' cls dd l rl => w e ρ' G' H' cls dd l rl.unlk
/-- a frozen dict is locked -/
theorem Rel.lock (rl : Rel T F pd G ρ σ H) (hg : G a = some o) (hk : ∃ k : LkT a, o = k.ho) (hh : H a = some o) : Rel T (F.lock a (.frz ob o)) pd G ρ σ (upd H a (.frz ob o)) := by
  have ne : ∀ {p : Addr}, G p = none → p ≠ a := fun {p} h e => by rw [e, hg] at h; cases h
  have obk : ∀ {p : Addr} {d : D}, G p = none → Ob T G H p d → Ob T G (upd H a (.frz ob o)) p d := fun {p d} n h => h.mono (Le.refl _) (upd_ne (ne n))
  have lockO : LockOf o (upd H a (.frz ob o)) a := by obtain ⟨k, e⟩ := hk; exact ⟨ob, k, e, upd_same⟩
  refine ⟨rl.len, fun b u e => ?_, rl.old, rl.new, fun b u e m => ?_, fun i s h => ?_, rl.apart, fun q hq => ?_, rl.pnd, rl.pap, fun q hq => ?_, rl.rfs⟩
  · by_cases c : b = a
    · subst c
      rw [hg] at e
      cases e
      exact .inr lockO
    · rcases rl.sub b u e with z | ⟨ob', k, e1, z⟩
      · exact .inl (by rw [upd_ne c]; exact z)
      · exact .inr ⟨ob', k, e1, by rw [upd_ne c]; exact z⟩
  · by_cases c : b = a
    · subst c
      have g0 : F.G0 b ≠ none := fun z => by have := rl.new b o z hg; have e : F.H0 b = some u := e; rw [e] at this; cases this
      have gu : F.G0 b = some o := by
        cases w : F.G0 b with
        | none => exact absurd w g0
        | some u' => have := rl.old b u' w; rw [hg] at this; exact this.symm
      rcases rl.keep b u e m with z | ⟨z0, ob', k, e1, z⟩
      · rw [hh] at z
        cases z
        exact .inr ⟨gu, lockO⟩
      · rw [gu] at z0
        cases z0
        exact .inr ⟨gu, lockO⟩
    · rcases rl.keep b u e m with z | ⟨z0, ob', k, e1, z⟩
      · exact .inl (by rw [upd_ne c]; exact z)
      · exact .inr ⟨z0, ob', k, e1, by rw [upd_ne c]; exact z⟩
  · have k := rl.slot i s h
    cases s with
    | any => trivial
    | frz d => exact k
    | par d => exact k
    | fre c d => exact k
    | own d => obtain ⟨p, e, n, z, ob'⟩ := k; exact ⟨p, e, n, z, obk n ob'⟩
    | ref d => obtain ⟨p, e, z, n, ob'⟩ := k; exact ⟨p, e, z, n, obk n ob'⟩
    | exc f d =>
      obtain ⟨c, dd, v, e1, e2, e3, e4⟩ := k
      refine ⟨c, dd, v, e1, e2, ?_, e4⟩
      rw [upd_ne (fun w => ?_)]
      · exact e3
      · subst w
        rw [e3] at hh
        cases hh
        obtain ⟨k, e⟩ := hk
        exact LkT.no_xd e
  · obtain ⟨n, z, ob'⟩ := rl.pds q hq
    exact ⟨n, z, obk n ob'⟩
  · rcases List.mem_cons.mp hq with rfl | hq
    · exact ⟨upd_same, (fun z => by have z : G a = none := z; rw [hg] at z; cases z), ob, o, rfl⟩
    · obtain ⟨z, g, ob', u', e⟩ := rl.lck q hq
      refine ⟨?_, g, ob', u', e⟩
      rw [upd_ne (fun w => ?_)]
      · exact z
      · rw [w, hh, e] at z
        cases z
        obtain ⟨k, e⟩ := hk
        exact LkT.no_frz e
end
section
variable {X : Cx} {W : WX} {ex : Ex} {tg e : Expr} {ta : TPe} {apos cpos : Pos}
theorem KeysN.len {K : PySem.W.Frag} {G : Hp} : ∀ {ks : List (List Int)} {bs : List Addr}, KeysN K G ks bs → bs.length = ks.length
  | _, _, .nil => rfl
  | _, _, .cons _ t => congrArg (· + 1) (KeysN.len t)
end
/-! ### for -/
end PV
namespace PV
open PySem PySem.Spec PyProof.Rows L2
/-! ### comprehensions -/
end PV
namespace L2
open PySem PySem.Spec PyProof.Rows
end L2
namespace PV
open PySem PySem.Spec PyProof.Rows L2
/-! ## {e1: e2}, the key an int or a text -/
end PV
/-! ## several except clauses, with names or without -/
namespace L2
open PySem PySem.Spec PyProof.Rows
abbrev HdA := Value × Option Nat × (Addr → Value → Option Addr → TS)
def goneD (i : Nat) (D : Ends) : Ends := { nx := fun σ' H' => D.nx (σ'.set i none) H', rt := D.rt, bk := fun σ' H' => D.bk (σ'.set i none) H', ct := fun σ' H' => D.ct (σ'.set i none) H' }
def wManyA (K : PySem.W.Frag) (Wout : WX) (D : Ends) : List HdA → WX
  | [] => Wout
  | (c, oi, ts) :: r => fun cls d σ H => ∃ b, PySem.W.exmOne K cls c = some b ∧ (b = true → ∀ a, H a = none → match oi with
      | none => ts a cls d D σ H
      | some i => ts a cls d (goneD i D) (σ.set i (some (.ref a))) H) ∧ (b = false → wManyA K Wout D r cls d σ H)
inductive HdsA (X : Cx) : List ExceptHandler → List HdA → Prop
  | nil : HdsA X [] []
  | one {x : Str} {c : Value} {ts : Addr → Value → Option Addr → TS} {b₀ : Stmt} {suite : List Stmt} {np pos' : Pos} {hds : List ExceptHandler} {l : List HdA} (hc : Names X x c)
      (hsu : ∀ (a : Addr) (oe : Obj) (cls : Value) (d : Option Addr) (pn : List (Addr × Obj)), Zc cls d oe → (∃ vs, oe.data = .fields vs) → PSs (X.suite a ((a, oe) :: pn)) (b₀ :: suite) (ts a cls d)) (r : HdsA X hds l) :
      HdsA X (.ExceptHandler (some (.Name x np)) none (b₀ :: suite) pos' :: hds) ((c, none, ts) :: l)
  | as {x n : Str} {i : Nat} {c : Value} {ts : Addr → Value → Option Addr → TS} {b₀ : Stmt} {suite : List Stmt} {np pos' : Pos} {hds : List ExceptHandler} {l : List HdA} (hc : Names X x c) (hi : X.N[i]? = some n) (hln : X.env.kindOf n = some .local)
      (hsu : ∀ (a : Addr) (oe : Obj) (cls : Value) (d : Option Addr) (pn : List (Addr × Obj)), Zc cls d oe → (∃ vs, oe.data = .fields vs) → PSs (X.suite a ((a, oe) :: pn)) (b₀ :: suite) (ts a cls d)) (r : HdsA X hds l) :
      HdsA X (.ExceptHandler (some (.Name x np)) (some n) (b₀ :: suite) pos' :: hds) ((c, some i, ts) :: l)
section
variable {X : Cx} {body : List Stmt} {h₀ : ExceptHandler} {hds : List ExceptHandler} {l : List HdA} {pos : Pos} {tb : WX → TS} {Wout : WX}
theorem ps_try_manyA (hs : X.stack = X.env :: X.outer) (hf : X.env.frame = some X.env.locals) (hN : X.N.Nodup) (tk : Takes X Wout)
    (hb : ∀ (W : WX) (pn : List (Addr × Obj)) (xe : Value → Shared → Prop), Takes (X.tr pn xe) W → PassesOwn (model X.prog X.w) X.A X.env xe → PSs (X.tr pn xe) body (tb W))
    (hh : HdsA X (h₀ :: hds) l) : PS X (.Try body (h₀ :: hds) [] [] pos) (fun D σ H => tb (wManyA X.K Wout D l) D σ H) := by
  refine ⟨fun pins s σ H D I h => ?_⟩
  have ok := I.ok
  have hfr : X.A.frames = some (X.env :: X.outer) := by rw [ok.frames, hs]
  refine wpAny_Try_except ?_
  refine wpAny_mono ((hb (wManyA X.K Wout D l) (X.pn ++ pins) (fun e s₁ => wpAny (model X.prog X.w) X.A (noteFrame e X.env) (fun _ s₂ => wpAny (model X.prog X.w) X.A (setFlight e none) (fun _ s₃ =>
    wpAny (model X.prog X.w) X.A (handleBy e X.env (h₀ :: hds)) (SP X pins D) X.xe s₃) X.xe s₂) X.xe s₁) (fun u s' xx => ?_) PassesOwn.looking).run [] s σ H D (I.toTry _) h) (fun f s1 hsp => ?_) (fun e s1 he => he)
  · -- the catch
    obtain ⟨a, B, sI, pins', σ', H', cls, d, rfl, J', nb, up, sky, na, os, ag, w⟩ := xx
    have J : Inv X pins σ' H' sI := J'.ofTry ok
    have sky' : Sky B (X.env :: X.outer) a (Zc cls d) X.env.locals s'.heap := by rw [← hs]; exact sky
    show wpAny (model X.prog X.w) X.A (noteFrame (.ref a) X.env) _ _ _
    refine Sky.land Zc.steady hfr hf sky' fun h3 fl3 up3 => ?_
    have J3 : Inv X pins σ' H' { s' with heap := h3 } := J.landed nb fl3.1 (up.trans up3) os ag
    obtain ⟨oe3, vs3, he3, hz3, hd3⟩ := fl3.there
    have notFr : ∀ {h : Heap} {o : Obj} {vs : Array Value}, h.FunFrames B (X.env :: X.outer) → h.get? a = some o → o.data = .fields vs → a ∉ frs (X.env :: X.outer) := fun {h o vs} ff e dd hm => by
      obtain ⟨_, o', e', hnf⟩ := ff.mem hm
      rw [e] at e'; cases e'
      exact hnf _ dd
    have nfr := notFr fl3.2.2.1 he3 hd3
    have nL : a ≠ X.env.locals := fun z => nfr (List.mem_filterMap.mpr ⟨X.env, List.mem_cons_self, by rw [hf, z]⟩)
    have nF : a ∉ X.fs := fun hm => by
      obtain ⟨e, he, q⟩ := List.mem_filterMap.mp hm
      exact nfr (List.mem_filterMap.mpr ⟨e, List.mem_cons_of_mem _ he, q⟩)
    have S3 := J3.suite he3 hd3 na nL nF
    have go : ∀ {hds' : List ExceptHandler} {l' : List HdA}, HdsA X hds' l' → wManyA X.K Wout D l' cls d σ' H' →
        wpAny (model X.prog X.w) X.A (handleBy (.ref a) X.env hds') (SP X pins D) X.xe { s' with heap := h3 } := by
      intro hds' l' hk
      have LT : PySem.W.Looks (model X.prog X.w) h3 (typeOf (.ref a)) cls := fun A Q E s k q => wpAny_typeOf_ref (k _ _ he3) (by rw [hz3.1]; exact q)
      have test : ∀ {x : Str} {c : Value} {np : Pos} (hc : Names X x c) {Q : Value → Shared → Prop} {E : Value → Shared → Prop}, Q c { s' with heap := h3 } → wpAny (model X.prog X.w) (X.A.mark (some (.ref a))) (eval (.Name x np) X.env) Q E { s' with heap := h3 } := fun {x c np} hc {Q E} q => by
        obtain ⟨hg, hdbg, hm | ⟨hm, hv, hnn⟩⟩ := hc
        · exact ld_glob (X := X.suite a ((a, oe3) :: (X.pn ++ pins))) S3 hg hm q hdbg
        · exact ld_blt (X := X.suite a ((a, oe3) :: (X.pn ++ pins))) S3 hg hm hv q hnn hdbg
      induction hk with
      | nil =>
        intro w
        refine wpAny_handleBy_nil ?_
        obtain ⟨k1, k2, k3, oe, vs, T, oT, ts', he, hz, hd, h1, hr⟩ := id fl3
        unfold PySem.passOn
        refine wpAny_bind (wpAny_field he hd h1 ?_)
        rw [if_neg (show ¬ ((Value.ref T == Value.none) = true) from by simp)]
        have fin : wpAny (model X.prog X.w) X.A (setFlight (.ref a) X.env.frame) (fun _ s4 => wpAny (model X.prog X.w) X.A (throw (.ref a) : Sem Flow) (SP X pins D) X.xe s4) X.xe { s' with heap := h3 } := by
          rw [hf]
          refine HandSPX.setFlight_upZ fl3 fun h4 hh4 up4 => wpAny_throw (tk _ _ ?_)
          exact ⟨a, B, sI, pins, σ', H', cls, d, rfl, J, nb, (up.trans up3).trans up4, .inr (.inr (by rw [hs]; exact hh4)), na, os, ag, w⟩
        first
          | exact wpAny_bind (wpAny_pure (wpAny_bind fin))
          | exact wpAny_bind fin
      | @one x c ts b₀ suite np pos' hds2 l2 hc hsu r ih =>
        intro w
        obtain ⟨b, hb1, hyes, hno⟩ := w
        refine wpAny_handleBy_cons (codeAny_handlers_test ?_) (by intro q; cases q)
        have LM := PySem.W.exm_one (M := model X.prog X.w) (J3.kIn) LT hb1
        refine test hc (LM.here ?_)
        cases b with
        | true =>
          refine codeAny_handlers_suite ?_
          refine HandSPX.lands_againZ fl3 fun h4 fl4 up4 => ?_
          have J4 : Inv X pins σ' H' { s' with heap := h4 } := J.landed nb fl4.1 ((up.trans up3).trans up4) os ag
          obtain ⟨oe4, vs4, he4, hz4, hd4⟩ := fl4.there
          have S4 := J4.suite he4 hd4 na nL nF
          refine wpAny_mono ((hsu a oe4 cls d (X.pn ++ pins) hz4 ⟨_, hd4⟩).run [] _ _ H' _ S4 (hyes rfl a na)) (fun f s6 hsp => ?_) (fun _ _ z => False.elim z)
          cases f with
          | next =>
            obtain ⟨σ6, H6, S6, q6⟩ := hsp
            exact ⟨_, _, S6.unsuite ok, q6⟩
          | brk =>
            obtain ⟨σ6, H6, S6, q6⟩ := hsp
            exact ⟨_, _, S6.unsuite ok, q6⟩
          | cont =>
            obtain ⟨σ6, H6, S6, q6⟩ := hsp
            exact ⟨_, _, S6.unsuite ok, q6⟩
          | ret u =>
            obtain ⟨v6, σ6, H6, S6, r6, q6⟩ := hsp
            exact ⟨_, _, _, S6.unsuite ok, r6, q6⟩
        | false =>
          show wpAny _ X.A (handleBy (.ref a) X.env hds2) _ _ _
          exact ih (hno rfl)
      | @as x n i c ts b₀ suite np pos' hds2 l2 hc hi hln hsu r ih =>
        intro w
        obtain ⟨b, hb1, hyes, hno⟩ := w
        have hloc : Loc X.env.scope n := .inl hln
        refine wpAny_handleBy_cons (codeAny_handlers_test ?_) (by intro q; cases q)
        have LM := PySem.W.exm_one (M := model X.prog X.w) (J3.kIn) LT hb1
        refine test hc (LM.here ?_)
        cases b with
        | true =>
          refine codeAny_handlers_suite_as ?_
          refine HandSPX.lands_againZ fl3 fun h4 fl4 up4 => ?_
          have J4 : Inv X pins σ' H' { s' with heap := h4 } := J.landed nb fl4.1 ((up.trans up3).trans up4) os ag
          obtain ⟨oe4, vs4, he4, hz4, hd4⟩ := fl4.there
          have S4 := J4.suite he4 hd4 na nL nF
          refine store_ok (X := X.suite a ((a, oe4) :: (X.pn ++ pins))) (v := .ref a) S4 hN hi hloc rfl (fun s5 S5 => ?_) (.inr hln)
          refine wpAny_mono ((hsu a oe4 cls d (X.pn ++ pins) hz4 ⟨_, hd4⟩).run [] s5 _ H' _ S5 (hyes rfl a na)) (fun f s6 hsp => ?_) (fun _ _ z => False.elim z)
          have end_ : ∀ {σ6 : St} {H6 : Hp} {Q : Shared → Prop}, Inv (X.suite a ((a, oe4) :: (X.pn ++ pins))) [] σ6 H6 s6 → (∀ s7, Inv X pins (σ6.set i none) H6 s7 → Q s7) →
              wpAny (model X.prog X.w) X.A (do bindName X.env n .none; unbindBehindTheSuite X.env n pos') (fun _ s7 => Q s7) X.xe s6 := fun {σ6 H6 Q} S6 hq => gone_ok (S6.unsuite ok) hN hi hln hq
          cases f with
          | next =>
            obtain ⟨σ6, H6, S6, q6⟩ := hsp
            exact end_ S6 fun s7 J7 => ⟨_, _, J7, q6⟩
          | brk =>
            obtain ⟨σ6, H6, S6, q6⟩ := hsp
            exact end_ S6 fun s7 J7 => ⟨_, _, J7, q6⟩
          | cont =>
            obtain ⟨σ6, H6, S6, q6⟩ := hsp
            exact end_ S6 fun s7 J7 => ⟨_, _, J7, q6⟩
          | ret u =>
            obtain ⟨v6, σ6, H6, S6, r6, q6⟩ := hsp
            exact end_ S6 fun s7 J7 => ⟨_, _, _, J7, r6, q6⟩
        | false =>
          show wpAny _ X.A (handleBy (.ref a) X.env hds2) _ _ _
          exact ih (hno rfl)
    exact go hh w
  · cases f with
    | next =>
      obtain ⟨σ', H', J', q⟩ := hsp
      exact wpAny_execs_nil ⟨σ', H', J'.ofTry ok, q⟩
    | brk =>
      obtain ⟨σ', H', J', q⟩ := hsp
      exact ⟨σ', H', J'.ofTry ok, q⟩
    | cont =>
      obtain ⟨σ', H', J', q⟩ := hsp
      exact ⟨σ', H', J'.ofTry ok, q⟩
    | ret u =>
      obtain ⟨v, σ', H', J', r, q⟩ := hsp
      exact ⟨v, σ', H', J'.ofTry ok, r, q⟩
end
/-! ## isinstance of the caught error -/
structure ExcE (K : PySem.W.Frag) (C : Addr) : Prop where
  cl : (PySem.W.clsIn K C).isSome = true
  hg : PySem.W.findIn K (.ref C) "__getattribute__" = some (some (.builtin "BaseException.__getattribute__"))
  hk : PySem.W.findIn K (.ref C) "__getattr__" = some none
  hs : PySem.W.subIn K (.ref C) (.type "BaseException") = some true
  ha : PySem.W.findIn K (.ref C) "__class__" = some (some (.builtin "object.__class__"))
  hn : PySem.W.specialIn K (.builtin "object.__class__") "__get__" = some (some (.builtin "getset_descriptor.__get__"))
  ht : PySem.W.takesIn K (.builtin "object.__class__") = some true
  hm : PySem.W.mroIn K C (.type "object") = some true
end L2
namespace PV
open PySem PySem.Spec PyProof.Rows L2 PySem.EsX
/-- an except clause: the class, the name's slot, the suite for each class caught -/
abbrev HdP := Str × Option Nat × (Str → TPs)
def hdlE (d : PEnds) : List HdP → Exn → Rho → Prop
  | [] => d.xc
  | (c, none, ts) :: r => fun e ρ1 => if catches c e.c = true then ts e.c (coldEnds d) ρ1 else hdlE d r e ρ1
  | (c, some i, ts) :: r => fun e ρ1 => if catches c e.c = true then isRef ρ1 i = false ∧ noExc ρ1 = true ∧ ts e.c (goneEnds i d) (ρ1.set i (.exc (fld e.c) e.d)) else hdlE d r e ρ1
def tryEndsM (known : List Str) (hs : List HdP) (d : PEnds) : PEnds := ⟨d.nx, d.rt, fun e ρ1 => known.contains e.c = true ∧ hdlE d hs e ρ1, d.bk, d.ct⟩
def zTryM (known : List Str) (hs : List HdP) (tb : TPs) : TPs := fun d ρ => tb (tryEndsM known hs d) ρ
/-- the clauses, one after the other -/
inductive VHs (X : Cx) (known : List Str) : List ExceptHandler → List HdP → Prop
  | nil : VHs X known [] []
  | one {x : Str} {C : Addr} {b₀ : Stmt} {suite : List Stmt} {np pos' : Pos} {hds : List ExceptHandler} {ts : Str → TPs} {l : List HdP} (hc : Names X x (.ref C))
      (hk : ∀ e E, known.contains e = true → X.mg e = some (.ref E) → PySem.W.exmOne X.K (.ref E) (.ref C) = some (catches x e))
      (hsu : ∀ (a : Addr) (oe : Obj) (cls : Value) (d : Option Addr) (pn : List (Addr × Obj)) (cn : Str), Zc cls d oe → (∃ vs, oe.data = .fields vs) → VSs (X.suite a ((a, oe) :: pn)) W0 none (b₀ :: suite) (ts cn))
      (r : VHs X known hds l) : VHs X known (.ExceptHandler (some (.Name x np)) none (b₀ :: suite) pos' :: hds) ((x, none, ts) :: l)
  | as {x n : Str} {i : Nat} {C : Addr} {b₀ : Stmt} {suite : List Stmt} {np pos' : Pos} {hds : List ExceptHandler} {ts : Str → TPs} {l : List HdP} (hc : Names X x (.ref C)) (hi : X.N[i]? = some n) (hln : X.env.kindOf n = some .local)
      (hk : ∀ e E, known.contains e = true → X.mg e = some (.ref E) → PySem.W.exmOne X.K (.ref E) (.ref C) = some (catches x e))
      (hsu : ∀ (a : Addr) (oe : Obj) (E dd : Addr) (pn : List (Addr × Obj)) (cn : Str), known.contains cn = true ∧ catches x cn = true → X.mg cn = some (.ref E) → Zc (.ref E) (some dd) oe → (∃ vs, oe.data = .fields vs) → VSs (X.suite a ((a, oe) :: pn)) W0 (some (i, a, dd)) (b₀ :: suite) (ts cn))
      (r : VHs X known hds l) : VHs X known (.ExceptHandler (some (.Name x np)) (some n) (b₀ :: suite) pos' :: hds) ((x, some i, ts) :: l)
theorem goneB {X : Cx} {F : Fm} {G : Hp} {i : Nat} {a' a : Addr} {pd : List (Addr × PV.D)} {ρ : Rho} {σ : L2.St} {G'' H'' : Hp} (y : Option V) (r : Rel X.tx { F with ex := some (i, a', a) } pd G'' ρ σ H'') (nr : isRef ρ i = false) : Rel X.tx F pd G'' (ρ.set i .any) (σ.set i y) H'' := by
  have r2 := r.setAny (x := y) (noRef_of nr)
  refine ⟨r2.len, r2.sub, r2.old, r2.new, r2.keep, fun j s h => ?_, r2.apart, r2.pds, r2.pnd, r2.pap, r2.lck, r2.rfs⟩
  have k := r2.slot j s h
  cases s with
  | any => trivial
  | frz d => exact k
  | par d => exact k
  | fre c d => exact k
  | own d => exact k
  | ref d => exact k
  | exc f d =>
    obtain ⟨a1, d1, v1, e1, e2, _⟩ := k
    cases e1
    rcases set_get h with ⟨_, z⟩ | ⟨z, _⟩
    · cases z
    · exact absurd rfl z
theorem VHs.mach {X : Cx} {known : List Str} {hds : List ExceptHandler} {hs : List HdP} (hh : VHs X known hds hs) : ∃ l, HdsA X hds l ∧ ∀ (W : WX) (F : Fm), F.ex = none → ∀ (G : Hp) (D : Ends) (d : PEnds), EOk X W F d D G →
    ∀ (σ : L2.St) (e : Exn) (ρ' : Rho) (G' H' : Hp) (cls : Value) (dd : Option Addr), Le G G' → Rel X.tx F [] G' ρ' σ H' → XOk X.tx G' H' e cls dd → known.contains e.c = true → hdlE d hs e ρ' → wManyA X.K W D l cls dd σ H' := by
  induction hh with
  | nil => exact ⟨[], .nil, fun W F hF G D d k σ e ρ' G' H' cls dd l rl xo kn q => k.xc σ e ρ' G' H' cls dd l rl xo q⟩
  | @one x C b₀ suite np pos' hds ts l hc hk hsu r ih =>
    obtain ⟨l', h1, h2⟩ := ih
    refine ⟨(.ref C, none, fun a cls d D σ H => ∃ cn, canS X.tx W0 none (ts cn) D σ H) :: l', .one hc (fun a oe cls d pn z f => ⟨fun pins s σ H D I ⟨cn, h⟩ => (hsu a oe cls d pn cn z f).can.run pins s σ H D I h⟩) h1, fun W F hF G D d k σ e ρ' G' H' cls dd lg rl xo kn q => ?_⟩
    obtain ⟨E, a, v, g1, g2, g3, g4, g5⟩ := id xo
    subst g2
    refine ⟨catches x e.c, hk e.c E kn g1, fun hy a' ha' => ?_, fun hn => ?_⟩
    · have q : if catches x e.c = true then ts e.c (coldEnds d) ρ' else hdlE d l e ρ' := q
      rw [if_pos hy] at q
      exact ⟨e.c, F, G', ρ', _, hF, rl, q, (k.mono lg).nx, (k.mono lg).bk, (k.mono lg).ct, (k.mono lg).rt, fun _ _ _ _ _ _ _ _ _ _ z => z.elim⟩
    · have q : if catches x e.c = true then ts e.c (coldEnds d) ρ' else hdlE d l e ρ' := q
      rw [if_neg (by rw [hn]; exact Bool.false_ne_true)] at q
      exact h2 W F hF G D d k σ e ρ' G' H' _ dd lg rl xo kn q
  | @as x n i C b₀ suite np pos' hds ts l hc hi hln hk hsu r ih =>
    obtain ⟨l', h1, h2⟩ := ih
    refine ⟨(.ref C, some i, fun a cls d D σ H => ∃ E dd cn, cls = Value.ref E ∧ d = some dd ∧ (known.contains cn = true ∧ catches x cn = true) ∧ X.mg cn = some (.ref E) ∧ canS X.tx W0 (some (i, a, dd)) (ts cn) D σ H) :: l',
      .as hc hi hln (fun a oe cls d pn z f => ⟨fun pins s σ H D I ⟨E, dd, cn, e1, e2, e3, e4, h⟩ => by subst e1 e2; exact (hsu a oe E dd pn cn e3 e4 z f).can.run pins s σ H D I h⟩) h1, fun W F hF G D d k σ e ρ' G' H' cls dd lg rl xo kn q => ?_⟩
    obtain ⟨E, a, v, g1, g2, g3, g4, g5⟩ := id xo
    subst g2 g3
    refine ⟨catches x e.c, hk e.c E kn g1, fun hy a' ha' => ?_, fun hn => ?_⟩
    · have q : if catches x e.c = true then isRef ρ' i = false ∧ noExc ρ' = true ∧ ts e.c (goneEnds i d) (ρ'.set i (.exc (fld e.c) e.d)) else hdlE d l e ρ' := q
      rw [if_pos hy] at q
      obtain ⟨nr, nx, q⟩ := q
      have same : ∀ {σ : L2.St}, ∃ y, σ.set i y = σ := fun {σ} => by
        by_cases hi : i < σ.length
        · exact ⟨σ[i], by simp⟩
        · exact ⟨none, List.set_eq_of_length_le (by omega)⟩
      refine ⟨E, a, e.c, rfl, rfl, ⟨kn, hy⟩, g1, { F with ex := some (i, a', a) }, G', _, _, rfl, ?_, q, fun ρ2 σ2 G2 H2 l2 r2 z => ?_, fun ρ2 σ2 G2 H2 l2 r2 z => ?_, fun ρ2 σ2 G2 H2 l2 r2 z => ?_, fun r ρ2 σ2 v2 G2 H2 l2 p2 z => ?_, fun _ _ _ _ _ _ _ _ _ _ z => z.elim⟩
      · refine (Rel.ex (some (i, a', a)) (noExc_of nx) rl).store (noRef_of nr) (fun hl => ⟨a', a, v, rfl, List.getElem?_set_self hl, g4, g5⟩) (fun m => nomatch m) (fun _ h => h) List.nodup_nil
      · exact k.nx _ _ G2 H2 (lg.trans l2) (goneB (G := G) none r2 z.1) z.2
      · exact k.bk _ _ G2 H2 (lg.trans l2) (goneB (G := G) none r2 z.1) z.2
      · exact k.ct _ _ G2 H2 (lg.trans l2) (goneB (G := G) none r2 z.1) z.2
      · obtain ⟨z1, z2, z3⟩ := z
        obtain ⟨y, hy⟩ := same (σ := σ2)
        refine k.rt r _ σ2 v2 G2 H2 (lg.trans l2) ?_ z3
        cases r with
        | dat d => exact ⟨by have z := goneB (G := G) y p2.1 z1; rw [hy] at z; exact z, p2.2⟩
        | fre c d => exact ⟨by have z := goneB (G := G) y p2.1 z1; rw [hy] at z; exact z, p2.2⟩
        | new d =>
          obtain ⟨p, rfl, r2⟩ := p2
          exact ⟨p, rfl, by have z := goneB (G := G) y r2 z1; rw [hy] at z; exact z⟩
        | loc j => exact z2.elim
    · have q : if catches x e.c = true then isRef ρ' i = false ∧ noExc ρ' = true ∧ ts e.c (goneEnds i d) (ρ'.set i (.exc (fld e.c) e.d)) else hdlE d l e ρ' := q
      rw [if_neg (by rw [hn]; exact Bool.false_ne_true)] at q
      exact h2 W F hF G D d k σ e ρ' G' H' _ _ lg rl xo kn q
theorem vs_tryM {X : Cx} {W : WX} {body : List Stmt} {h₀ : ExceptHandler} {hds : List ExceptHandler} {pos : Pos} {known : List Str} {hs : List HdP} {tb : TPs} (hst : X.stack = X.env :: X.outer) (hf : X.env.frame = some X.env.locals) (hN : X.N.Nodup) (tk : Takes X W)
    (hb : ∀ (W' : WX) (pn : List (Addr × Obj)) (xe : Value → Shared → Prop), Takes (X.tr pn xe) W' → PassesOwn (model X.prog X.w) X.A X.env xe → VSs (X.tr pn xe) W' none body tb)
    (hh : VHs X known (h₀ :: hds) hs) : VS X W none (.Try body (h₀ :: hds) [] [] pos) (zTryM known hs tb) := by
  obtain ⟨l, h1, h2⟩ := hh.mach
  refine ⟨_, ps_try_manyA (tb := fun W' => canS X.tx W' none tb) (l := l) hst hf hN tk (fun W' pn xe t p => (hb W' pn xe t p).can) h1, fun F hF => ⟨fun G ρ σ H D d rl t k => ?_⟩⟩
  refine ⟨F, G, ρ, _, hF, rl, t, k.nx, k.bk, k.ct, k.rt, fun σ' e ρ' G' H' cls dd l rl' xo q => ?_⟩
  exact h2 W F hF G D d k σ' e ρ' G' H' cls dd l rl' xo q.1 q.2
/-! ## the caught error's field -/
def yXf (i : Nat) (f : Str) : TPe := fun ρ q _ => match ρ[i]? with
  | some (.exc f' d) => f' = f ∧ q (.dat d) ρ
  | _ => False
/-- what a caught class must have -/
structure ExcOk (K : PySem.W.Frag) (E : Addr) (f : Str) : Prop where
  xf : XfC K E
  no : PySem.W.findIn K (.ref E) f = some none
  is : ExcE K E
theorem excOk_of {P : Program} {K : PySem.W.Frag} {mg : Str → Option Value} {x F f : Str} {C : Addr} (h : Hk.ExOk P K mg x F C) (no : PySem.W.findIn K (.ref C) f = some none) : ExcOk K C f :=
  ⟨⟨h.t.ga, h.t.gg, h.t.exC, h.t.hdC⟩, no, ⟨h.c.cl, h.t.ga, h.t.gg, h.t.exC, h.c.ca, h.c.sp, h.c.tk, h.c.mo⟩⟩
section
variable {X : Cx} {W : WX} {a E dd : Addr} {oe : Obj} {pn : List (Addr × Obj)} {i : Nat} {n f : Str} {np pos p p2 : Pos}
theorem ve_xf (ok : ExcOk X.K E f) (hz : Zc (.ref E) (some dd) oe) (hf : ∃ vs, oe.data = .fields vs) (hN : X.N[i]? = some n := by rfl) (hv : Vis X.env.scope n := by first | exact Or.inl rfl | exact Or.inr (Or.inl rfl) | exact Or.inr (Or.inr rfl)) (hd : (n == ("__debug__" : Str)) = false := by decide)
    (hcd : (n == ("__classdict__" : Str)) = false := by decide) (hb : attributeBase (.Name n np) f X.env (eval (.Name n np) X.env) = eval (.Name n np) X.env := by rfl) :
    VE (X.suite a ((a, oe) :: pn)) W (some (i, a, dd)) (.Attribute (.Name n np) f pos) (yXf i f) := by
  refine ⟨_, pe_xf ok.xf ok.no hz hf (pe_var (X := X.suite a ((a, oe) :: pn)) (i := i) hN hv hd hcd) hb, fun F hF => ⟨fun pd G ρ σ H Q q x R t k w => ?_⟩⟩
  unfold yXf at t
  cases e : ρ[i]? with
  | none => simp only [e] at t
  | some s =>
    simp only [e] at t
    have ok := R.slot _ _ e
    cases s with
    | exc f' d =>
      obtain ⟨a', dd', v, e0, e1, e2, dt⟩ := ok
      obtain ⟨rfl, t⟩ := t
      rw [hF] at e0
      cases e0
      exact ⟨_, e1, rfl, rfl, dd, _, v, rfl, e2, by simp [List.lookup], k (.dat d) ρ v G H (Le.refl _) ⟨R, dt⟩ t⟩
    | _ => exact t.elim
end
end PV
namespace PV
open PySem PySem.Spec PyProof.Rows L2
/-! ## f(e, ..): own lists are lent, not given away: the answer is one that holds nothing -/
end PV
/-! ## sorted(xs), xs a list of tuples of ints, of any lengths -/
namespace SrtV
open PySem PyProof.Rows Srt SrtO
def lexLt : List Int → List Int → Bool
  | [], [] => false
  | [], _ :: _ => true
  | _ :: _, [] => false
  | a :: l, b :: m => if a = b then lexLt l m else decide (a < b)
theorem lex_asymm : ∀ {l m : List Int}, lexLt l m = true → lexLt m l = false
  | [], [], h => by cases h
  | [], _ :: _, _ => rfl
  | _ :: _, [], h => by cases h
  | a :: l, b :: m, h => by
    unfold lexLt at h ⊢
    by_cases e : a = b
    · rw [if_pos e] at h
      rw [if_pos e.symm]
      exact lex_asymm h
    · rw [if_neg e] at h
      rw [if_neg fun z => e z.symm]
      have := of_decide_eq_true h
      exact decide_eq_false (by omega)
theorem lex_antisymm : ∀ {l m : List Int}, lexLt l m = false → lexLt m l = false → l = m
  | [], [], _, _ => rfl
  | [], _ :: _, h, _ => by cases h
  | _ :: _, [], _, h => by cases h
  | a :: l, b :: m, h1, h2 => by
    unfold lexLt at h1 h2
    by_cases e : a = b
    · rw [if_pos e] at h1
      rw [if_pos e.symm] at h2
      rw [e, lex_antisymm h1 h2]
    · rw [if_neg e] at h1
      rw [if_neg fun z => e z.symm] at h2
      have := of_decide_eq_false h1
      have := of_decide_eq_false h2
      exact absurd (by omega) e
end SrtV
namespace L2
open PySem PySem.Spec PyProof.Rows
end L2
namespace PV
open PySem PySem.Spec PyProof.Rows L2
def tuD (l : List Int) : D := .tup (l.map D.int)
end PV
/-! ## len(d), d a dict -/
namespace PV
open PySem PySem.Spec PyProof.Rows L2
end PV
namespace Law
open PySem PySem.Spec PyProof.Rows L2
def topS (i : Nat) : Stmt := PySem.Challenge.pw_reslot_k12_tight_sets_checked.main.body.getD i (.Pass ⟨0, 0, 0, 0⟩)
abbrev s_is_whole : Stmt := topS 7
abbrev s_is_below : Stmt := topS 8
abbrev s_is_slot_list : Stmt := topS 9
abbrev s_check_timetable : Stmt := topS 14
abbrev s_check_book : Stmt := topS 15
abbrev s_users_of_slots : Stmt := topS 16
abbrev s_check_tight : Stmt := topS 18
abbrev s_tight_fault : Stmt := topS 19
abbrev s_law_draw : Stmt := topS 21
abbrev s_law_book : Stmt := topS 22
abbrev s_law_open : Stmt := topS 23
abbrev s_law_due : Stmt := topS 24
abbrev s_law_asked : Stmt := topS 25
abbrev s_law_bent : Stmt := topS 26
abbrev s_law_right : Stmt := topS 27
abbrev s_law : Stmt := topS 28
abbrev s_Book_init : Stmt := inClass (topS 13) 0
abbrev s_Book_size : Stmt := inClass (topS 13) 1
abbrev s_Book_len : Stmt := inClass (topS 13) 2
abbrev s_Book_users : Stmt := inClass (topS 13) 5
abbrev s_NoBook_init : Stmt := inClass (topS 2) 0
abbrev s_NoTimetable_init : Stmt := inClass (topS 3) 0
abbrev s_NoAppointment_init : Stmt := inClass (topS 4) 0
abbrev s_NoCertificate_init : Stmt := inClass (topS 5) 0
end Law
namespace Law
open PySem PySem.Spec PyProof.Rows L2 PySem.EsX He Hk PV
/-- what of the text the defs ask -/
structure Txt (P : Program) (K : PySem.W.Frag) (mg : Str → Option Value) : Prop where
  fr_bool : mg "bool" = none
  fr_enumerate : mg "enumerate" = none
  fr_int : mg "int" = none
  fr_isinstance : mg "isinstance" = none
  fr_len : mg "len" = none
  fr_list : mg "list" = none
  fr_max : mg "max" = none
  fr_range : mg "range" = none
  fr_repr : mg "repr" = none
  fr_set : mg "set" = none
  fr_sorted : mg "sorted" = none
  fr_tuple : mg "tuple" = none
  i_MOST_APPOINTMENTS : ∃ t, mg "MOST_APPOINTMENTS" = some (.int 60 t)
  i_MOST_SLOTS : ∃ t, mg "MOST_SLOTS" = some (.int 60 t)
  x_NoBook : ExOk P K mg "NoBook" (fld "NoBook") (ga K "NoBook")
  x_NoCertificate : ExOk P K mg "NoCertificate" (fld "NoCertificate") (ga K "NoCertificate")
  x_NoTimetable : ExOk P K mg "NoTimetable" (fld "NoTimetable") (ga K "NoTimetable")
  g_Book : mg "Book" = some (.ref (ga K "Book"))
  cl_Book : Cls K (ga K "Book")
  noat_Book__allowed : NoAttr K (ga K "Book") "_allowed"
  noat_Book__slots : NoAttr K (ga K "Book") "_slots"
  noat_Book__users : NoAttr K (ga K "Book") "_users"
  kn_law_asked : ∀ (e : Str) (E : Addr), (["NoTimetable", "NoCertificate"] : List Str).contains e = true → mg e = some (.ref E) → PySem.W.exmOne K (.ref E) (.ref (ga K "NoCertificate")) = some (catches "NoCertificate" e)
  kx_law_asked_index : ∀ (e : Str) (E : Addr), (["NoTimetable", "NoCertificate"] : List Str).contains e = true → catches "NoCertificate" e = true → mg e = some (.ref E) → ExcOk K E "index"
end Law
namespace PV
open PySem PySem.Spec PyProof.Rows L2
def isRefS : Sl → Bool
  | .ref _ => true
  | _ => false
theorem rfa : isRefS .any = false := rfl
theorem rff {d : D} : isRefS (.frz d) = false := rfl
theorem rfo {d : D} : isRefS (.own d) = false := rfl
theorem isRef_eq {ρ : Rho} {i : Nat} : isRef ρ i = match ρ[i]? with
  | some s => isRefS s
  | none => false := by
  unfold isRef
  split
  · rename_i h; rw [h]; rfl
  · rename_i h
    split
    · rename_i s e
      cases s with
      | ref d => exact absurd e (h d)
      | _ => rfl
    · rfl
theorem okI {i : Int} : (D.int i).ok = True := eq_true rfl
theorem okB {i : Bool} : (D.bl i).ok = True := eq_true rfl
theorem okN : D.non.ok = True := eq_true rfl
theorem eqvI {i j : Int} : (D.int i).eqv (.int j) = decide (i = j) := by
  show PyData.eqv (D.int i).py (D.int j).py = _
  simp only [D.py]
  show (i == j) = _
  by_cases h : i = j <;> simp [h]
/-- (a, x), (a + 1, y), .. -/
def enumFrom : Nat → List D → List D
  | _, [] => []
  | a, d :: r => .tupU [.int (a : Nat), d] :: enumFrom (a + 1) r
theorem enum_map : ∀ (ds : List D) (a : Nat), ds.mapIdx (fun i d => D.tupU [.int ((i + a : Nat)), d]) = enumFrom a ds
  | [], a => rfl
  | d :: r, a => by
    rw [List.mapIdx_cons, enumFrom, ← enum_map r (a + 1)]
    congr 1
    · simp
    · congr 1
      funext i d
      rw [show i + 1 + a = i + (a + 1) by omega]
theorem enumD_from (ds : List D) : enumD ds = enumFrom 0 ds := enum_map ds 0
end PV
namespace Law
open PySem PySem.Spec PyProof.Rows L2 PV
theorem pure_is_whole : ∀ as q e, sp_is_whole as q e → t_is_whole (endsOf (refPos 0 as) q e) (entry 1 as) := by
  rintro as q e ⟨d, rfl, ⟨n, hn⟩, k⟩
  show t_is_whole _ [.frz _]
  cases d <;> cases hn <;> simpa [whole, t_is_whole, zSeq, zIf, yT, yB, yVar, yC, yU, yNot, yAnd, yOr, yAndV, yOrV, yNotV, yTru, yIf, yCh, yF, yNil, yCons, yLst, yTup, yDNew, conts, fixs, cont, hold, asB, fGt, fLt, fLe, fGe, fEq, fNe, fI0, fI, fIxA, fIx, fDGet, fIn, fIsN, fNotN, atI, ixN, zSet, zRet, zRetN, zPut, zDrop, zAsg, zAug, zAugS, getA, getL, asgn, give, fix, fMod, fFdiv, fAdd, fAddI, fSub, fMul, fNeg, fPow, fShl, fShr, fAnd, fOr, fXor, setAt, mutAt, uSet, uSetL, uSetD, Sl.put, zNext, isRef_eq, rfa, rff, rfo, fLen, fList, fTuple, fMax2, fMin2, fInt1, fSet0, fRev, fSl, ySl, yPart, yNoPart, yMt, yMs, mAppend, mPopAt, mSAdd, isLst, isSet, yRm, isTup, fIndexT, iSq, iEn, iR1, itemsD, gN, gT, gsCons, gsNil, zFor, zBreak, zCont, zRaise, yCall, yCall0, yMake, yCallN, fixM, agsOf, PV.putAll, put1, noRefs, anyP, yYes, fIsi, tyN, isiT, truD, fBits, endsOf, refPos, refsAt, notLoc, okI, okB, okN, eqvI, zForF, fgM, fgS] using k
theorem pure_is_below : ∀ as q e, sp_is_below as q e → t_is_below (endsOf (refPos 0 as) q e) (entry 2 as) := by
  rintro as q e ⟨d, m, rfl, ⟨n, hn⟩, k⟩
  show t_is_below _ [.frz _, .frz _]
  cases d with
  | int i =>
    simp [below] at k
    by_cases h : 0 ≤ i <;> simp [h] at k <;> simpa [t_is_below, zSeq, zIf, yT, yB, yVar, yC, yU, yNot, yAnd, yOr, yAndV, yOrV, yNotV, yTru, yIf, yCh, yF, yNil, yCons, yLst, yTup, yDNew, conts, fixs, cont, hold, asB, fGt, fLt, fLe, fGe, fEq, fNe, fI0, fI, fIxA, fIx, fDGet, fIn, fIsN, fNotN, atI, ixN, zSet, zRet, zRetN, zPut, zDrop, zAsg, zAug, zAugS, getA, getL, asgn, give, fix, fMod, fFdiv, fAdd, fAddI, fSub, fMul, fNeg, fPow, fShl, fShr, fAnd, fOr, fXor, setAt, mutAt, uSet, uSetL, uSetD, Sl.put, zNext, isRef_eq, rfa, rff, rfo, fLen, fList, fTuple, fMax2, fMin2, fInt1, fSet0, fRev, fSl, ySl, yPart, yNoPart, yMt, yMs, mAppend, mPopAt, mSAdd, isLst, isSet, yRm, isTup, fIndexT, iSq, iEn, iR1, itemsD, gN, gT, gsCons, gsNil, zFor, zBreak, zCont, zRaise, yCall, yCall0, yMake, yCallN, fixM, agsOf, PV.putAll, put1, noRefs, anyP, yYes, fIsi, tyN, isiT, truD, fBits, endsOf, refPos, refsAt, notLoc, okI, okB, okN, eqvI, zForF, fgM, fgS, h] using k
  | _ => cases hn <;> simpa [below, t_is_below, zSeq, zIf, yT, yB, yVar, yC, yU, yNot, yAnd, yOr, yAndV, yOrV, yNotV, yTru, yIf, yCh, yF, yNil, yCons, yLst, yTup, yDNew, conts, fixs, cont, hold, asB, fGt, fLt, fLe, fGe, fEq, fNe, fI0, fI, fIxA, fIx, fDGet, fIn, fIsN, fNotN, atI, ixN, zSet, zRet, zRetN, zPut, zDrop, zAsg, zAug, zAugS, getA, getL, asgn, give, fix, fMod, fFdiv, fAdd, fAddI, fSub, fMul, fNeg, fPow, fShl, fShr, fAnd, fOr, fXor, setAt, mutAt, uSet, uSetL, uSetD, Sl.put, zNext, isRef_eq, rfa, rff, rfo, fLen, fList, fTuple, fMax2, fMin2, fInt1, fSet0, fRev, fSl, ySl, yPart, yNoPart, yMt, yMs, mAppend, mPopAt, mSAdd, isLst, isSet, yRm, isTup, fIndexT, iSq, iEn, iR1, itemsD, gN, gT, gsCons, gsNil, zFor, zBreak, zCont, zRaise, yCall, yCall0, yMake, yCallN, fixM, agsOf, PV.putAll, put1, noRefs, anyP, yYes, fIsi, tyN, isiT, truD, fBits, endsOf, refPos, refsAt, notLoc, okI, okB, okN, eqvI, zForF, fgM, fgS] using k
theorem slots_loop {E : PEnds} {n : Int} {v : D} : ∀ (ds : List D) (b : Int) (s : Sl), isRefS s = false → (∀ x ∈ ds, plain x) → (slotsUp n b ds = true → ∀ ρ, E.nx ρ) → (slotsUp n b ds = false → ∀ ρ, E.rt (.dat (.bl false)) ρ) →
    zForL (gN 3) (zSeq (zIf (yOr (yNot (yTru (yU (fIsi "int" []) (yVar 3)))) (yOr (yTru (yU (fIsi "bool" []) (yVar 3))) (yNot (yT (yCh fLt fLt (yVar 2) (yVar 3) (yVar 1))))))
    (zRet (yC (.bl false))) zNext)
    (zSet 2 (yVar 3))) E ds [.frz v, .frz (.int n), .frz (.int b), s]
  | [], b, s, hs, hp, k1, k2 => k1 rfl _
  | d :: r, b, s, hs, hp, k1, k2 => by
    obtain ⟨ty, hty⟩ := hp d List.mem_cons_self
    have hr : ∀ x ∈ r, plain x := fun x hx => hp x (List.mem_cons_of_mem _ hx)
    cases d with
    | int i =>
      have ih := slots_loop (E := E) (n := n) (v := v) r i (.frz (.int i)) rfl hr
      simp only [slotsUp] at k1 k2
      by_cases h1 : b < i
      · by_cases h2 : i < n
        · simp only [h1, h2, decide_true, Bool.true_and] at k1 k2
          simpa [zForL, zSeq, zIf, yT, yB, yVar, yC, yU, yNot, yAnd, yOr, yAndV, yOrV, yNotV, yTru, yIf, yCh, yF, yNil, yCons, yLst, yTup, yDNew, conts, fixs, cont, hold, asB, fGt, fLt, fLe, fGe, fEq, fNe, fI0, fI, fIxA, fIx, fDGet, fIn, fIsN, fNotN, atI, ixN, zSet, zRet, zRetN, zPut, zDrop, zAsg, zAug, zAugS, getA, getL, asgn, give, fix, fMod, fFdiv, fAdd, fAddI, fSub, fMul, fNeg, fPow, fShl, fShr, fAnd, fOr, fXor, setAt, mutAt, uSet, uSetL, uSetD, Sl.put, zNext, isRef_eq, rfa, rff, rfo, fLen, fList, fTuple, fMax2, fMin2, fInt1, fSet0, fRev, fSl, ySl, yPart, yNoPart, yMt, yMs, mAppend, mPopAt, mSAdd, isLst, isSet, yRm, isTup, fIndexT, iSq, iEn, iR1, itemsD, gN, gT, gsCons, gsNil, zFor, zBreak, zCont, zRaise, yCall, yCall0, yMake, yCallN, fixM, agsOf, PV.putAll, put1, noRefs, anyP, yYes, fIsi, tyN, isiT, truD, fBits, endsOf, refPos, refsAt, notLoc, okI, okB, okN, eqvI, zForF, fgM, fgS, h1, h2, hs] using ih k1 k2
        · simpa [zForL, zSeq, zIf, yT, yB, yVar, yC, yU, yNot, yAnd, yOr, yAndV, yOrV, yNotV, yTru, yIf, yCh, yF, yNil, yCons, yLst, yTup, yDNew, conts, fixs, cont, hold, asB, fGt, fLt, fLe, fGe, fEq, fNe, fI0, fI, fIxA, fIx, fDGet, fIn, fIsN, fNotN, atI, ixN, zSet, zRet, zRetN, zPut, zDrop, zAsg, zAug, zAugS, getA, getL, asgn, give, fix, fMod, fFdiv, fAdd, fAddI, fSub, fMul, fNeg, fPow, fShl, fShr, fAnd, fOr, fXor, setAt, mutAt, uSet, uSetL, uSetD, Sl.put, zNext, isRef_eq, rfa, rff, rfo, fLen, fList, fTuple, fMax2, fMin2, fInt1, fSet0, fRev, fSl, ySl, yPart, yNoPart, yMt, yMs, mAppend, mPopAt, mSAdd, isLst, isSet, yRm, isTup, fIndexT, iSq, iEn, iR1, itemsD, gN, gT, gsCons, gsNil, zFor, zBreak, zCont, zRaise, yCall, yCall0, yMake, yCallN, fixM, agsOf, PV.putAll, put1, noRefs, anyP, yYes, fIsi, tyN, isiT, truD, fBits, endsOf, refPos, refsAt, notLoc, okI, okB, okN, eqvI, zForF, fgM, fgS, h1, h2, hs] using k2 (by simp [h2]) _
      · simpa [zForL, zSeq, zIf, yT, yB, yVar, yC, yU, yNot, yAnd, yOr, yAndV, yOrV, yNotV, yTru, yIf, yCh, yF, yNil, yCons, yLst, yTup, yDNew, conts, fixs, cont, hold, asB, fGt, fLt, fLe, fGe, fEq, fNe, fI0, fI, fIxA, fIx, fDGet, fIn, fIsN, fNotN, atI, ixN, zSet, zRet, zRetN, zPut, zDrop, zAsg, zAug, zAugS, getA, getL, asgn, give, fix, fMod, fFdiv, fAdd, fAddI, fSub, fMul, fNeg, fPow, fShl, fShr, fAnd, fOr, fXor, setAt, mutAt, uSet, uSetL, uSetD, Sl.put, zNext, isRef_eq, rfa, rff, rfo, fLen, fList, fTuple, fMax2, fMin2, fInt1, fSet0, fRev, fSl, ySl, yPart, yNoPart, yMt, yMs, mAppend, mPopAt, mSAdd, isLst, isSet, yRm, isTup, fIndexT, iSq, iEn, iR1, itemsD, gN, gT, gsCons, gsNil, zFor, zBreak, zCont, zRaise, yCall, yCall0, yMake, yCallN, fixM, agsOf, PV.putAll, put1, noRefs, anyP, yYes, fIsi, tyN, isiT, truD, fBits, endsOf, refPos, refsAt, notLoc, okI, okB, okN, eqvI, zForF, fgM, fgS, h1, hs] using k2 (by simp [h1]) _
    | _ => cases hty <;> simpa [zForL, zSeq, zIf, yT, yB, yVar, yC, yU, yNot, yAnd, yOr, yAndV, yOrV, yNotV, yTru, yIf, yCh, yF, yNil, yCons, yLst, yTup, yDNew, conts, fixs, cont, hold, asB, fGt, fLt, fLe, fGe, fEq, fNe, fI0, fI, fIxA, fIx, fDGet, fIn, fIsN, fNotN, atI, ixN, zSet, zRet, zRetN, zPut, zDrop, zAsg, zAug, zAugS, getA, getL, asgn, give, fix, fMod, fFdiv, fAdd, fAddI, fSub, fMul, fNeg, fPow, fShl, fShr, fAnd, fOr, fXor, setAt, mutAt, uSet, uSetL, uSetD, Sl.put, zNext, isRef_eq, rfa, rff, rfo, fLen, fList, fTuple, fMax2, fMin2, fInt1, fSet0, fRev, fSl, ySl, yPart, yNoPart, yMt, yMs, mAppend, mPopAt, mSAdd, isLst, isSet, yRm, isTup, fIndexT, iSq, iEn, iR1, itemsD, gN, gT, gsCons, gsNil, zFor, zBreak, zCont, zRaise, yCall, yCall0, yMake, yCallN, fixM, agsOf, PV.putAll, put1, noRefs, anyP, yYes, fIsi, tyN, isiT, truD, fBits, endsOf, refPos, refsAt, notLoc, okI, okB, okN, eqvI, zForF, fgM, fgS, hs] using k2 rfl _
theorem pure_is_slot_list : ∀ as q e, sp_is_slot_list as q e → t_is_slot_list (endsOf (refPos 0 as) q e) (entry 4 as) := by
  rintro as q e ⟨d, n, rfl, ⟨⟨ty, hty⟩, hp⟩, k⟩
  show t_is_slot_list _ [.frz _, .frz _, .any, .any]
  cases d with
  | lst ds =>
    have hp := hp ds rfl
    cases ds with
    | nil => simpa [t_is_slot_list, zSeq, zIf, yT, yB, yVar, yC, yU, yNot, yAnd, yOr, yAndV, yOrV, yNotV, yTru, yIf, yCh, yF, yNil, yCons, yLst, yTup, yDNew, conts, fixs, cont, hold, asB, fGt, fLt, fLe, fGe, fEq, fNe, fI0, fI, fIxA, fIx, fDGet, fIn, fIsN, fNotN, atI, ixN, zSet, zRet, zRetN, zPut, zDrop, zAsg, zAug, zAugS, getA, getL, asgn, give, fix, fMod, fFdiv, fAdd, fAddI, fSub, fMul, fNeg, fPow, fShl, fShr, fAnd, fOr, fXor, setAt, mutAt, uSet, uSetL, uSetD, Sl.put, zNext, isRef_eq, rfa, rff, rfo, fLen, fList, fTuple, fMax2, fMin2, fInt1, fSet0, fRev, fSl, ySl, yPart, yNoPart, yMt, yMs, mAppend, mPopAt, mSAdd, isLst, isSet, yRm, isTup, fIndexT, iSq, iEn, iR1, itemsD, gN, gT, gsCons, gsNil, zFor, zBreak, zCont, zRaise, yCall, yCall0, yMake, yCallN, fixM, agsOf, PV.putAll, put1, noRefs, anyP, yYes, fIsi, tyN, isiT, truD, fBits, endsOf, refPos, refsAt, notLoc, okI, okB, okN, eqvI, zForF, fgM, fgS, slotList] using k
    | cons x r =>
      have h0 : ¬ ((r.length : Int) + 1 = 0) := by omega
      simp [t_is_slot_list, zSeq, zIf, yT, yB, yVar, yC, yU, yNot, yAnd, yOr, yAndV, yOrV, yNotV, yTru, yIf, yCh, yF, yNil, yCons, yLst, yTup, yDNew, conts, fixs, cont, hold, asB, fGt, fLt, fLe, fGe, fEq, fNe, fI0, fI, fIxA, fIx, fDGet, fIn, fIsN, fNotN, atI, ixN, zSet, zRet, zRetN, zPut, zDrop, zAsg, zAug, zAugS, getA, getL, asgn, give, fix, fMod, fFdiv, fAdd, fAddI, fSub, fMul, fNeg, fPow, fShl, fShr, fAnd, fOr, fXor, setAt, mutAt, uSet, uSetL, uSetD, Sl.put, zNext, isRef_eq, rfa, rff, rfo, fLen, fList, fTuple, fMax2, fMin2, fInt1, fSet0, fRev, fSl, ySl, yPart, yNoPart, yMt, yMs, mAppend, mPopAt, mSAdd, isLst, isSet, yRm, isTup, fIndexT, iSq, iEn, iR1, itemsD, gN, gT, gsCons, gsNil, zFor, zBreak, zCont, zRaise, yCall, yCall0, yMake, yCallN, fixM, agsOf, PV.putAll, put1, noRefs, anyP, yYes, fIsi, tyN, isiT, truD, fBits, endsOf, refPos, refsAt, notLoc, okI, okB, okN, eqvI, zForF, fgM, fgS, h0]
      refine slots_loop (x :: r) (-1) .any rfl hp (fun h ρ => ?_) (fun h ρ => ?_)
      · simp only [slotList, h] at k
        simpa [zSeq, zIf, yT, yB, yVar, yC, yU, yNot, yAnd, yOr, yAndV, yOrV, yNotV, yTru, yIf, yCh, yF, yNil, yCons, yLst, yTup, yDNew, conts, fixs, cont, hold, asB, fGt, fLt, fLe, fGe, fEq, fNe, fI0, fI, fIxA, fIx, fDGet, fIn, fIsN, fNotN, atI, ixN, zSet, zRet, zRetN, zPut, zDrop, zAsg, zAug, zAugS, getA, getL, asgn, give, fix, fMod, fFdiv, fAdd, fAddI, fSub, fMul, fNeg, fPow, fShl, fShr, fAnd, fOr, fXor, setAt, mutAt, uSet, uSetL, uSetD, Sl.put, zNext, isRef_eq, rfa, rff, rfo, fLen, fList, fTuple, fMax2, fMin2, fInt1, fSet0, fRev, fSl, ySl, yPart, yNoPart, yMt, yMs, mAppend, mPopAt, mSAdd, isLst, isSet, yRm, isTup, fIndexT, iSq, iEn, iR1, itemsD, gN, gT, gsCons, gsNil, zFor, zBreak, zCont, zRaise, yCall, yCall0, yMake, yCallN, fixM, agsOf, PV.putAll, put1, noRefs, anyP, yYes, fIsi, tyN, isiT, truD, fBits, endsOf, refPos, refsAt, notLoc, okI, okB, okN, eqvI, zForF, fgM, fgS] using k
      · simp only [slotList, h] at k
        simpa [zSeq, zIf, yT, yB, yVar, yC, yU, yNot, yAnd, yOr, yAndV, yOrV, yNotV, yTru, yIf, yCh, yF, yNil, yCons, yLst, yTup, yDNew, conts, fixs, cont, hold, asB, fGt, fLt, fLe, fGe, fEq, fNe, fI0, fI, fIxA, fIx, fDGet, fIn, fIsN, fNotN, atI, ixN, zSet, zRet, zRetN, zPut, zDrop, zAsg, zAug, zAugS, getA, getL, asgn, give, fix, fMod, fFdiv, fAdd, fAddI, fSub, fMul, fNeg, fPow, fShl, fShr, fAnd, fOr, fXor, setAt, mutAt, uSet, uSetL, uSetD, Sl.put, zNext, isRef_eq, rfa, rff, rfo, fLen, fList, fTuple, fMax2, fMin2, fInt1, fSet0, fRev, fSl, ySl, yPart, yNoPart, yMt, yMs, mAppend, mPopAt, mSAdd, isLst, isSet, yRm, isTup, fIndexT, iSq, iEn, iR1, itemsD, gN, gT, gsCons, gsNil, zFor, zBreak, zCont, zRaise, yCall, yCall0, yMake, yCallN, fixM, agsOf, PV.putAll, put1, noRefs, anyP, yYes, fIsi, tyN, isiT, truD, fBits, endsOf, refPos, refsAt, notLoc, okI, okB, okN, eqvI, zForF, fgM, fgS] using k
  | _ => cases hty <;> simpa [t_is_slot_list, zSeq, zIf, yT, yB, yVar, yC, yU, yNot, yAnd, yOr, yAndV, yOrV, yNotV, yTru, yIf, yCh, yF, yNil, yCons, yLst, yTup, yDNew, conts, fixs, cont, hold, asB, fGt, fLt, fLe, fGe, fEq, fNe, fI0, fI, fIxA, fIx, fDGet, fIn, fIsN, fNotN, atI, ixN, zSet, zRet, zRetN, zPut, zDrop, zAsg, zAug, zAugS, getA, getL, asgn, give, fix, fMod, fFdiv, fAdd, fAddI, fSub, fMul, fNeg, fPow, fShl, fShr, fAnd, fOr, fXor, setAt, mutAt, uSet, uSetL, uSetD, Sl.put, zNext, isRef_eq, rfa, rff, rfo, fLen, fList, fTuple, fMax2, fMin2, fInt1, fSet0, fRev, fSl, ySl, yPart, yNoPart, yMt, yMs, mAppend, mPopAt, mSAdd, isLst, isSet, yRm, isTup, fIndexT, iSq, iEn, iR1, itemsD, gN, gT, gsCons, gsNil, zFor, zBreak, zCont, zRaise, yCall, yCall0, yMake, yCallN, fixM, agsOf, PV.putAll, put1, noRefs, anyP, yYes, fIsi, tyN, isiT, truD, fBits, endsOf, refPos, refsAt, notLoc, okI, okB, okN, eqvI, zForF, fgM, fgS, slotList] using k
end Law
namespace Law
open PySem PySem.Spec PyProof.Rows L2 PV
theorem fld_slots {n : Int} {rows : List (List Int)} {q : R → Prop} : fFld "Book" "_slots" (bookOf n rows) q = q (.dat (.int n)) := propext ⟨fun ⟨_, x, e, h⟩ => by cases e; exact h, fun h => ⟨rfl, _, rfl, h⟩⟩
theorem fld_allowed {n : Int} {rows : List (List Int)} {q : R → Prop} : fFld "Book" "_allowed" (bookOf n rows) q = q (.dat (.lst (rows.map rowD))) := propext ⟨fun ⟨_, x, e, h⟩ => by cases e; exact h, fun h => ⟨rfl, _, rfl, h⟩⟩
theorem fld_users {n : Int} {rows : List (List Int)} {q : R → Prop} : fFld "Book" "_users" (bookOf n rows) q = q (.dat (.tup ((usersOf n rows).map natD))) := propext ⟨fun ⟨_, x, e, h⟩ => by cases e; exact h, fun h => ⟨rfl, _, rfl, h⟩⟩
theorem pure_Book_size : ∀ as q e, sp_Book_size as q e → t_Book_size (endsOf (refPos 0 as) q e) (entry 1 as) := by
  rintro as q e ⟨n, rows, rfl, k⟩
  show t_Book_size _ [.frz _]
  simpa [t_Book_size, zSeq, zIf, yT, yB, yVar, yC, yU, yNot, yAnd, yOr, yAndV, yOrV, yNotV, yTru, yIf, yCh, yF, yNil, yCons, yLst, yTup, yDNew, conts, fixs, cont, hold, asB, fGt, fLt, fLe, fGe, fEq, fNe, fI0, fI, fIxA, fIx, fDGet, fIn, fIsN, fNotN, atI, ixN, zSet, zRet, zRetN, zPut, zDrop, zAsg, zAug, zAugS, getA, getL, asgn, give, fix, fMod, fFdiv, fAdd, fAddI, fSub, fMul, fNeg, fPow, fShl, fShr, fAnd, fOr, fXor, setAt, mutAt, uSet, uSetL, uSetD, Sl.put, zNext, isRef_eq, rfa, rff, rfo, fLen, fList, fTuple, fMax2, fMin2, fInt1, fSet0, fRev, fSl, ySl, yPart, yNoPart, yMt, yMs, mAppend, mPopAt, mSAdd, isLst, isSet, yRm, isTup, fIndexT, iSq, iEn, iR1, itemsD, gN, gT, gsCons, gsNil, zFor, zBreak, zCont, zRaise, yCall, yCall0, yMake, yCallN, fixM, agsOf, PV.putAll, put1, noRefs, anyP, yYes, fIsi, tyN, isiT, truD, fBits, endsOf, refPos, refsAt, notLoc, okI, okB, okN, eqvI, zForF, fgM, fgS, fld_slots] using k
theorem pure_Book_len : ∀ as q e, sp_Book_len as q e → t_Book_len (endsOf (refPos 0 as) q e) (entry 1 as) := by
  rintro as q e ⟨n, rows, rfl, k⟩
  show t_Book_len _ [.frz _]
  simpa [t_Book_len, zSeq, zIf, yT, yB, yVar, yC, yU, yNot, yAnd, yOr, yAndV, yOrV, yNotV, yTru, yIf, yCh, yF, yNil, yCons, yLst, yTup, yDNew, conts, fixs, cont, hold, asB, fGt, fLt, fLe, fGe, fEq, fNe, fI0, fI, fIxA, fIx, fDGet, fIn, fIsN, fNotN, atI, ixN, zSet, zRet, zRetN, zPut, zDrop, zAsg, zAug, zAugS, getA, getL, asgn, give, fix, fMod, fFdiv, fAdd, fAddI, fSub, fMul, fNeg, fPow, fShl, fShr, fAnd, fOr, fXor, setAt, mutAt, uSet, uSetL, uSetD, Sl.put, zNext, isRef_eq, rfa, rff, rfo, fLen, fList, fTuple, fMax2, fMin2, fInt1, fSet0, fRev, fSl, ySl, yPart, yNoPart, yMt, yMs, mAppend, mPopAt, mSAdd, isLst, isSet, yRm, isTup, fIndexT, iSq, iEn, iR1, itemsD, gN, gT, gsCons, gsNil, zFor, zBreak, zCont, zRaise, yCall, yCall0, yMake, yCallN, fixM, agsOf, PV.putAll, put1, noRefs, anyP, yYes, fIsi, tyN, isiT, truD, fBits, endsOf, refPos, refsAt, notLoc, okI, okB, okN, eqvI, zForF, fgM, fgS, fld_allowed] using k
theorem pure_Book_users : ∀ as q e, sp_Book_users as q e → t_Book_users (endsOf (refPos 0 as) q e) (entry 1 as) := by
  rintro as q e ⟨n, rows, rfl, k⟩
  show t_Book_users _ [.frz _]
  simpa [t_Book_users, zSeq, zIf, yT, yB, yVar, yC, yU, yNot, yAnd, yOr, yAndV, yOrV, yNotV, yTru, yIf, yCh, yF, yNil, yCons, yLst, yTup, yDNew, conts, fixs, cont, hold, asB, fGt, fLt, fLe, fGe, fEq, fNe, fI0, fI, fIxA, fIx, fDGet, fIn, fIsN, fNotN, atI, ixN, zSet, zRet, zRetN, zPut, zDrop, zAsg, zAug, zAugS, getA, getL, asgn, give, fix, fMod, fFdiv, fAdd, fAddI, fSub, fMul, fNeg, fPow, fShl, fShr, fAnd, fOr, fXor, setAt, mutAt, uSet, uSetL, uSetD, Sl.put, zNext, isRef_eq, rfa, rff, rfo, fLen, fList, fTuple, fMax2, fMin2, fInt1, fSet0, fRev, fSl, ySl, yPart, yNoPart, yMt, yMs, mAppend, mPopAt, mSAdd, isLst, isSet, yRm, isTup, fIndexT, iSq, iEn, iR1, itemsD, gN, gT, gsCons, gsNil, zFor, zBreak, zCont, zRaise, yCall, yCall0, yMake, yCallN, fixM, agsOf, PV.putAll, put1, noRefs, anyP, yYes, fIsi, tyN, isiT, truD, fBits, endsOf, refPos, refsAt, notLoc, okI, okB, okN, eqvI, zForF, fgM, fgS, fld_users] using k
/-- a method of a book -/
theorem meth_book {m : Str} {sp : PSp} {n : Int} {rows : List (List Int)} {ρ : Rho} {i : Nat} {q : R → Rho → Prop} {x : Exn → Rho → Prop} (hm : (["_slots", "_allowed", "_users"] : List Str).contains m = false) (hi : ρ[i]? = some (.frz (bookOf n rows))) (h : sp [.dat (bookOf n rows)] (fun r _ => q r ρ) (fun e _ => x e ρ)) :
    yMeth "Book" m sp [] [] (yVar i) yNil ρ q x := by
  unfold yMeth yVar
  simp only [hi, fix, bookOf]
  exact ⟨trivial, hm, h⟩
theorem len_book {n : Int} {rows : List (List Int)} {ρ : Rho} {i : Nat} {q : R → Rho → Prop} {x : Exn → Rho → Prop} (hi : ρ[i]? = some (.frz (bookOf n rows))) (hl : rows.length ≤ 60) (h : q (.dat (.int (rows.length : Nat))) ρ) :
    yLenO "Book" sp_Book_len (yVar i) ρ q x := by
  unfold yLenO yVar
  simp only [hi, fix, bookOf]
  exact ⟨trivial, n, rows, rfl, by omega, by omega, h⟩
theorem ap_is_whole {d : D} {q e} : sp_is_whole [.dat d] q e = (plain d ∧ q (.dat (.bl (whole d))) []) := propext ⟨fun ⟨d', h, a, b⟩ => by cases h; exact ⟨a, b⟩, fun ⟨a, b⟩ => ⟨d, rfl, a, b⟩⟩
theorem ap_is_below {d : D} {m : Int} {q e} : sp_is_below [.dat d, .dat (.int m)] q e = (plain d ∧ q (.dat (.bl (below d m))) []) := propext ⟨fun ⟨d', m', h, a, b⟩ => by cases h; exact ⟨a, b⟩, fun ⟨a, b⟩ => ⟨d, m, rfl, a, b⟩⟩
theorem ap_is_slot_list {d : D} {m : Int} {q e} : sp_is_slot_list [.dat d, .dat (.int m)] q e = (plain1 d ∧ q (.dat (.bl (slotList m d))) []) := propext ⟨fun ⟨d', m', h, a, b⟩ => by cases h; exact ⟨a, b⟩, fun ⟨a, b⟩ => ⟨d, m, rfl, a, b⟩⟩
/-! ### _check_book -/
theorem rows_loop {E : PEnds} {n : Int} {v : D} : ∀ (ds : List D) (j : Nat) (s t : Sl), isRefS s = false → isRefS t = false → (∀ x ∈ ds, plain1 x) → (rowFault n j ds = none → ∀ ρ, E.nx ρ) → (∀ i, rowFault n j ds = some i → ∀ ρ, E.xc ⟨"NoBook", .int i⟩ ρ) →
    zForL (gT 2 (gsCons (gN 2) (gsCons (gN 3) gsNil)))
    (zIf (yNot (yTru (yCall sp_is_slot_list [false, false] [] (yCons (yVar 3) (yCons (yVar 0) yNil)))))
    (zRaise "NoBook" (yCons (yVar 2) yNil)) zNext) E (enumFrom j ds) [.frz (.int n), .frz v, s, t]
  | [], j, s, t, hs, ht, hp, k1, k3 => k1 rfl _
  | d :: r, j, s, t, hs, ht, hp, k1, k3 => by
    have hr : ∀ x ∈ r, plain1 x := fun x hx => hp x (List.mem_cons_of_mem _ hx)
    have ih := rows_loop (E := E) (n := n) (v := v) r (j + 1) (.frz (.int j)) (.frz d) rfl rfl hr
    have pd := hp d List.mem_cons_self
    simp only [rowFault] at k1 k3
    by_cases h : slotList n d = true
    · simp only [h, if_true] at k1 k3
      have ih := ih (by simpa using k1) (by simpa using k3)
      simpa [zForL, zSeq, zIf, yT, yB, yVar, yC, yU, yNot, yAnd, yOr, yAndV, yOrV, yNotV, yTru, yIf, yCh, yF, yNil, yCons, yLst, yTup, yDNew, conts, fixs, cont, hold, asB, fGt, fLt, fLe, fGe, fEq, fNe, fI0, fI, fIxA, fIx, fDGet, fIn, fIsN, fNotN, atI, ixN, zSet, zRet, zRetN, zPut, zDrop, zAsg, zAug, zAugS, getA, getL, asgn, give, fix, fMod, fFdiv, fAdd, fAddI, fSub, fMul, fNeg, fPow, fShl, fShr, fAnd, fOr, fXor, setAt, mutAt, uSet, uSetL, uSetD, Sl.put, zNext, isRef_eq, rfa, rff, rfo, fLen, fList, fTuple, fMax2, fMin2, fInt1, fSet0, fRev, fSl, ySl, yPart, yNoPart, yMt, yMs, mAppend, mPopAt, mSAdd, isLst, isSet, yRm, isTup, fIndexT, iSq, iEn, iR1, itemsD, gN, gT, gsCons, gsNil, zFor, zBreak, zCont, zRaise, yCall, yCall0, yMake, yCallN, fixM, agsOf, PV.putAll, put1, noRefs, anyP, yYes, fIsi, tyN, isiT, truD, fBits, endsOf, refPos, refsAt, notLoc, okI, okB, okN, eqvI, zForF, fgM, fgS, hs, ht, ap_is_slot_list, pd, h, enumFrom] using ih
    · have h : slotList n d = false := by simpa using h
      have := k3 j (by simp [h])
      simpa [zForL, zSeq, zIf, yT, yB, yVar, yC, yU, yNot, yAnd, yOr, yAndV, yOrV, yNotV, yTru, yIf, yCh, yF, yNil, yCons, yLst, yTup, yDNew, conts, fixs, cont, hold, asB, fGt, fLt, fLe, fGe, fEq, fNe, fI0, fI, fIxA, fIx, fDGet, fIn, fIsN, fNotN, atI, ixN, zSet, zRet, zRetN, zPut, zDrop, zAsg, zAug, zAugS, getA, getL, asgn, give, fix, fMod, fFdiv, fAdd, fAddI, fSub, fMul, fNeg, fPow, fShl, fShr, fAnd, fOr, fXor, setAt, mutAt, uSet, uSetL, uSetD, Sl.put, zNext, isRef_eq, rfa, rff, rfo, fLen, fList, fTuple, fMax2, fMin2, fInt1, fSet0, fRev, fSl, ySl, yPart, yNoPart, yMt, yMs, mAppend, mPopAt, mSAdd, isLst, isSet, yRm, isTup, fIndexT, iSq, iEn, iR1, itemsD, gN, gT, gsCons, gsNil, zFor, zBreak, zCont, zRaise, yCall, yCall0, yMake, yCallN, fixM, agsOf, PV.putAll, put1, noRefs, anyP, yYes, fIsi, tyN, isiT, truD, fBits, endsOf, refPos, refsAt, notLoc, okI, okB, okN, eqvI, zForF, fgM, fgS, hs, ht, ap_is_slot_list, pd, h, enumFrom] using this _
theorem pure_check_book : ∀ as q e, sp_check_book as q e → t_check_book (endsOf (refPos 0 as) q e) (entry 4 as) := by
  rintro as q e ⟨d, a, rfl, pd, ⟨pa, pb⟩, k⟩
  show t_check_book _ [.frz _, .frz _, .any, .any]
  obtain ⟨ty, hty⟩ := pd
  obtain ⟨ta, hta⟩ := pa
  have pd : plain d := ⟨ty, hty⟩
  cases d with
  | int n =>
    by_cases h1 : 1 ≤ n
    · by_cases h2 : n ≤ 60
      · cases a with
        | lst ds =>
          have pb := pb ds rfl
          by_cases h3 : ds.length ≤ 60
          · have h4 : ¬ (60 : Int) < ds.length := by omega
            simp [bookFault, h1, h2, h3, orFault] at k
            simp [t_check_book, zSeq, zIf, yT, yB, yVar, yC, yU, yNot, yAnd, yOr, yAndV, yOrV, yNotV, yTru, yIf, yCh, yF, yNil, yCons, yLst, yTup, yDNew, conts, fixs, cont, hold, asB, fGt, fLt, fLe, fGe, fEq, fNe, fI0, fI, fIxA, fIx, fDGet, fIn, fIsN, fNotN, atI, ixN, zSet, zRet, zRetN, zPut, zDrop, zAsg, zAug, zAugS, getA, getL, asgn, give, fix, fMod, fFdiv, fAdd, fAddI, fSub, fMul, fNeg, fPow, fShl, fShr, fAnd, fOr, fXor, setAt, mutAt, uSet, uSetL, uSetD, Sl.put, zNext, isRef_eq, rfa, rff, rfo, fLen, fList, fTuple, fMax2, fMin2, fInt1, fSet0, fRev, fSl, ySl, yPart, yNoPart, yMt, yMs, mAppend, mPopAt, mSAdd, isLst, isSet, yRm, isTup, fIndexT, iSq, iEn, iR1, itemsD, gN, gT, gsCons, gsNil, zFor, zBreak, zCont, zRaise, yCall, yCall0, yMake, yCallN, fixM, agsOf, PV.putAll, put1, noRefs, anyP, yYes, fIsi, tyN, isiT, truD, fBits, endsOf, refPos, refsAt, notLoc, okI, okB, okN, eqvI, zForF, fgM, fgS, ap_is_whole, pd, whole, h1, h2, h4, enumD_from]
            refine rows_loop (v := .lst ds) ds 0 .any .any rfl rfl pb (fun h ρ => ?_) (fun i h ρ => ?_)
            · have h : rowFault n 0 ds = none := h
              rw [h] at k
              exact k
            · have h : rowFault n 0 ds = some i := h
              rw [h] at k
              exact k
          · have h4 : (60 : Int) < ds.length := by omega
            simp [bookFault, h1, h2, h3, orFault] at k
            simpa [t_check_book, zSeq, zIf, yT, yB, yVar, yC, yU, yNot, yAnd, yOr, yAndV, yOrV, yNotV, yTru, yIf, yCh, yF, yNil, yCons, yLst, yTup, yDNew, conts, fixs, cont, hold, asB, fGt, fLt, fLe, fGe, fEq, fNe, fI0, fI, fIxA, fIx, fDGet, fIn, fIsN, fNotN, atI, ixN, zSet, zRet, zRetN, zPut, zDrop, zAsg, zAug, zAugS, getA, getL, asgn, give, fix, fMod, fFdiv, fAdd, fAddI, fSub, fMul, fNeg, fPow, fShl, fShr, fAnd, fOr, fXor, setAt, mutAt, uSet, uSetL, uSetD, Sl.put, zNext, isRef_eq, rfa, rff, rfo, fLen, fList, fTuple, fMax2, fMin2, fInt1, fSet0, fRev, fSl, ySl, yPart, yNoPart, yMt, yMs, mAppend, mPopAt, mSAdd, isLst, isSet, yRm, isTup, fIndexT, iSq, iEn, iR1, itemsD, gN, gT, gsCons, gsNil, zFor, zBreak, zCont, zRaise, yCall, yCall0, yMake, yCallN, fixM, agsOf, PV.putAll, put1, noRefs, anyP, yYes, fIsi, tyN, isiT, truD, fBits, endsOf, refPos, refsAt, notLoc, okI, okB, okN, eqvI, zForF, fgM, fgS, ap_is_whole, pd, whole, h1, h2, h4] using k
        | _ => cases hta <;> simp [bookFault, h1, h2, orFault] at k <;> simpa [t_check_book, zSeq, zIf, yT, yB, yVar, yC, yU, yNot, yAnd, yOr, yAndV, yOrV, yNotV, yTru, yIf, yCh, yF, yNil, yCons, yLst, yTup, yDNew, conts, fixs, cont, hold, asB, fGt, fLt, fLe, fGe, fEq, fNe, fI0, fI, fIxA, fIx, fDGet, fIn, fIsN, fNotN, atI, ixN, zSet, zRet, zRetN, zPut, zDrop, zAsg, zAug, zAugS, getA, getL, asgn, give, fix, fMod, fFdiv, fAdd, fAddI, fSub, fMul, fNeg, fPow, fShl, fShr, fAnd, fOr, fXor, setAt, mutAt, uSet, uSetL, uSetD, Sl.put, zNext, isRef_eq, rfa, rff, rfo, fLen, fList, fTuple, fMax2, fMin2, fInt1, fSet0, fRev, fSl, ySl, yPart, yNoPart, yMt, yMs, mAppend, mPopAt, mSAdd, isLst, isSet, yRm, isTup, fIndexT, iSq, iEn, iR1, itemsD, gN, gT, gsCons, gsNil, zFor, zBreak, zCont, zRaise, yCall, yCall0, yMake, yCallN, fixM, agsOf, PV.putAll, put1, noRefs, anyP, yYes, fIsi, tyN, isiT, truD, fBits, endsOf, refPos, refsAt, notLoc, okI, okB, okN, eqvI, zForF, fgM, fgS, ap_is_whole, pd, whole, h1, h2] using k
      · simp [bookFault, h1, h2, orFault] at k
        simpa [t_check_book, zSeq, zIf, yT, yB, yVar, yC, yU, yNot, yAnd, yOr, yAndV, yOrV, yNotV, yTru, yIf, yCh, yF, yNil, yCons, yLst, yTup, yDNew, conts, fixs, cont, hold, asB, fGt, fLt, fLe, fGe, fEq, fNe, fI0, fI, fIxA, fIx, fDGet, fIn, fIsN, fNotN, atI, ixN, zSet, zRet, zRetN, zPut, zDrop, zAsg, zAug, zAugS, getA, getL, asgn, give, fix, fMod, fFdiv, fAdd, fAddI, fSub, fMul, fNeg, fPow, fShl, fShr, fAnd, fOr, fXor, setAt, mutAt, uSet, uSetL, uSetD, Sl.put, zNext, isRef_eq, rfa, rff, rfo, fLen, fList, fTuple, fMax2, fMin2, fInt1, fSet0, fRev, fSl, ySl, yPart, yNoPart, yMt, yMs, mAppend, mPopAt, mSAdd, isLst, isSet, yRm, isTup, fIndexT, iSq, iEn, iR1, itemsD, gN, gT, gsCons, gsNil, zFor, zBreak, zCont, zRaise, yCall, yCall0, yMake, yCallN, fixM, agsOf, PV.putAll, put1, noRefs, anyP, yYes, fIsi, tyN, isiT, truD, fBits, endsOf, refPos, refsAt, notLoc, okI, okB, okN, eqvI, zForF, fgM, fgS, ap_is_whole, pd, whole, h1, h2] using k
    · simp [bookFault, h1, orFault] at k
      simpa [t_check_book, zSeq, zIf, yT, yB, yVar, yC, yU, yNot, yAnd, yOr, yAndV, yOrV, yNotV, yTru, yIf, yCh, yF, yNil, yCons, yLst, yTup, yDNew, conts, fixs, cont, hold, asB, fGt, fLt, fLe, fGe, fEq, fNe, fI0, fI, fIxA, fIx, fDGet, fIn, fIsN, fNotN, atI, ixN, zSet, zRet, zRetN, zPut, zDrop, zAsg, zAug, zAugS, getA, getL, asgn, give, fix, fMod, fFdiv, fAdd, fAddI, fSub, fMul, fNeg, fPow, fShl, fShr, fAnd, fOr, fXor, setAt, mutAt, uSet, uSetL, uSetD, Sl.put, zNext, isRef_eq, rfa, rff, rfo, fLen, fList, fTuple, fMax2, fMin2, fInt1, fSet0, fRev, fSl, ySl, yPart, yNoPart, yMt, yMs, mAppend, mPopAt, mSAdd, isLst, isSet, yRm, isTup, fIndexT, iSq, iEn, iR1, itemsD, gN, gT, gsCons, gsNil, zFor, zBreak, zCont, zRaise, yCall, yCall0, yMake, yCallN, fixM, agsOf, PV.putAll, put1, noRefs, anyP, yYes, fIsi, tyN, isiT, truD, fBits, endsOf, refPos, refsAt, notLoc, okI, okB, okN, eqvI, zForF, fgM, fgS, ap_is_whole, pd, whole, h1] using k
  | _ => cases hty <;> simp [bookFault, orFault] at k <;> simpa [t_check_book, zSeq, zIf, yT, yB, yVar, yC, yU, yNot, yAnd, yOr, yAndV, yOrV, yNotV, yTru, yIf, yCh, yF, yNil, yCons, yLst, yTup, yDNew, conts, fixs, cont, hold, asB, fGt, fLt, fLe, fGe, fEq, fNe, fI0, fI, fIxA, fIx, fDGet, fIn, fIsN, fNotN, atI, ixN, zSet, zRet, zRetN, zPut, zDrop, zAsg, zAug, zAugS, getA, getL, asgn, give, fix, fMod, fFdiv, fAdd, fAddI, fSub, fMul, fNeg, fPow, fShl, fShr, fAnd, fOr, fXor, setAt, mutAt, uSet, uSetL, uSetD, Sl.put, zNext, isRef_eq, rfa, rff, rfo, fLen, fList, fTuple, fMax2, fMin2, fInt1, fSet0, fRev, fSl, ySl, yPart, yNoPart, yMt, yMs, mAppend, mPopAt, mSAdd, isLst, isSet, yRm, isTup, fIndexT, iSq, iEn, iR1, itemsD, gN, gT, gsCons, gsNil, zFor, zBreak, zCont, zRaise, yCall, yCall0, yMake, yCallN, fixM, agsOf, PV.putAll, put1, noRefs, anyP, yYes, fIsi, tyN, isiT, truD, fBits, endsOf, refPos, refsAt, notLoc, okI, okB, okN, eqvI, zForF, fgM, fgS, ap_is_whole, pd, whole] using k
end Law
namespace Law
open PySem PySem.Spec PyProof.Rows L2 PV
/-! ### _users_of_slots -/
def addAll (b : Nat) : List Int → List Nat → List Nat
  | [], m => m
  | s :: r, m => addAll b r (m.set s.toNat (m.getD s.toNat 0 + b))
def addRows : Nat → List (List Int) → List Nat → List Nat
  | _, [], m => m
  | a, r :: rs, m => addRows (a + 1) rs (addAll (2 ^ a) r m)
theorem addAll_len {b : Nat} : ∀ (r : List Int) (m : List Nat), (addAll b r m).length = m.length
  | [], _ => rfl
  | s :: r, m => by rw [addAll, addAll_len r, List.length_set]
theorem addRows_len : ∀ (a : Nat) (rs : List (List Int)) (m : List Nat), (addRows a rs m).length = m.length
  | _, [], _ => rfl
  | a, r :: rs, m => by rw [addRows, addRows_len, addAll_len]
theorem addAll_get {b : Nat} : ∀ (r : List Int) (m : List Nat) (i : Nat), r.Nodup → (∀ s ∈ r, 0 ≤ s ∧ s < m.length) → i < m.length → (addAll b r m).getD i 0 = m.getD i 0 + if (i : Int) ∈ r then b else 0
  | [], m, i, _, _, _ => by simp [addAll]
  | s :: r, m, i, nd, h, hi => by
    obtain ⟨h1, h2⟩ := h s List.mem_cons_self
    obtain ⟨n1, n2⟩ := List.nodup_cons.mp nd
    rw [addAll, addAll_get r _ i n2 (fun x hx => by rw [List.length_set]; exact h x (List.mem_cons_of_mem _ hx)) (by rw [List.length_set]; exact hi)]
    by_cases e : s = (i : Int)
    · subst e
      have : (i : Int).toNat = i := by omega
      rw [this]
      simp [List.getD_eq_getElem?_getD, hi, n1]
    · have : s.toNat ≠ i := by omega
      have e' : ¬ (i : Int) = s := fun z => e z.symm
      simp [List.getD_eq_getElem?_getD, List.getElem?_set_ne this, e']
theorem addRows_get : ∀ (a : Nat) (rs : List (List Int)) (m : List Nat) (i : Nat), (∀ r ∈ rs, r.Nodup ∧ ∀ s ∈ r, 0 ≤ s ∧ s < m.length) → i < m.length → (addRows a rs m).getD i 0 = m.getD i 0 + maskFrom i a rs
  | _, [], m, i, _, _ => by simp [addRows, maskFrom]
  | a, r :: rs, m, i, h, hi => by
    obtain ⟨h1, h2⟩ := h r List.mem_cons_self
    rw [addRows, addRows_get _ rs _ i (fun x hx => by rw [addAll_len]; exact h x (List.mem_cons_of_mem _ hx)) (by rw [addAll_len]; exact hi), addAll_get r m i h1 h2 hi, maskFrom]
    omega
theorem row_nodup {r : List Int} (h : r.Pairwise (· < ·)) : r.Nodup := h.imp fun {a b} h => by omega
theorem users_is {n : Int} {rows : List (List Int)} (ok : BookOk n rows) : addRows 0 rows (List.replicate n.toNat 0) = usersOf n rows := by
  have n1 := ok.n1
  refine List.ext_getElem (by rw [addRows_len]; simp [usersOf]) fun i h1 h2 => ?_
  have hi : i < n.toNat := by
    rw [addRows_len, List.length_replicate] at h1
    exact h1
  have e := addRows_get 0 rows (List.replicate n.toNat 0) i (fun r hr => ⟨row_nodup (ok.row r hr).up, fun s hs => ⟨(ok.row r hr).lo s hs, by
    rw [List.length_replicate]
    have := (ok.row r hr).hi s hs
    omega⟩⟩) (by simpa using hi)
  rw [List.getD_eq_getElem?_getD, List.getElem?_eq_getElem h1] at e
  simp only [Option.getD_some] at e
  rw [e]
  simp [usersOf, mask, List.getD_eq_getElem?_getD, hi]
theorem inner_loop {E : PEnds} {v0 v1 v3 v4 : Sl} {b : Nat} : ∀ (r : List Int) (m : List Nat) (s : Sl), isRefS s = false → (∀ x ∈ r, 0 ≤ x ∧ x < m.length) → (∀ s', isRefS s' = false → E.nx [v0, v1, .own (.lst ((addAll b r m).map natD)), v3, v4, .frz (natD b), s']) →
    zForL (gN 6) (zAugS fAddI (yVar 2) (yVar 6) (yVar 5)) E (r.map D.int) [v0, v1, .own (.lst (m.map natD)), v3, v4, .frz (natD b), s]
  | [], m, s, hs, hr, k => k s hs
  | x :: r, m, s, hs, hr, k => by
    obtain ⟨h1, h2⟩ := hr x List.mem_cons_self
    have hl : x.toNat < m.length := by omega
    have ih := inner_loop (E := E) (v0 := v0) (v1 := v1) (v3 := v3) (v4 := v4) (b := b) r (m.set x.toNat (m.getD x.toNat 0 + b)) (.frz (.int x)) rfl (fun y hy => by rw [List.length_set]; exact hr y (List.mem_cons_of_mem _ hy)) k
    have e : (List.map natD m).set x.toNat (D.int ((m[x.toNat] : Nat) + (b : Int))) = (m.set x.toNat (m.getD x.toNat 0 + b)).map natD := by
      rw [List.map_set]
      simp [natD, List.getD_eq_getElem?_getD, hl]
    rw [← e] at ih
    simpa [zForL, zSeq, zIf, yT, yB, yVar, yC, yU, yNot, yAnd, yOr, yAndV, yOrV, yNotV, yTru, yIf, yCh, yF, yNil, yCons, yLst, yTup, yDNew, conts, fixs, cont, hold, asB, fGt, fLt, fLe, fGe, fEq, fNe, fI0, fI, fIxA, fIx, fDGet, fIn, fIsN, fNotN, atI, ixN, zSet, zRet, zRetN, zPut, zDrop, zAsg, zAug, zAugS, getA, getL, asgn, give, fix, fMod, fFdiv, fAdd, fAddI, fSub, fMul, fNeg, fPow, fShl, fShr, fAnd, fOr, fXor, setAt, mutAt, uSet, uSetL, uSetD, Sl.put, zNext, isRef_eq, rfa, rff, rfo, fLen, fList, fTuple, fMax2, fMin2, fInt1, fSet0, fRev, fSl, ySl, yPart, yNoPart, yMt, yMs, mAppend, mPopAt, mSAdd, isLst, isSet, yRm, isTup, fIndexT, iSq, iEn, iR1, itemsD, gN, gT, gsCons, gsNil, zFor, zBreak, zCont, zRaise, yCall, yCall0, yMake, yCallN, fixM, agsOf, PV.putAll, put1, noRefs, anyP, yYes, fIsi, tyN, isiT, truD, fBits, endsOf, refPos, refsAt, notLoc, okI, okB, okN, eqvI, zForF, fgM, fgS, hs, h1, h2, hl, natD] using ih
theorem outer_loop {E : PEnds} {v0 v1 : Sl} : ∀ (rs : List (List Int)) (a : Nat) (m : List Nat) (s3 s4 s5 s6 : Sl), isRefS s3 = false → isRefS s4 = false → isRefS s5 = false → isRefS s6 = false → a + rs.length ≤ 60 → (∀ r ∈ rs, ∀ x ∈ r, 0 ≤ x ∧ x < m.length) →
    (∀ s3 s4 s5 s6, E.nx [v0, v1, .own (.lst ((addRows a rs m).map natD)), s3, s4, s5, s6]) →
    zForL (gT 2 (gsCons (gN 3) (gsCons (gN 4) gsNil)))
    (zSeq (zSet 5 (yB fShl (yC (.int 1)) (yVar 3)))
    (zFor (iSq (yVar 4)) (gN 6)
    (zAugS fAddI (yVar 2) (yVar 6) (yVar 5)))) E (enumFrom a (rs.map rowD)) [v0, v1, .own (.lst (m.map natD)), s3, s4, s5, s6]
  | [], a, m, s3, s4, s5, s6, h3, h4, h5, h6, hl, hr, k => k _ _ _ _
  | r :: rs, a, m, s3, s4, s5, s6, h3, h4, h5, h6, hl, hr, k => by
    rw [List.length_cons] at hl
    have ih := fun s3 s4 s5 s6 => outer_loop (E := E) (v0 := v0) (v1 := v1) rs (a + 1) (addAll (2 ^ a) r m) s3 s4 s5 s6
    have hp : CPow 1 (a : Int) := ⟨by omega, by omega, by decide⟩
    have e2 : D.int (2 ^ a) = natD (2 ^ a) := by simp [natD]
    simp [zForL, zSeq, zIf, yT, yB, yVar, yC, yU, yNot, yAnd, yOr, yAndV, yOrV, yNotV, yTru, yIf, yCh, yF, yNil, yCons, yLst, yTup, yDNew, conts, fixs, cont, hold, asB, fGt, fLt, fLe, fGe, fEq, fNe, fI0, fI, fIxA, fIx, fDGet, fIn, fIsN, fNotN, atI, ixN, zSet, zRet, zRetN, zPut, zDrop, zAsg, zAug, zAugS, getA, getL, asgn, give, fix, fMod, fFdiv, fAdd, fAddI, fSub, fMul, fNeg, fPow, fShl, fShr, fAnd, fOr, fXor, setAt, mutAt, uSet, uSetL, uSetD, Sl.put, zNext, isRef_eq, rfa, rff, rfo, fLen, fList, fTuple, fMax2, fMin2, fInt1, fSet0, fRev, fSl, ySl, yPart, yNoPart, yMt, yMs, mAppend, mPopAt, mSAdd, isLst, isSet, yRm, isTup, fIndexT, iSq, iEn, iR1, itemsD, gN, gT, gsCons, gsNil, zFor, zBreak, zCont, zRaise, yCall, yCall0, yMake, yCallN, fixM, agsOf, PV.putAll, put1, noRefs, anyP, yYes, fIsi, tyN, isiT, truD, fBits, endsOf, refPos, refsAt, notLoc, okI, okB, okN, eqvI, zForF, fgM, fgS, h3, h4, h5, h6, rowD, hp, e2, enumFrom]
    refine inner_loop r m s6 h6 (hr r List.mem_cons_self) fun s' hs' => ?_
    have ih := ih (.frz (.int a)) (.frz (rowD r)) (.frz (natD (2 ^ a))) s' rfl rfl rfl hs' (by omega) (fun r' hr' x hx => by rw [addAll_len]; exact hr r' (List.mem_cons_of_mem _ hr') x hx) k
    simpa [zSeq, zIf, yT, yB, yVar, yC, yU, yNot, yAnd, yOr, yAndV, yOrV, yNotV, yTru, yIf, yCh, yF, yNil, yCons, yLst, yTup, yDNew, conts, fixs, cont, hold, asB, fGt, fLt, fLe, fGe, fEq, fNe, fI0, fI, fIxA, fIx, fDGet, fIn, fIsN, fNotN, atI, ixN, zSet, zRet, zRetN, zPut, zDrop, zAsg, zAug, zAugS, getA, getL, asgn, give, fix, fMod, fFdiv, fAdd, fAddI, fSub, fMul, fNeg, fPow, fShl, fShr, fAnd, fOr, fXor, setAt, mutAt, uSet, uSetL, uSetD, Sl.put, zNext, isRef_eq, rfa, rff, rfo, fLen, fList, fTuple, fMax2, fMin2, fInt1, fSet0, fRev, fSl, ySl, yPart, yNoPart, yMt, yMs, mAppend, mPopAt, mSAdd, isLst, isSet, yRm, isTup, fIndexT, iSq, iEn, iR1, itemsD, gN, gT, gsCons, gsNil, zFor, zBreak, zCont, zRaise, yCall, yCall0, yMake, yCallN, fixM, agsOf, PV.putAll, put1, noRefs, anyP, yYes, fIsi, tyN, isiT, truD, fBits, endsOf, refPos, refsAt, notLoc, okI, okB, okN, eqvI, zForF, fgM, fgS, rowD] using ih
theorem pure_users_of_slots : ∀ as q e, sp_users_of_slots as q e → t_users_of_slots (endsOf (refPos 0 as) q e) (entry 7 as) := by
  rintro as q e ⟨n, rows, rfl, ok, k⟩
  show t_users_of_slots _ [.frz _, .frz _, .any, .any, .any, .any, .any]
  have n1 := ok.n1
  have n6 := ok.n60
  have hl : n.toNat ≤ sizeLine := by rw [sizeLine_eq]; omega
  have h1 : -(2 ^ 63) ≤ n := by omega
  have h2 : n < 2 ^ 63 := by omega
  have e0 : (List.replicate n.toNat [D.int 0]).flatten = (List.replicate n.toNat 0).map natD := by
    generalize n.toNat = m
    induction m with
    | zero => rfl
    | succ m ih => rw [List.replicate_succ, List.flatten_cons, ih, List.replicate_succ, List.map_cons]; rfl
  have hs : 1 ≤ sizeLine := by decide
  simp [t_users_of_slots, zSeq, zIf, yT, yB, yVar, yC, yU, yNot, yAnd, yOr, yAndV, yOrV, yNotV, yTru, yIf, yCh, yF, yNil, yCons, yLst, yTup, yDNew, conts, fixs, cont, hold, asB, fGt, fLt, fLe, fGe, fEq, fNe, fI0, fI, fIxA, fIx, fDGet, fIn, fIsN, fNotN, atI, ixN, zSet, zRet, zRetN, zPut, zDrop, zAsg, zAug, zAugS, getA, getL, asgn, give, fix, fMod, fFdiv, fAdd, fAddI, fSub, fMul, fNeg, fPow, fShl, fShr, fAnd, fOr, fXor, setAt, mutAt, uSet, uSetL, uSetD, Sl.put, zNext, isRef_eq, rfa, rff, rfo, fLen, fList, fTuple, fMax2, fMin2, fInt1, fSet0, fRev, fSl, ySl, yPart, yNoPart, yMt, yMs, mAppend, mPopAt, mSAdd, isLst, isSet, yRm, isTup, fIndexT, iSq, iEn, iR1, itemsD, gN, gT, gsCons, gsNil, zFor, zBreak, zCont, zRaise, yCall, yCall0, yMake, yCallN, fixM, agsOf, PV.putAll, put1, noRefs, anyP, yYes, fIsi, tyN, isiT, truD, fBits, endsOf, refPos, refsAt, notLoc, okI, okB, okN, eqvI, zForF, fgM, fgS, hl, hs, e0, enumD_from]
  refine ⟨by omega, by omega, ?_⟩
  rw [show List.replicate n.toNat (natD 0) = (List.replicate n.toNat 0).map natD by simp]
  refine outer_loop rows 0 (List.replicate n.toNat 0) .any .any .any .any rfl rfl rfl rfl (by have := ok.len; omega) (fun r hr x hx => ?_) (fun s3 s4 s5 s6 => ?_)
  · rw [List.length_replicate]
    have a := (ok.row r hr).lo x hx
    have b := (ok.row r hr).hi x hx
    omega
  · rw [users_is ok]
    simpa [zSeq, zIf, yT, yB, yVar, yC, yU, yNot, yAnd, yOr, yAndV, yOrV, yNotV, yTru, yIf, yCh, yF, yNil, yCons, yLst, yTup, yDNew, conts, fixs, cont, hold, asB, fGt, fLt, fLe, fGe, fEq, fNe, fI0, fI, fIxA, fIx, fDGet, fIn, fIsN, fNotN, atI, ixN, zSet, zRet, zRetN, zPut, zDrop, zAsg, zAug, zAugS, getA, getL, asgn, give, fix, fMod, fFdiv, fAdd, fAddI, fSub, fMul, fNeg, fPow, fShl, fShr, fAnd, fOr, fXor, setAt, mutAt, uSet, uSetL, uSetD, Sl.put, zNext, isRef_eq, rfa, rff, rfo, fLen, fList, fTuple, fMax2, fMin2, fInt1, fSet0, fRev, fSl, ySl, yPart, yNoPart, yMt, yMs, mAppend, mPopAt, mSAdd, isLst, isSet, yRm, isTup, fIndexT, iSq, iEn, iR1, itemsD, gN, gT, gsCons, gsNil, zFor, zBreak, zCont, zRaise, yCall, yCall0, yMake, yCallN, fixM, agsOf, PV.putAll, put1, noRefs, anyP, yYes, fIsi, tyN, isiT, truD, fBits, endsOf, refPos, refsAt, notLoc, okI, okB, okN, eqvI, zForF, fgM, fgS] using k
end Law
namespace PV
open PySem PySem.Spec PyProof.Rows L2
/-- a comprehension's list, item by item -/
theorem lc_rule {g : TPg} {tt : TPt} {te : TPe} {vs : List Nat} {ρ : Rho} {q : List D → Rho → Prop} (P : D → Bool) (f : D → D) (hρ : anyP ρ vs = ρ) : ∀ (ds acc : List D), acc.length + ds.length ≤ sizeLine →
    (∀ x ∈ ds, ∀ (K : D → Rho → Prop) (L : Rho → Prop), (P x = true → ∀ ρ', noRefs ρ' vs = true → anyP ρ' vs = ρ → K (f x) ρ') → (P x = false → ∀ ρ', noRefs ρ' vs = true → anyP ρ' vs = ρ → L ρ') →
      g x ρ fun ρ1 => tt ρ1 (fun b ρ2 => if b = true then te ρ2 (fun res ρ3 => fix ρ3 res K) (fun _ _ => False) else L ρ2) fun _ _ => False) →
    q (acc ++ (ds.filter P).map f) ρ → yLcL g tt te vs ds acc ρ q
  | [], acc, _, _, k => by simpa [yLcL] using k
  | x :: r, acc, hl, st, k => by
    rw [List.length_cons] at hl
    unfold yLcL
    rw [hρ]
    refine st x List.mem_cons_self _ _ (fun hp ρ' h1 h2 => ⟨by omega, h1, ?_⟩) (fun hp ρ' h1 h2 => ⟨h1, ?_⟩)
    · rw [h2]
      refine lc_rule P f hρ r (acc ++ [f x]) (by simp; omega) (fun y hy => st y (List.mem_cons_of_mem _ hy)) ?_
      rw [List.filter_cons_of_pos hp] at k
      simpa using k
    · rw [h2]
      refine lc_rule P f hρ r acc (by omega) (fun y hy => st y (List.mem_cons_of_mem _ hy)) ?_
      rw [List.filter_cons_of_neg (by simp [hp])] at k
      exact k
end PV
namespace Law
open PySem PySem.Spec PyProof.Rows L2 PV
/-! ### Book(slots, allowed) -/
theorem slotsUp_ok {n : Int} : ∀ (r : List Int) (b : Int), r.Pairwise (· < ·) → (∀ s ∈ r, b < s ∧ s < n) → slotsUp n b (r.map D.int) = true
  | [], _, _, _ => rfl
  | s :: r, b, h, k => by
    obtain ⟨h1, h2⟩ := List.pairwise_cons.mp h
    obtain ⟨k1, k2⟩ := k s List.mem_cons_self
    simp only [List.map_cons, slotsUp, k1, k2, decide_true, Bool.true_and]
    exact slotsUp_ok r s h2 fun x hx => ⟨h1 x hx, (k x (List.mem_cons_of_mem _ hx)).2⟩
theorem slotList_ok {n : Int} {r : List Int} (h : RowOk n r) : slotList n (.lst (r.map D.int)) = true := by
  have e := slotsUp_ok r (-1) h.up fun s hs => ⟨by have := h.lo s hs; omega, h.hi s hs⟩
  cases r with
  | nil => exact absurd rfl h.ne
  | cons s r => exact e
theorem rowFault_ok {n : Int} : ∀ (rows : List (List Int)) (i : Int), (∀ r ∈ rows, RowOk n r) → rowFault n i (rows.map fun r => D.lst (r.map D.int)) = none
  | [], _, _ => rfl
  | r :: rs, i, h => by
    simp only [List.map_cons, rowFault, slotList_ok (h r List.mem_cons_self), if_true]
    exact rowFault_ok rs _ fun x hx => h x (List.mem_cons_of_mem _ hx)
theorem bookFault_ok {n : Int} {rows : List (List Int)} (ok : BookOk n rows) : bookFault (.int n) (.lst (rows.map fun r => D.lst (r.map D.int))) = none := by
  have := ok.n1; have := ok.n60; have := ok.len
  simp only [bookFault, List.length_map]
  rw [if_pos ⟨ok.n1, ok.n60⟩, if_pos ok.len]
  exact rowFault_ok rows 0 ok.row
theorem plain_int {i : Int} : plain (.int i) := ⟨_, rfl⟩
theorem plain1_ints {r : List Int} : plain1 (.lst (r.map D.int)) := ⟨⟨_, rfl⟩, fun ds e x hx => by
  cases e
  obtain ⟨y, _, rfl⟩ := List.mem_map.mp hx
  exact plain_int⟩
theorem plain2_rows {rows : List (List Int)} : plain2 (.lst (rows.map fun r => D.lst (r.map D.int))) := ⟨⟨_, rfl⟩, fun ds e x hx => by
  cases e
  obtain ⟨y, _, rfl⟩ := List.mem_map.mp hx
  exact plain1_ints⟩
theorem fpn1 : fputN "_slots" [] = (["_slots"] : List Str) := rfl
theorem fpn2 : fputN "_allowed" ["_slots"] = (["_slots", "_allowed"] : List Str) := by decide
theorem fpn3 : fputN "_users" ["_slots", "_allowed"] = (["_slots", "_allowed", "_users"] : List Str) := by decide
theorem fpv1 {x : D} : fputV "_slots" x [] [] = [x] := rfl
theorem nsa : ¬ ("_slots" : Str) = "_allowed" := by decide
theorem nsu : ¬ ("_slots" : Str) = "_users" := by decide
theorem nau : ¬ ("_allowed" : Str) = "_users" := by decide
theorem fpv2 {x a : D} : fputV "_allowed" x ["_slots"] [a] = [a, x] := by simp [fputV, nsa]
theorem fpv3 {x a b : D} : fputV "_users" x ["_slots", "_allowed"] [a, b] = [a, b, x] := by simp [fputV, nsu, nau]
theorem fld_all2 {a b : D} {q : R → Prop} : fFld "Book" "_allowed" (.obj "Book" ["_slots", "_allowed"] [a, b]) q = q (.dat b) := propext ⟨fun ⟨_, x, e, h⟩ => by cases e; exact h, fun h => ⟨rfl, _, rfl, h⟩⟩
theorem pure_Book_init : ∀ as q e, sp_Book_init as q e → t_Book_init (endsOf (refPos 0 as) q e) (entry 4 as) := by
  rintro as q e ⟨n, rows, rfl, ok, k⟩
  show t_Book_init _ [.ref _, .frz _, .frz _, .any]
  have hl : ([] : List D).length + (rows.map fun r => D.lst (r.map D.int)).length ≤ sizeLine := by
    have := ok.len
    rw [sizeLine_eq]
    simp
    omega
  simp [t_Book_init, zSeq, zIf, yT, yB, yVar, yC, yU, yNot, yAnd, yOr, yAndV, yOrV, yNotV, yTru, yIf, yCh, yF, yNil, yCons, yLst, yTup, yDNew, conts, fixs, cont, hold, asB, fGt, fLt, fLe, fGe, fEq, fNe, fI0, fI, fIxA, fIx, fDGet, fIn, fIsN, fNotN, atI, ixN, zSet, zRet, zRetN, zPut, zDrop, zAsg, zAug, zAugS, getA, getL, asgn, give, fix, fMod, fFdiv, fAdd, fAddI, fSub, fMul, fNeg, fPow, fShl, fShr, fAnd, fOr, fXor, setAt, mutAt, uSet, uSetL, uSetD, Sl.put, zNext, isRef_eq, rfa, rff, rfo, fLen, fList, fTuple, fMax2, fMin2, fInt1, fSet0, fRev, fSl, ySl, yPart, yNoPart, yMt, yMs, mAppend, mPopAt, mSAdd, isLst, isSet, yRm, isTup, fIndexT, iSq, iEn, iR1, itemsD, gN, gT, gsCons, gsNil, zFor, zBreak, zCont, zRaise, yCall, yCall0, yMake, yCallN, fixM, agsOf, PV.putAll, put1, noRefs, anyP, yYes, fIsi, tyN, isiT, truD, fBits, endsOf, refPos, refsAt, notLoc, okI, okB, okN, eqvI, zForF, fgM, fgS]
  refine ⟨_, _, rfl, plain_int, plain2_rows, ?_⟩
  rw [bookFault_ok ok]
  simp [orFault, zSeq, zIf, yT, yB, yVar, yC, yU, yNot, yAnd, yOr, yAndV, yOrV, yNotV, yTru, yIf, yCh, yF, yNil, yCons, yLst, yTup, yDNew, conts, fixs, cont, hold, asB, fGt, fLt, fLe, fGe, fEq, fNe, fI0, fI, fIxA, fIx, fDGet, fIn, fIsN, fNotN, atI, ixN, zSet, zRet, zRetN, zPut, zDrop, zAsg, zAug, zAugS, getA, getL, asgn, give, fix, fMod, fFdiv, fAdd, fAddI, fSub, fMul, fNeg, fPow, fShl, fShr, fAnd, fOr, fXor, setAt, mutAt, uSet, uSetL, uSetD, Sl.put, zNext, isRef_eq, rfa, rff, rfo, fLen, fList, fTuple, fMax2, fMin2, fInt1, fSet0, fRev, fSl, ySl, yPart, yNoPart, yMt, yMs, mAppend, mPopAt, mSAdd, isLst, isSet, yRm, isTup, fIndexT, iSq, iEn, iR1, itemsD, gN, gT, gsCons, gsNil, zFor, zBreak, zCont, zRaise, yCall, yCall0, yMake, yCallN, fixM, agsOf, PV.putAll, put1, noRefs, anyP, yYes, fIsi, tyN, isiT, truD, fBits, endsOf, refPos, refsAt, notLoc, okI, okB, okN, eqvI, zForF, fgM, fgS, zFld, fpn1, fpn2, fpv1, fpv2, yLc]
  refine lc_rule (fun _ => true) (fun d => match d with | .lst ds => .tup ds | d => d) rfl _ [] hl (fun x hx K L kT kF => ?_) ?_
  · obtain ⟨r, _, rfl⟩ := List.mem_map.mp hx
    simp [zSeq, zIf, yT, yB, yVar, yC, yU, yNot, yAnd, yOr, yAndV, yOrV, yNotV, yTru, yIf, yCh, yF, yNil, yCons, yLst, yTup, yDNew, conts, fixs, cont, hold, asB, fGt, fLt, fLe, fGe, fEq, fNe, fI0, fI, fIxA, fIx, fDGet, fIn, fIsN, fNotN, atI, ixN, zSet, zRet, zRetN, zPut, zDrop, zAsg, zAug, zAugS, getA, getL, asgn, give, fix, fMod, fFdiv, fAdd, fAddI, fSub, fMul, fNeg, fPow, fShl, fShr, fAnd, fOr, fXor, setAt, mutAt, uSet, uSetL, uSetD, Sl.put, zNext, isRef_eq, rfa, rff, rfo, fLen, fList, fTuple, fMax2, fMin2, fInt1, fSet0, fRev, fSl, ySl, yPart, yNoPart, yMt, yMs, mAppend, mPopAt, mSAdd, isLst, isSet, yRm, isTup, fIndexT, iSq, iEn, iR1, itemsD, gN, gT, gsCons, gsNil, zFor, zBreak, zCont, zRaise, yCall, yCall0, yMake, yCallN, fixM, agsOf, PV.putAll, put1, noRefs, anyP, yYes, fIsi, tyN, isiT, truD, fBits, endsOf, refPos, refsAt, notLoc, okI, okB, okN, eqvI, zForF, fgM, fgS]
    exact kT rfl _ (by simp [zSeq, zIf, yT, yB, yVar, yC, yU, yNot, yAnd, yOr, yAndV, yOrV, yNotV, yTru, yIf, yCh, yF, yNil, yCons, yLst, yTup, yDNew, conts, fixs, cont, hold, asB, fGt, fLt, fLe, fGe, fEq, fNe, fI0, fI, fIxA, fIx, fDGet, fIn, fIsN, fNotN, atI, ixN, zSet, zRet, zRetN, zPut, zDrop, zAsg, zAug, zAugS, getA, getL, asgn, give, fix, fMod, fFdiv, fAdd, fAddI, fSub, fMul, fNeg, fPow, fShl, fShr, fAnd, fOr, fXor, setAt, mutAt, uSet, uSetL, uSetD, Sl.put, zNext, isRef_eq, rfa, rff, rfo, fLen, fList, fTuple, fMax2, fMin2, fInt1, fSet0, fRev, fSl, ySl, yPart, yNoPart, yMt, yMs, mAppend, mPopAt, mSAdd, isLst, isSet, yRm, isTup, fIndexT, iSq, iEn, iR1, itemsD, gN, gT, gsCons, gsNil, zFor, zBreak, zCont, zRaise, yCall, yCall0, yMake, yCallN, fixM, agsOf, PV.putAll, put1, noRefs, anyP, yYes, fIsi, tyN, isiT, truD, fBits, endsOf, refPos, refsAt, notLoc, okI, okB, okN, eqvI, zForF, fgM, fgS]) (by simp [zSeq, zIf, yT, yB, yVar, yC, yU, yNot, yAnd, yOr, yAndV, yOrV, yNotV, yTru, yIf, yCh, yF, yNil, yCons, yLst, yTup, yDNew, conts, fixs, cont, hold, asB, fGt, fLt, fLe, fGe, fEq, fNe, fI0, fI, fIxA, fIx, fDGet, fIn, fIsN, fNotN, atI, ixN, zSet, zRet, zRetN, zPut, zDrop, zAsg, zAug, zAugS, getA, getL, asgn, give, fix, fMod, fFdiv, fAdd, fAddI, fSub, fMul, fNeg, fPow, fShl, fShr, fAnd, fOr, fXor, setAt, mutAt, uSet, uSetL, uSetD, Sl.put, zNext, isRef_eq, rfa, rff, rfo, fLen, fList, fTuple, fMax2, fMin2, fInt1, fSet0, fRev, fSl, ySl, yPart, yNoPart, yMt, yMs, mAppend, mPopAt, mSAdd, isLst, isSet, yRm, isTup, fIndexT, iSq, iEn, iR1, itemsD, gN, gT, gsCons, gsNil, zFor, zBreak, zCont, zRaise, yCall, yCall0, yMake, yCallN, fixM, agsOf, PV.putAll, put1, noRefs, anyP, yYes, fIsi, tyN, isiT, truD, fBits, endsOf, refPos, refsAt, notLoc, okI, okB, okN, eqvI, zForF, fgM, fgS])
  · have e1 : List.map (fun d => match d with | D.lst ds => D.tup ds | d => d) (List.filter (fun _ => true) (rows.map fun r => D.lst (r.map D.int))) = rows.map rowD := by
      rw [List.filter_eq_self.mpr (fun _ _ => rfl), List.map_map]
      rfl
    rw [List.nil_append, e1]
    simp [zSeq, zIf, yT, yB, yVar, yC, yU, yNot, yAnd, yOr, yAndV, yOrV, yNotV, yTru, yIf, yCh, yF, yNil, yCons, yLst, yTup, yDNew, conts, fixs, cont, hold, asB, fGt, fLt, fLe, fGe, fEq, fNe, fI0, fI, fIxA, fIx, fDGet, fIn, fIsN, fNotN, atI, ixN, zSet, zRet, zRetN, zPut, zDrop, zAsg, zAug, zAugS, getA, getL, asgn, give, fix, fMod, fFdiv, fAdd, fAddI, fSub, fMul, fNeg, fPow, fShl, fShr, fAnd, fOr, fXor, setAt, mutAt, uSet, uSetL, uSetD, Sl.put, zNext, isRef_eq, rfa, rff, rfo, fLen, fList, fTuple, fMax2, fMin2, fInt1, fSet0, fRev, fSl, ySl, yPart, yNoPart, yMt, yMs, mAppend, mPopAt, mSAdd, isLst, isSet, yRm, isTup, fIndexT, iSq, iEn, iR1, itemsD, gN, gT, gsCons, gsNil, zFor, zBreak, zCont, zRaise, yCall, yCall0, yMake, yCallN, fixM, agsOf, PV.putAll, put1, noRefs, anyP, yYes, fIsi, tyN, isiT, truD, fBits, endsOf, refPos, refsAt, notLoc, okI, okB, okN, eqvI, zForF, fgM, fgS, zFld, fpn2, fpv2, fpn3, fpv3, fld_all2]
    refine ⟨n, rows, rfl, ok, ?_⟩
    simpa [zSeq, zIf, yT, yB, yVar, yC, yU, yNot, yAnd, yOr, yAndV, yOrV, yNotV, yTru, yIf, yCh, yF, yNil, yCons, yLst, yTup, yDNew, conts, fixs, cont, hold, asB, fGt, fLt, fLe, fGe, fEq, fNe, fI0, fI, fIxA, fIx, fDGet, fIn, fIsN, fNotN, atI, ixN, zSet, zRet, zRetN, zPut, zDrop, zAsg, zAug, zAugS, getA, getL, asgn, give, fix, fMod, fFdiv, fAdd, fAddI, fSub, fMul, fNeg, fPow, fShl, fShr, fAnd, fOr, fXor, setAt, mutAt, uSet, uSetL, uSetD, Sl.put, zNext, isRef_eq, rfa, rff, rfo, fLen, fList, fTuple, fMax2, fMin2, fInt1, fSet0, fRev, fSl, ySl, yPart, yNoPart, yMt, yMs, mAppend, mPopAt, mSAdd, isLst, isSet, yRm, isTup, fIndexT, iSq, iEn, iR1, itemsD, gN, gT, gsCons, gsNil, zFor, zBreak, zCont, zRaise, yCall, yCall0, yMake, yCallN, fixM, agsOf, PV.putAll, put1, noRefs, anyP, yYes, fIsi, tyN, isiT, truD, fBits, endsOf, refPos, refsAt, notLoc, okI, okB, okN, eqvI, zForF, fgM, fgS, bookOf] using k
end Law
namespace Law
open PySem PySem.Spec PyProof.Rows L2 PV
/-! ### bits of a mask -/
theorem maskFrom_shift {s : Int} : ∀ (rs : List (List Int)) (a : Nat), maskFrom s a rs = 2 ^ a * maskFrom s 0 rs
  | [], a => by simp [maskFrom]
  | r :: rs, a => by
    rw [maskFrom, maskFrom, maskFrom_shift rs (a + 1), maskFrom_shift rs (0 + 1), Nat.pow_succ, Nat.mul_add]
    rw [Nat.zero_add, Nat.pow_one, Nat.pow_zero, Nat.mul_assoc]
    congr 1
    split <;> simp
theorem mask_cons {s : Int} {r : List Int} {rs : List (List Int)} : mask (r :: rs) s = (if s ∈ r then 1 else 0) + 2 * mask rs s := by
  unfold mask
  rw [maskFrom, maskFrom_shift rs (0 + 1)]
theorem mask_bit {s : Int} : ∀ (rows : List (List Int)) (i : Nat), (mask rows s).testBit i = decide (s ∈ rows.getD i [])
  | [], i => by simp [mask, maskFrom]
  | r :: rs, 0 => by
    rw [mask_cons, Nat.testBit_zero]
    by_cases h : s ∈ r <;> simp [h] <;> omega
  | r :: rs, i + 1 => by
    rw [mask_cons, Nat.testBit_succ]
    have e : ((if s ∈ r then 1 else 0) + 2 * mask rs s) / 2 = mask rs s := by split <;> omega
    rw [e, mask_bit rs i]
    simp
theorem mask_odd {rows : List (List Int)} {s : Int} {i : Nat} : Builtin.bitAnd ((mask rows s : Int) / 2 ^ i) 1 = if s ∈ rows.getD i [] then 1 else 0 := by
  rw [bitAnd_m1]
  have h := mask_bit (s := s) rows i
  rw [Nat.testBit_eq_decide_div_mod_eq] at h
  have e : ((mask rows s : Int) / 2 ^ i) % 2 = ((mask rows s / 2 ^ i % 2 : Nat) : Int) := by simp
  rw [e]
  by_cases k : s ∈ rows.getD i []
  · rw [if_pos k]
    simp only [k, decide_true, decide_eq_true_eq] at h
    rw [h]; rfl
  · rw [if_neg k]
    simp only [k, decide_false, decide_eq_false_iff_not] at h
    have : mask rows s / 2 ^ i % 2 = 0 := by omega
    rw [this]; rfl
theorem usersOf_len {n : Int} {rows : List (List Int)} : (usersOf n rows).length = n.toNat := by simp [usersOf]
theorem usersOf_get {n : Int} {rows : List (List Int)} {s : Int} (h0 : 0 ≤ s) (h1 : s < n) : (usersOf n rows)[s.toNat]? = some (mask rows s) := by
  have : s.toNat < n.toNat := by omega
  have e : ((s.toNat : Nat) : Int) = s := by omega
  simp only [usersOf, List.getElem?_map]
  rw [List.getElem?_range this]
  simp [e]
/-! ### check_timetable -/
theorem ixu {n : Int} {rows : List (List Int)} {s : Int} {q : R → Prop} (h0 : 0 ≤ s) (h1 : s < n) : fIxA (.tup ((usersOf n rows).map natD)) (.int s) q = q (.dat (natD (mask rows s))) := by
  have e : atI ((usersOf n rows).map natD) s = some (natD (mask rows s)) := by
    unfold atI ixN
    simp only [List.length_map, usersOf_len, h0, if_true]
    rw [if_pos (by omega)]
    simp [usersOf_get h0 h1]
  show (match atI ((usersOf n rows).map natD) s with | some x => q (.dat x) | none => False) = _
  rw [e]
theorem sb : scanBound = 4096 := rfl
theorem bel_of {s n : Int} (h0 : 0 ≤ s) (h1 : s < n) : below (.int s) n = true := by simp [below, h0, h1]
theorem tt_loop {E : PEnds} {n : Int} {rows : List (List Int)} {v0 v1 : Sl} (n1 : 1 ≤ n) : ∀ (ds : List D) (i : Nat) (seen : List Int) (s4 s5 : Sl), isRefS s4 = false → isRefS s5 = false → (∀ x ∈ ds, plain x) → seen.length + ds.length ≤ 100 → (ttFrom n rows i seen ds = none → ∀ ρ, E.nx ρ) →
    (∀ j, ttFrom n rows i seen ds = some j → ∀ ρ, E.xc ⟨"NoTimetable", .int j⟩ ρ) →
    zForL (gT 2 (gsCons (gN 4) (gsCons (gN 5) gsNil)))
    (zSeq (zIf (yOr (yNot (yTru (yCall sp_is_below [false, false] [] (yCons (yVar 5) (yCons (yF fLen (yCons (yVar 2) yNil)) yNil))))) (yOr (yT (yB (fIn false) (yVar 5) (yVar 3))) (yNot (yTru (yB fAnd (yB fShr (yB fIxA (yVar 2) (yVar 5)) (yVar 4)) (yC (.int 1)))))))
    (zRaise "NoTimetable" (yCons (yVar 4) yNil)) zNext)
    (zDrop (yMs mSAdd (yVar 3) (yCons (yVar 5) yNil)))) E (enumFrom i ds) [v0, v1, .frz (.tup ((usersOf n rows).map natD)), .own (.set seen), s4, s5]
  | [], i, seen, s4, s5, h4, h5, hp, hl, k1, k2 => k1 rfl _
  | d :: r, i, seen, s4, s5, h4, h5, hp, hl, k1, k2 => by
    have hr : ∀ x ∈ r, plain x := fun x hx => hp x (List.mem_cons_of_mem _ hx)
    have pd := hp d List.mem_cons_self
    have en : ((n.toNat : Nat) : Int) = n := by omega
    rw [List.length_cons] at hl
    have bad : (∀ ρ, E.xc ⟨"NoTimetable", .int i⟩ ρ) → below d n = false → zForL (gT 2 (gsCons (gN 4) (gsCons (gN 5) gsNil)))
        (zSeq (zIf (yOr (yNot (yTru (yCall sp_is_below [false, false] [] (yCons (yVar 5) (yCons (yF fLen (yCons (yVar 2) yNil)) yNil))))) (yOr (yT (yB (fIn false) (yVar 5) (yVar 3))) (yNot (yTru (yB fAnd (yB fShr (yB fIxA (yVar 2) (yVar 5)) (yVar 4)) (yC (.int 1)))))))
        (zRaise "NoTimetable" (yCons (yVar 4) yNil)) zNext)
        (zDrop (yMs mSAdd (yVar 3) (yCons (yVar 5) yNil)))) E (enumFrom i (d :: r)) [v0, v1, .frz (.tup ((usersOf n rows).map natD)), .own (.set seen), s4, s5] := fun k hb => by
      simpa [zForL, enumFrom, zSeq, zIf, yT, yB, yVar, yC, yU, yNot, yAnd, yOr, yAndV, yOrV, yNotV, yTru, yIf, yCh, yF, yNil, yCons, yLst, yTup, yDNew, conts, fixs, cont, hold, asB, fGt, fLt, fLe, fGe, fEq, fNe, fI0, fI, fIxA, fIx, fDGet, fIn, fIsN, fNotN, atI, ixN, zSet, zRet, zRetN, zPut, zDrop, zAsg, zAug, zAugS, getA, getL, asgn, give, fix, fMod, fFdiv, fAdd, fAddI, fSub, fMul, fNeg, fPow, fShl, fShr, fAnd, fOr, fXor, setAt, mutAt, uSet, uSetL, uSetD, Sl.put, zNext, isRef_eq, rfa, rff, rfo, fLen, fList, fTuple, fMax2, fMin2, fInt1, fSet0, fRev, fSl, ySl, yPart, yNoPart, yMt, yMs, mAppend, mPopAt, mSAdd, isLst, isSet, yRm, isTup, fIndexT, iSq, iEn, iR1, itemsD, gN, gT, gsCons, gsNil, zFor, zBreak, zCont, zRaise, yCall, yCall0, yMake, yCallN, fixM, agsOf, PV.putAll, put1, noRefs, anyP, yYes, fIsi, tyN, isiT, truD, fBits, endsOf, refPos, refsAt, notLoc, okI, okB, okN, eqvI, zForF, fgM, fgS, h4, h5, ap_is_below, pd, usersOf_len, en, hb] using k _
    cases d with
    | int s =>
      simp only [ttFrom] at k1 k2
      by_cases h0 : 0 ≤ s
      · by_cases h1 : s < n
        · have hb := bel_of h0 h1
          by_cases h2 : s ∈ seen
          · have := k2 i (by simp [h2])
            simpa [zForL, enumFrom, zSeq, zIf, yT, yB, yVar, yC, yU, yNot, yAnd, yOr, yAndV, yOrV, yNotV, yTru, yIf, yCh, yF, yNil, yCons, yLst, yTup, yDNew, conts, fixs, cont, hold, asB, fGt, fLt, fLe, fGe, fEq, fNe, fI0, fI, fIxA, fIx, fDGet, fIn, fIsN, fNotN, atI, ixN, zSet, zRet, zRetN, zPut, zDrop, zAsg, zAug, zAugS, getA, getL, asgn, give, fix, fMod, fFdiv, fAdd, fAddI, fSub, fMul, fNeg, fPow, fShl, fShr, fAnd, fOr, fXor, setAt, mutAt, uSet, uSetL, uSetD, Sl.put, zNext, isRef_eq, rfa, rff, rfo, fLen, fList, fTuple, fMax2, fMin2, fInt1, fSet0, fRev, fSl, ySl, yPart, yNoPart, yMt, yMs, mAppend, mPopAt, mSAdd, isLst, isSet, yRm, isTup, fIndexT, iSq, iEn, iR1, itemsD, gN, gT, gsCons, gsNil, zFor, zBreak, zCont, zRaise, yCall, yCall0, yMake, yCallN, fixM, agsOf, PV.putAll, put1, noRefs, anyP, yYes, fIsi, tyN, isiT, truD, fBits, endsOf, refPos, refsAt, notLoc, okI, okB, okN, eqvI, zForF, fgM, fgS, h4, h5, ap_is_below, pd, usersOf_len, en, hb, h2] using this _
          · by_cases h3 : s ∈ rows.getD i []
            · have ih := tt_loop (E := E) (n := n) (rows := rows) (v0 := v0) (v1 := v1) n1 r (i + 1) (seen ++ [s]) (.frz (.int i)) (.frz (.int s)) rfl rfl hr (by simp; omega)
              have c : 0 ≤ s ∧ s < n ∧ s ∉ seen ∧ s ∈ rows.getD i [] := ⟨h0, h1, h2, h3⟩
              rw [if_pos c] at k1 k2
              have ih := ih k1 k2
              have hl2 : seen.length + 1 < scanBound := by rw [sb]; omega
              have o : Builtin.bitAnd ((mask rows s : Int) / 2 ^ i) 1 = 1 := by rw [mask_odd, if_pos h3]
              simpa [zForL, enumFrom, zSeq, zIf, yT, yB, yVar, yC, yU, yNot, yAnd, yOr, yAndV, yOrV, yNotV, yTru, yIf, yCh, yF, yNil, yCons, yLst, yTup, yDNew, conts, fixs, cont, hold, asB, fGt, fLt, fLe, fGe, fEq, fNe, fI0, fI, fIn, fIsN, fNotN, zSet, zRet, zRetN, zPut, zDrop, zAsg, zAug, zAugS, getA, getL, asgn, give, fix, fMod, fFdiv, fAdd, fAddI, fSub, fMul, fNeg, fPow, fShl, fShr, fAnd, fOr, fXor, setAt, mutAt, uSet, uSetL, uSetD, Sl.put, zNext, isRef_eq, rfa, rff, rfo, fLen, fList, fTuple, fMax2, fMin2, fInt1, fSet0, fRev, fSl, ySl, yPart, yNoPart, yMt, yMs, mAppend, mPopAt, mSAdd, isLst, isSet, yRm, isTup, fIndexT, iSq, iEn, iR1, itemsD, gN, gT, gsCons, gsNil, zFor, zBreak, zCont, zRaise, yCall, yCall0, yMake, yCallN, fixM, agsOf, PV.putAll, put1, noRefs, anyP, yYes, fIsi, tyN, isiT, truD, fBits, endsOf, refPos, refsAt, notLoc, okI, okB, okN, eqvI, zForF, fgM, fgS, h4, h5, ap_is_below, pd, usersOf_len, en, hb, h2, ixu h0 h1, natD, o, hl2] using ih
            · have c : ¬ (0 ≤ s ∧ s < n ∧ s ∉ seen ∧ s ∈ rows.getD i []) := fun z => h3 z.2.2.2
              rw [if_neg c] at k1 k2
              have o : Builtin.bitAnd ((mask rows s : Int) / 2 ^ i) 1 = 0 := by rw [mask_odd, if_neg h3]
              simpa [zForL, enumFrom, zSeq, zIf, yT, yB, yVar, yC, yU, yNot, yAnd, yOr, yAndV, yOrV, yNotV, yTru, yIf, yCh, yF, yNil, yCons, yLst, yTup, yDNew, conts, fixs, cont, hold, asB, fGt, fLt, fLe, fGe, fEq, fNe, fI0, fI, fIn, fIsN, fNotN, zSet, zRet, zRetN, zPut, zDrop, zAsg, zAug, zAugS, getA, getL, asgn, give, fix, fMod, fFdiv, fAdd, fAddI, fSub, fMul, fNeg, fPow, fShl, fShr, fAnd, fOr, fXor, setAt, mutAt, uSet, uSetL, uSetD, Sl.put, zNext, isRef_eq, rfa, rff, rfo, fLen, fList, fTuple, fMax2, fMin2, fInt1, fSet0, fRev, fSl, ySl, yPart, yNoPart, yMt, yMs, mAppend, mPopAt, mSAdd, isLst, isSet, yRm, isTup, fIndexT, iSq, iEn, iR1, itemsD, gN, gT, gsCons, gsNil, zFor, zBreak, zCont, zRaise, yCall, yCall0, yMake, yCallN, fixM, agsOf, PV.putAll, put1, noRefs, anyP, yYes, fIsi, tyN, isiT, truD, fBits, endsOf, refPos, refsAt, notLoc, okI, okB, okN, eqvI, zForF, fgM, fgS, h4, h5, ap_is_below, pd, usersOf_len, en, hb, h2, ixu h0 h1, natD, o] using k2 i rfl _
        · have := k2 i (by simp [h1])
          exact bad this (by simp [below, h1])
      · have := k2 i (by simp [h0])
        exact bad this (by simp [below, h0])
    | _ => exact bad (fun ρ => k2 i rfl ρ) rfl
theorem uU : (["_slots", "_allowed", "_users"] : List Str).contains "users" = false := by decide
theorem uS : (["_slots", "_allowed", "_users"] : List Str).contains "size" = false := by decide
theorem pure_check_timetable : ∀ as q e, sp_check_timetable as q e → t_check_timetable (endsOf (refPos 0 as) q e) (entry 6 as) := by
  rintro as q e ⟨n, rows, d, rfl, ok, ⟨⟨ty, hty⟩, hp⟩, k⟩
  show t_check_timetable _ [.frz _, .frz _, .any, .any, .any, .any]
  cases d with
  | tup ds =>
    have hp := hp ds rfl
    simp [t_check_timetable, zSeq, zIf, yT, yB, yVar, yC, yU, yNot, yAnd, yOr, yAndV, yOrV, yNotV, yTru, yIf, yCh, yF, yNil, yCons, yLst, yTup, yDNew, conts, fixs, cont, hold, asB, fGt, fLt, fLe, fGe, fEq, fNe, fI0, fI, fIn, fIsN, fNotN, zSet, zRet, zRetN, zPut, zDrop, zAsg, zAug, zAugS, getA, getL, asgn, give, fix, fMod, fFdiv, fAdd, fAddI, fSub, fMul, fNeg, fPow, fShl, fShr, fAnd, fOr, fXor, setAt, mutAt, uSet, uSetL, uSetD, Sl.put, zNext, isRef_eq, rfa, rff, rfo, fLen, fList, fTuple, fMax2, fMin2, fInt1, fSet0, fRev, fSl, ySl, yPart, yNoPart, yMt, yMs, mAppend, mPopAt, mSAdd, isLst, isSet, yRm, isTup, fIndexT, iSq, iEn, iR1, itemsD, gN, gT, gsCons, gsNil, zFor, zBreak, zCont, zRaise, yCall, yCall0, yMake, yCallN, fixM, agsOf, PV.putAll, put1, noRefs, anyP, yYes, fIsi, tyN, isiT, truD, fBits, endsOf, refPos, refsAt, notLoc, okI, okB, okN, eqvI, zForF, fgM, fgS]
    refine len_book rfl ok.len ?_
    by_cases h : ds.length = rows.length
    · simp only [ttFault, h, if_true] at k
      simp [zSeq, zIf, yT, yB, yVar, yC, yU, yNot, yAnd, yOr, yAndV, yOrV, yNotV, yTru, yIf, yCh, yF, yNil, yCons, yLst, yTup, yDNew, conts, fixs, cont, hold, asB, fGt, fLt, fLe, fGe, fEq, fNe, fI0, fI, fIn, fIsN, fNotN, zSet, zRet, zRetN, zPut, zDrop, zAsg, zAug, zAugS, getA, getL, asgn, give, fix, fMod, fFdiv, fAdd, fAddI, fSub, fMul, fNeg, fPow, fShl, fShr, fAnd, fOr, fXor, setAt, mutAt, uSet, uSetL, uSetD, Sl.put, zNext, isRef_eq, rfa, rff, rfo, fLen, fList, fTuple, fMax2, fMin2, fInt1, fSet0, fRev, fSl, ySl, yPart, yNoPart, yMt, yMs, mAppend, mPopAt, mSAdd, isLst, isSet, yRm, isTup, fIndexT, iSq, iEn, iR1, itemsD, gN, gT, gsCons, gsNil, zFor, zBreak, zCont, zRaise, yCall, yCall0, yMake, yCallN, fixM, agsOf, PV.putAll, put1, noRefs, anyP, yYes, fIsi, tyN, isiT, truD, fBits, endsOf, refPos, refsAt, notLoc, okI, okB, okN, eqvI, zForF, fgM, fgS, h]
      refine meth_book uU rfl ⟨n, rows, rfl, ?_⟩
      simp [zSeq, zIf, yT, yB, yVar, yC, yU, yNot, yAnd, yOr, yAndV, yOrV, yNotV, yTru, yIf, yCh, yF, yNil, yCons, yLst, yTup, yDNew, conts, fixs, cont, hold, asB, fGt, fLt, fLe, fGe, fEq, fNe, fI0, fI, fIn, fIsN, fNotN, zSet, zRet, zRetN, zPut, zDrop, zAsg, zAug, zAugS, getA, getL, asgn, give, fix, fMod, fFdiv, fAdd, fAddI, fSub, fMul, fNeg, fPow, fShl, fShr, fAnd, fOr, fXor, setAt, mutAt, uSet, uSetL, uSetD, Sl.put, zNext, isRef_eq, rfa, rff, rfo, fLen, fList, fTuple, fMax2, fMin2, fInt1, fSet0, fRev, fSl, ySl, yPart, yNoPart, yMt, yMs, mAppend, mPopAt, mSAdd, isLst, isSet, yRm, isTup, fIndexT, iSq, iEn, iR1, itemsD, gN, gT, gsCons, gsNil, zFor, zBreak, zCont, zRaise, yCall, yCall0, yMake, yCallN, fixM, agsOf, PV.putAll, put1, noRefs, anyP, yYes, fIsi, tyN, isiT, truD, fBits, endsOf, refPos, refsAt, notLoc, okI, okB, okN, eqvI, zForF, fgM, fgS, enumD_from]
      refine tt_loop ok.n1 ds 0 [] .any .any rfl rfl hp (by have := ok.len; simp; omega) (fun z ρ => ?_) (fun j z ρ => ?_)
      · rw [z] at k
        simpa [zSeq, zIf, yT, yB, yVar, yC, yU, yNot, yAnd, yOr, yAndV, yOrV, yNotV, yTru, yIf, yCh, yF, yNil, yCons, yLst, yTup, yDNew, conts, fixs, cont, hold, asB, fGt, fLt, fLe, fGe, fEq, fNe, fI0, fI, fIn, fIsN, fNotN, zSet, zRet, zRetN, zPut, zDrop, zAsg, zAug, zAugS, getA, getL, asgn, give, fix, fMod, fFdiv, fAdd, fAddI, fSub, fMul, fNeg, fPow, fShl, fShr, fAnd, fOr, fXor, setAt, mutAt, uSet, uSetL, uSetD, Sl.put, zNext, isRef_eq, rfa, rff, rfo, fLen, fList, fTuple, fMax2, fMin2, fInt1, fSet0, fRev, fSl, ySl, yPart, yNoPart, yMt, yMs, mAppend, mPopAt, mSAdd, isLst, isSet, yRm, isTup, fIndexT, iSq, iEn, iR1, itemsD, gN, gT, gsCons, gsNil, zFor, zBreak, zCont, zRaise, yCall, yCall0, yMake, yCallN, fixM, agsOf, PV.putAll, put1, noRefs, anyP, yYes, fIsi, tyN, isiT, truD, fBits, endsOf, refPos, refsAt, notLoc, okI, okB, okN, eqvI, zForF, fgM, fgS, orFault] using k
      · rw [z] at k
        simpa [zSeq, zIf, yT, yB, yVar, yC, yU, yNot, yAnd, yOr, yAndV, yOrV, yNotV, yTru, yIf, yCh, yF, yNil, yCons, yLst, yTup, yDNew, conts, fixs, cont, hold, asB, fGt, fLt, fLe, fGe, fEq, fNe, fI0, fI, fIn, fIsN, fNotN, zSet, zRet, zRetN, zPut, zDrop, zAsg, zAug, zAugS, getA, getL, asgn, give, fix, fMod, fFdiv, fAdd, fAddI, fSub, fMul, fNeg, fPow, fShl, fShr, fAnd, fOr, fXor, setAt, mutAt, uSet, uSetL, uSetD, Sl.put, zNext, isRef_eq, rfa, rff, rfo, fLen, fList, fTuple, fMax2, fMin2, fInt1, fSet0, fRev, fSl, ySl, yPart, yNoPart, yMt, yMs, mAppend, mPopAt, mSAdd, isLst, isSet, yRm, isTup, fIndexT, iSq, iEn, iR1, itemsD, gN, gT, gsCons, gsNil, zFor, zBreak, zCont, zRaise, yCall, yCall0, yMake, yCallN, fixM, agsOf, PV.putAll, put1, noRefs, anyP, yYes, fIsi, tyN, isiT, truD, fBits, endsOf, refPos, refsAt, notLoc, okI, okB, okN, eqvI, zForF, fgM, fgS, orFault] using k
    · simp only [ttFault, h, if_false] at k
      have h' : ¬ ((ds.length : Int) = rows.length) := by omega
      simpa [zSeq, zIf, yT, yB, yVar, yC, yU, yNot, yAnd, yOr, yAndV, yOrV, yNotV, yTru, yIf, yCh, yF, yNil, yCons, yLst, yTup, yDNew, conts, fixs, cont, hold, asB, fGt, fLt, fLe, fGe, fEq, fNe, fI0, fI, fIn, fIsN, fNotN, zSet, zRet, zRetN, zPut, zDrop, zAsg, zAug, zAugS, getA, getL, asgn, give, fix, fMod, fFdiv, fAdd, fAddI, fSub, fMul, fNeg, fPow, fShl, fShr, fAnd, fOr, fXor, setAt, mutAt, uSet, uSetL, uSetD, Sl.put, zNext, isRef_eq, rfa, rff, rfo, fLen, fList, fTuple, fMax2, fMin2, fInt1, fSet0, fRev, fSl, ySl, yPart, yNoPart, yMt, yMs, mAppend, mPopAt, mSAdd, isLst, isSet, yRm, isTup, fIndexT, iSq, iEn, iR1, itemsD, gN, gT, gsCons, gsNil, zFor, zBreak, zCont, zRaise, yCall, yCall0, yMake, yCallN, fixM, agsOf, PV.putAll, put1, noRefs, anyP, yYes, fIsi, tyN, isiT, truD, fBits, endsOf, refPos, refsAt, notLoc, okI, okB, okN, eqvI, zForF, fgM, fgS, h', orFault] using k
  | _ => cases hty <;> simp only [ttFault] at k <;> simpa [t_check_timetable, zSeq, zIf, yT, yB, yVar, yC, yU, yNot, yAnd, yOr, yAndV, yOrV, yNotV, yTru, yIf, yCh, yF, yNil, yCons, yLst, yTup, yDNew, conts, fixs, cont, hold, asB, fGt, fLt, fLe, fGe, fEq, fNe, fI0, fI, fIn, fIsN, fNotN, zSet, zRet, zRetN, zPut, zDrop, zAsg, zAug, zAugS, getA, getL, asgn, give, fix, fMod, fFdiv, fAdd, fAddI, fSub, fMul, fNeg, fPow, fShl, fShr, fAnd, fOr, fXor, setAt, mutAt, uSet, uSetL, uSetD, Sl.put, zNext, isRef_eq, rfa, rff, rfo, fLen, fList, fTuple, fMax2, fMin2, fInt1, fSet0, fRev, fSl, ySl, yPart, yNoPart, yMt, yMs, mAppend, mPopAt, mSAdd, isLst, isSet, yRm, isTup, fIndexT, iSq, iEn, iR1, itemsD, gN, gT, gsCons, gsNil, zFor, zBreak, zCont, zRaise, yCall, yCall0, yMake, yCallN, fixM, agsOf, PV.putAll, put1, noRefs, anyP, yYes, fIsi, tyN, isiT, truD, fBits, endsOf, refPos, refsAt, notLoc, okI, okB, okN, eqvI, zForF, fgM, fgS, orFault] using k
end Law
namespace Law
open PySem PySem.Spec PyProof.Rows L2 PV
/-! ### the bits of a number -/
theorem mem_bitsOf {u i : Nat} : i ∈ bitsOf u ↔ u.testBit i = true := by
  unfold bitsOf
  rw [List.mem_filter, List.mem_range]
  refine ⟨fun h => h.2, fun h => ⟨?_, h⟩⟩
  rcases Nat.lt_or_ge i (u.log2 + 1) with k | k
  · exact k
  · have : u < 2 ^ i := Nat.lt_of_lt_of_le Nat.lt_log2_self (Nat.pow_le_pow_right (by decide) k)
    rw [Nat.testBit_lt_two_pow this] at h
    cases h
theorem bitsOf_asc (u : Nat) : (bitsOf u).Pairwise (· < ·) := List.Pairwise.filter _ (List.pairwise_lt_range)
end Law
namespace Law
open PySem PySem.Spec PyProof.Rows L2 PV
/-! ### taking bits away -/
theorem odd_and (m w : Nat) : ((m &&& w) % 2 = 1) ↔ (m % 2 = 1 ∧ w % 2 = 1) := by
  have h : (m &&& w).testBit 0 = (m.testBit 0 && w.testBit 0) := Nat.testBit_and m w 0
  simp only [Nat.testBit_zero] at h
  constructor
  · intro z
    rw [decide_eq_true z] at h
    have := h.symm
    rw [Bool.and_eq_true, decide_eq_true_eq, decide_eq_true_eq] at this
    exact this
  · rintro ⟨a, b⟩
    rw [decide_eq_true a, decide_eq_true b] at h
    simpa using h
theorem sub_and_bit : ∀ (i m w : Nat), (w - (m &&& w)).testBit i = (w.testBit i && !m.testBit i)
  | 0, m, w => by
    have h := odd_and m w
    have le : m &&& w ≤ w := Nat.and_le_right
    generalize m &&& w = c at h le
    simp only [Nat.testBit_zero]
    by_cases h1 : m % 2 = 1 <;> by_cases h2 : w % 2 = 1
    · have := h.mpr ⟨h1, h2⟩
      have : ¬ (w - c) % 2 = 1 := by omega
      simp [h1, h2, this]
    · have : ¬ c % 2 = 1 := fun z => h2 (h.mp z).2
      have : ¬ (w - c) % 2 = 1 := by omega
      simp [h1, h2, this]
    · have : ¬ c % 2 = 1 := fun z => h1 (h.mp z).1
      have : (w - c) % 2 = 1 := by omega
      simp [h1, h2, this]
    · have : ¬ c % 2 = 1 := fun z => h1 (h.mp z).1
      have : ¬ (w - c) % 2 = 1 := by omega
      simp [h1, h2, this]
  | i + 1, m, w => by
    have e : (w - (m &&& w)) / 2 = w / 2 - (m / 2 &&& w / 2) := by
      rw [← Nat.and_div_two]
      have h := odd_and m w
      have le : m &&& w ≤ w := Nat.and_le_right
      generalize m &&& w = c at h le
      by_cases h2 : c % 2 = 1
      · have := (h.mp h2).2; omega
      · omega
    rw [Nat.testBit_succ, e, sub_and_bit i, Nat.testBit_succ, Nat.testBit_succ]
/-! ### ways_to -/
end Law
namespace Law
open PySem PySem.Spec PyProof.Rows L2 PV
/-! ### the keys of the ways -/
theorem keys_wput {w : Ways} {k : Int} {v : Option (Nat × Int)} : keysOf (wput w k v) = if k ∈ keysOf w then keysOf w else keysOf w ++ [k] := by
  unfold wput keysOf
  by_cases h : k ∈ w.map (·.1)
  · have : (w.any fun p => decide (p.1 = k)) = true := by
      obtain ⟨p, hp, e⟩ := List.mem_map.mp h
      exact List.any_eq_true.mpr ⟨p, hp, by simp [e]⟩
    rw [if_pos this, if_pos h, List.map_map]
    refine List.map_congr_left fun p _ => ?_
    show (if p.1 = k then (p.1, v) else p).1 = p.1
    split <;> rfl
  · have : ¬ (w.any fun p => decide (p.1 = k)) = true := fun z => by
      obtain ⟨p, hp, e⟩ := List.any_eq_true.mp z
      exact h (List.mem_map.mpr ⟨p, hp, by simpa using e⟩)
    rw [if_neg this, if_neg h, List.map_append]
    rfl
structure KOk (n : Int) (w : Ways) : Prop where
  nd : (keysOf w).Nodup
  rg : ∀ k ∈ keysOf w, 0 ≤ k ∧ k < n
theorem KOk.put {n : Int} {w : Ways} (h : KOk n w) {k : Int} {v : Option (Nat × Int)} (hk : 0 ≤ k ∧ k < n) : KOk n (wput w k v) := by
  obtain ⟨h1, h2⟩ := h
  by_cases m : k ∈ keysOf w
  · exact ⟨by rw [keys_wput, if_pos m]; exact h1, by rw [keys_wput, if_pos m]; exact h2⟩
  · refine ⟨by rw [keys_wput, if_neg m]; exact List.nodup_append.mpr ⟨h1, by simp, fun a ha b hb => by rw [List.mem_singleton.mp hb]; exact fun z => m (z ▸ ha)⟩, ?_⟩
    rw [keys_wput, if_neg m]
    intro x hx
    rcases List.mem_append.mp hx with hx | hx
    · exact h2 x hx
    · rw [List.mem_singleton.mp hx]; exact hk
theorem KOk.start {n : Int} : ∀ (l : List Int) {w : Ways}, KOk n w → (∀ s ∈ l, 0 ≤ s ∧ s < n) → KOk n (ways0 l w)
  | [], _, h, _ => h
  | s :: l, w, h, hl => KOk.start l (h.put (hl s List.mem_cons_self)) fun x hx => hl x (List.mem_cons_of_mem _ hx)
theorem KOk.len {n : Int} {w : Ways} (h : KOk n w) (hn : 0 ≤ n) : w.length ≤ n.toNat := by
  have := List.Nodup.length_le_of_subset h.nd (l₂ := (List.range n.toNat).map fun i : Nat => (i : Int)) (fun k hk => by
    obtain ⟨h1, h2⟩ := h.rg k hk
    exact List.mem_map.mpr ⟨k.toNat, List.mem_range.mpr (by omega), by omega⟩)
  simpa [keysOf] using this
/-! ### open_slots -/
end Law
namespace Law
open PySem PySem.Spec PyProof.Rows L2 PV
/-! ### tight_fault -/
def ownD (l : List Int) : D := .dic (l.map Sum.inl) ((List.range l.length).map natD)
theorem own_put {l : List Int} {s : Int} (h : s ∉ l) : dput (l.map (Sum.inl : Int → Key)) ((List.range l.length).map natD) (.inl s) (natD l.length) = ((l ++ [s]).map (Sum.inl : Int → Key), (List.range (l ++ [s]).length).map natD) := by
  have e : hasK (l.map (Sum.inl : Int → Key)) (.inl s) = false := by
    unfold hasK
    refine Bool.eq_false_iff.mpr fun z => ?_
    obtain ⟨k, hk, e⟩ := List.any_eq_true.mp z
    obtain ⟨x, hx, rfl⟩ := List.mem_map.mp hk
    simp at e
    exact h (e ▸ hx)
  unfold dput
  rw [e]
  simp [List.range_succ]
theorem dc_owners {q : List Key → List D → Rho → Prop} {a0 a1 a2 a4 a5 a6 a7 a8 : Sl} : ∀ (l w : List Int), (w ++ l).Nodup → (w ++ l).length ≤ 100000 → q ((w ++ l).map Sum.inl) ((List.range (w ++ l).length).map natD) [a0, a1, a2, .any, a4, a5, a6, a7, a8, .any] →
    yDcL (gT 2 (gsCons (gN 9) (gsCons (gN 3) gsNil))) yYes (yVar 3) (yVar 9) [9, 3] (enumFrom w.length (l.map D.int)) (w.map Sum.inl) ((List.range w.length).map natD) [a0, a1, a2, .any, a4, a5, a6, a7, a8, .any] q
  | [], w, nd, hl, k => by simpa [yDcL, enumFrom] using k
  | s :: l, w, nd, hl, k => by
    have e : w ++ s :: l = (w ++ [s]) ++ l := by simp
    rw [e] at nd hl k
    have ih := dc_owners (q := q) (a0 := a0) (a1 := a1) (a2 := a2) (a4 := a4) (a5 := a5) (a6 := a6) (a7 := a7) (a8 := a8) l (w ++ [s]) nd hl k
    have hs : s ∉ w := fun m => by
      have := List.nodup_append.mp (List.nodup_append.mp nd).1
      exact this.2.2 s m s (by simp) rfl
    have hw : w.length < sizeLine := by
      rw [sizeLine_eq]
      simp at hl
      omega
    have p := own_put hs
    simp [yDcL, enumFrom, zSeq, zIf, yT, yB, yVar, yC, yU, yNot, yAnd, yOr, yAndV, yOrV, yNotV, yTru, yIf, yCh, yF, yNil, yCons, yLst, yTup, yDNew, conts, fixs, cont, hold, asB, fGt, fLt, fLe, fGe, fEq, fNe, fI0, fI, fIn, fIsN, fNotN, zSet, zRet, zRetN, zPut, zDrop, zAsg, zAug, zAugS, getA, getL, asgn, give, fix, fMod, fFdiv, fAdd, fAddI, fSub, fMul, fNeg, fPow, fShl, fShr, fAnd, fOr, fXor, setAt, mutAt, Sl.put, zNext, isRef_eq, rfa, rff, rfo, fLen, fList, fTuple, fMax2, fMin2, fInt1, fSet0, fRev, fSl, ySl, yPart, yNoPart, yMt, yMs, mAppend, mPopAt, mSAdd, isLst, isSet, yRm, isTup, fIndexT, iSq, iEn, iR1, itemsD, gN, gT, gsCons, gsNil, zFor, zBreak, zCont, zRaise, yCall, yCall0, yMake, yCallN, fixM, agsOf, PV.putAll, put1, noRefs, anyP, yYes, fIsi, tyN, isiT, truD, fBits, endsOf, refPos, refsAt, notLoc, okI, okB, okN, eqvI, zForF, fgM, fgS]
    refine ⟨.inl s, rfl, hw, ?_⟩
    have p' : dput (w.map (Sum.inl : Int → Key)) ((List.range w.length).map natD) (.inl s) (.int (w.length : Int)) = _ := p
    rw [p']
    have e3 : w.length + 1 = (w ++ [s]).length := by simp
    rw [e3]
    exact ih
theorem in_own {neg : Bool} {s : Int} {l : List Int} {q : R → Prop} : fIn neg (.int s) (ownD l) q = q (.dat (.bl (if neg then !decide (s ∈ l) else decide (s ∈ l)))) := by
  have e : hasK (l.map (Sum.inl : Int → Key)) (.inl s) = decide (s ∈ l) := by
    unfold hasK
    by_cases h : s ∈ l
    · rw [decide_eq_true h]
      exact List.any_eq_true.mpr ⟨.inl s, List.mem_map.mpr ⟨s, h, rfl⟩, by simp⟩
    · rw [decide_eq_false h]
      refine Bool.eq_false_iff.mpr fun z => ?_
      obtain ⟨k, hk, e⟩ := List.any_eq_true.mp z
      obtain ⟨x, hx, rfl⟩ := List.mem_map.mp hk
      simp at e
      exact h (e ▸ hx)
  have e2 : fIn neg (.int s) (ownD l) q = ∃ k, keyOf? (.int s) = some k ∧ q (.dat (.bl (if neg then !hasK (l.map (Sum.inl : Int → Key)) k else hasK (l.map (Sum.inl : Int → Key)) k))) := rfl
  rw [e2]
  refine propext ⟨fun ⟨k, h1, h2⟩ => ?_, fun h => ⟨.inl s, rfl, by rw [e]; exact h⟩⟩
  cases h1
  rw [e] at h2
  exact h2
theorem get_own {s : Int} : ∀ (l : List Int) (a : Nat), s ∈ l → dget (l.map (Sum.inl : Int → Key)) ((List.range' a l.length).map natD) (.inl s) = some (natD (a + l.idxOf s))
  | [], a, h => by cases h
  | x :: l, a, h => by
    by_cases e : x = s
    · subst e
      simp [dget, List.range'_succ]
    · have hm : s ∈ l := by
        rcases List.mem_cons.mp h with z | z
        · exact absurd z.symm e
        · exact z
      have ih := get_own l (a + 1) hm
      have e1 : (x :: l).idxOf s = l.idxOf s + 1 := by
        rw [List.idxOf_cons]
        have : (x == s) = false := by simpa using e
        rw [this]
        rfl
      rw [e1, show a + (l.idxOf s + 1) = a + 1 + l.idxOf s by omega, ← ih]
      simp [dget, List.range'_succ, e]
theorem ix_own {s : Int} {l : List Int} {q : R → Prop} (h : s ∈ l) : fIxA (ownD l) (.int s) q = q (.dat (natD (l.idxOf s))) := by
  have g := get_own l 0 h
  rw [← List.range_eq_range', Nat.zero_add] at g
  have e : fIxA (ownD l) (.int s) q = ∃ k x, keyOf? (.int s) = some k ∧ dget (l.map (Sum.inl : Int → Key)) ((List.range l.length).map natD) k = some x ∧ q (.dat x) := rfl
  rw [e]
  refine propext ⟨fun ⟨k, x, h1, h2, h3⟩ => ?_, fun h => ⟨.inl s, _, rfl, g, h⟩⟩
  cases h1
  rw [g] at h2
  cases h2
  exact h3
end Law
namespace Law
open PySem PySem.Spec PyProof.Rows L2 PV
/-! ### the items that are no occupied slots -/
theorem ins_loop {E : PEnds} {n : Int} {rows : List (List Int)} {tt : List Int} {v1 v2 v7 v8 v9 : Sl} : ∀ (ds : List D) (i : Nat) (seen : List Int) (s6 s3 : Sl), isRefS s6 = false → isRefS s3 = false → (∀ x ∈ ds, plain x) → seen.length + ds.length ≤ 2000 →
    (∀ ss, insideFrom n tt i seen ds = .inr ss → ∀ s3 s6, isRefS s3 = false → isRefS s6 = false → E.nx [.frz (bookOf n rows), v1, v2, s3, .own (ownD tt), .own (.set ss), s6, v7, v8, v9]) →
    (∀ j : Nat, insideFrom n tt i seen ds = .inl j → ∀ ρ, E.rt (.dat (natD j)) ρ) →
    zForL (gT 2 (gsCons (gN 6) (gsCons (gN 3) gsNil)))
    (zSeq (zIf (yOr (yNot (yTru (yCall sp_is_below [false, false] [] (yCons (yVar 3) (yCons (yMeth "Book" "size" sp_Book_size [] [] (yVar 0) yNil) yNil))))) (yOr (yT (yB (fIn true) (yVar 3) (yVar 4))) (yT (yB (fIn false) (yVar 3) (yVar 5)))))
    (zRet (yVar 6)) zNext)
    (zDrop (yMs mSAdd (yVar 5) (yCons (yVar 3) yNil)))) E (enumFrom i ds) [.frz (bookOf n rows), v1, v2, s3, .own (ownD tt), .own (.set seen), s6, v7, v8, v9]
  | [], i, seen, s6, s3, h6, h3, hp, hl, k1, k2 => k1 seen rfl s3 s6 h3 h6
  | d :: r, i, seen, s6, s3, h6, h3, hp, hl, k1, k2 => by
    have hr : ∀ x ∈ r, plain x := fun x hx => hp x (List.mem_cons_of_mem _ hx)
    have pd := hp d List.mem_cons_self
    rw [List.length_cons] at hl
    have bad : (∀ ρ, E.rt (.dat (natD i)) ρ) → below d n = false → zForL (gT 2 (gsCons (gN 6) (gsCons (gN 3) gsNil)))
        (zSeq (zIf (yOr (yNot (yTru (yCall sp_is_below [false, false] [] (yCons (yVar 3) (yCons (yMeth "Book" "size" sp_Book_size [] [] (yVar 0) yNil) yNil))))) (yOr (yT (yB (fIn true) (yVar 3) (yVar 4))) (yT (yB (fIn false) (yVar 3) (yVar 5)))))
        (zRet (yVar 6)) zNext)
        (zDrop (yMs mSAdd (yVar 5) (yCons (yVar 3) yNil)))) E (enumFrom i (d :: r)) [.frz (bookOf n rows), v1, v2, s3, .own (ownD tt), .own (.set seen), s6, v7, v8, v9] := fun k hb => by
      simp [zForL, enumFrom, zSeq, zIf, yT, yB, yVar, yC, yU, yNot, yAnd, yOr, yAndV, yOrV, yNotV, yTru, yIf, yCh, yF, yNil, yCons, yLst, yTup, yDNew, conts, fixs, cont, hold, asB, fGt, fLt, fLe, fGe, fEq, fNe, fI0, fI, fIn, fIsN, fNotN, zSet, zRet, zRetN, zPut, zDrop, zAsg, zAug, zAugS, getA, getL, asgn, give, fix, fMod, fFdiv, fAdd, fAddI, fSub, fMul, fNeg, fPow, fShl, fShr, fAnd, fOr, fXor, setAt, mutAt, Sl.put, zNext, isRef_eq, rfa, rff, rfo, fLen, fList, fTuple, fMax2, fMin2, fInt1, fSet0, fRev, fSl, ySl, yPart, yNoPart, yMt, yMs, mAppend, mPopAt, mSAdd, isLst, isSet, yRm, isTup, fIndexT, iSq, iEn, iR1, itemsD, gN, gT, gsCons, gsNil, zFor, zBreak, zCont, zRaise, yCall, yCall0, yMake, yCallN, fixM, agsOf, PV.putAll, put1, noRefs, anyP, yYes, fIsi, tyN, isiT, truD, fBits, endsOf, refPos, refsAt, notLoc, okI, okB, okN, eqvI, zForF, fgM, fgS, h6, h3]
      refine meth_book uS rfl ⟨n, rows, rfl, ?_⟩
      simpa [zSeq, zIf, yT, yB, yVar, yC, yU, yNot, yAnd, yOr, yAndV, yOrV, yNotV, yTru, yIf, yCh, yF, yNil, yCons, yLst, yTup, yDNew, conts, fixs, cont, hold, asB, fGt, fLt, fLe, fGe, fEq, fNe, fI0, fI, fIn, fIsN, fNotN, zSet, zRet, zRetN, zPut, zDrop, zAsg, zAug, zAugS, getA, getL, asgn, give, fix, fMod, fFdiv, fAdd, fAddI, fSub, fMul, fNeg, fPow, fShl, fShr, fAnd, fOr, fXor, setAt, mutAt, Sl.put, zNext, isRef_eq, rfa, rff, rfo, fLen, fList, fTuple, fMax2, fMin2, fInt1, fSet0, fRev, fSl, ySl, yPart, yNoPart, yMt, yMs, mAppend, mPopAt, mSAdd, isLst, isSet, yRm, isTup, fIndexT, iSq, iEn, iR1, itemsD, gN, gT, gsCons, gsNil, zFor, zBreak, zCont, zRaise, yCall, yCall0, yMake, yCallN, fixM, agsOf, PV.putAll, put1, noRefs, anyP, yYes, fIsi, tyN, isiT, truD, fBits, endsOf, refPos, refsAt, notLoc, okI, okB, okN, eqvI, zForF, fgM, fgS, ap_is_below, pd, hb, natD] using k _
    cases d with
    | int s =>
      simp only [insideFrom] at k1 k2
      by_cases h0 : 0 ≤ s
      · by_cases h1 : s < n
        · have hb := bel_of h0 h1
          by_cases h2 : s ∈ tt
          · by_cases h4 : s ∈ seen
            · have := k2 i (by simp [h4])
              simp [zForL, enumFrom, zSeq, zIf, yT, yB, yVar, yC, yU, yNot, yAnd, yOr, yAndV, yOrV, yNotV, yTru, yIf, yCh, yF, yNil, yCons, yLst, yTup, yDNew, conts, fixs, cont, hold, asB, fGt, fLt, fLe, fGe, fEq, fNe, fI0, fI, fIsN, fNotN, zSet, zRet, zRetN, zPut, zDrop, zAsg, zAug, zAugS, getA, getL, asgn, give, fix, fMod, fFdiv, fAdd, fAddI, fSub, fMul, fNeg, fPow, fShl, fShr, fAnd, fOr, fXor, setAt, mutAt, Sl.put, zNext, isRef_eq, rfa, rff, rfo, fLen, fList, fTuple, fMax2, fMin2, fInt1, fSet0, fRev, fSl, ySl, yPart, yNoPart, yMt, yMs, mAppend, mPopAt, mSAdd, isLst, isSet, yRm, isTup, fIndexT, iSq, iEn, iR1, itemsD, gN, gT, gsCons, gsNil, zFor, zBreak, zCont, zRaise, yCall, yCall0, yMake, yCallN, fixM, agsOf, PV.putAll, put1, noRefs, anyP, yYes, fIsi, tyN, isiT, truD, fBits, endsOf, refPos, refsAt, notLoc, okI, okB, okN, eqvI, zForF, fgM, fgS, h6, h3]
              refine meth_book uS rfl ⟨n, rows, rfl, ?_⟩
              simp [zSeq, zIf, yT, yB, yVar, yC, yU, yNot, yAnd, yOr, yAndV, yOrV, yNotV, yTru, yIf, yCh, yF, yNil, yCons, yLst, yTup, yDNew, conts, fixs, cont, hold, asB, fGt, fLt, fLe, fGe, fEq, fNe, fI0, fI, fIsN, fNotN, zSet, zRet, zRetN, zPut, zDrop, zAsg, zAug, zAugS, getA, getL, asgn, give, fix, fMod, fFdiv, fAdd, fAddI, fSub, fMul, fNeg, fPow, fShl, fShr, fAnd, fOr, fXor, setAt, mutAt, Sl.put, zNext, isRef_eq, rfa, rff, rfo, fLen, fList, fTuple, fMax2, fMin2, fInt1, fSet0, fRev, fSl, ySl, yPart, yNoPart, yMt, yMs, mAppend, mPopAt, mSAdd, isLst, isSet, yRm, isTup, fIndexT, iSq, iEn, iR1, itemsD, gN, gT, gsCons, gsNil, zFor, zBreak, zCont, zRaise, yCall, yCall0, yMake, yCallN, fixM, agsOf, PV.putAll, put1, noRefs, anyP, yYes, fIsi, tyN, isiT, truD, fBits, endsOf, refPos, refsAt, notLoc, okI, okB, okN, eqvI, zForF, fgM, fgS, ap_is_below, pd, hb, in_own, h2]
              simpa [zSeq, zIf, yT, yB, yVar, yC, yU, yNot, yAnd, yOr, yAndV, yOrV, yNotV, yTru, yIf, yCh, yF, yNil, yCons, yLst, yTup, yDNew, conts, fixs, cont, hold, asB, fGt, fLt, fLe, fGe, fEq, fNe, fI0, fI, fIn, fIsN, fNotN, zSet, zRet, zRetN, zPut, zDrop, zAsg, zAug, zAugS, getA, getL, asgn, give, fix, fMod, fFdiv, fAdd, fAddI, fSub, fMul, fNeg, fPow, fShl, fShr, fAnd, fOr, fXor, setAt, mutAt, Sl.put, zNext, isRef_eq, rfa, rff, rfo, fLen, fList, fTuple, fMax2, fMin2, fInt1, fSet0, fRev, fSl, ySl, yPart, yNoPart, yMt, yMs, mAppend, mPopAt, mSAdd, isLst, isSet, yRm, isTup, fIndexT, iSq, iEn, iR1, itemsD, gN, gT, gsCons, gsNil, zFor, zBreak, zCont, zRaise, yCall, yCall0, yMake, yCallN, fixM, agsOf, PV.putAll, put1, noRefs, anyP, yYes, fIsi, tyN, isiT, truD, fBits, endsOf, refPos, refsAt, notLoc, okI, okB, okN, eqvI, zForF, fgM, fgS, h4, natD] using this _
            · have c : 0 ≤ s ∧ s < n ∧ s ∈ tt ∧ s ∉ seen := ⟨h0, h1, h2, h4⟩
              rw [if_pos c] at k1 k2
              have ih := ins_loop (E := E) (n := n) (rows := rows) (tt := tt) (v1 := v1) (v2 := v2) (v7 := v7) (v8 := v8) (v9 := v9) r (i + 1) (seen ++ [s]) (.frz (natD i)) (.frz (.int s)) rfl rfl hr (by simp; omega) k1 k2
              have hl2 : seen.length + 1 < scanBound := by rw [sb]; omega
              simp [zForL, enumFrom, zSeq, zIf, yT, yB, yVar, yC, yU, yNot, yAnd, yOr, yAndV, yOrV, yNotV, yTru, yIf, yCh, yF, yNil, yCons, yLst, yTup, yDNew, conts, fixs, cont, hold, asB, fGt, fLt, fLe, fGe, fEq, fNe, fI0, fI, fIsN, fNotN, zSet, zRet, zRetN, zPut, zDrop, zAsg, zAug, zAugS, getA, getL, asgn, give, fix, fMod, fFdiv, fAdd, fAddI, fSub, fMul, fNeg, fPow, fShl, fShr, fAnd, fOr, fXor, setAt, mutAt, Sl.put, zNext, isRef_eq, rfa, rff, rfo, fLen, fList, fTuple, fMax2, fMin2, fInt1, fSet0, fRev, fSl, ySl, yPart, yNoPart, yMt, yMs, mAppend, mPopAt, mSAdd, isLst, isSet, yRm, isTup, fIndexT, iSq, iEn, iR1, itemsD, gN, gT, gsCons, gsNil, zFor, zBreak, zCont, zRaise, yCall, yCall0, yMake, yCallN, fixM, agsOf, PV.putAll, put1, noRefs, anyP, yYes, fIsi, tyN, isiT, truD, fBits, endsOf, refPos, refsAt, notLoc, okI, okB, okN, eqvI, zForF, fgM, fgS, h6, h3]
              refine meth_book uS rfl ⟨n, rows, rfl, ?_⟩
              simp [zSeq, zIf, yT, yB, yVar, yC, yU, yNot, yAnd, yOr, yAndV, yOrV, yNotV, yTru, yIf, yCh, yF, yNil, yCons, yLst, yTup, yDNew, conts, fixs, cont, hold, asB, fGt, fLt, fLe, fGe, fEq, fNe, fI0, fI, fIsN, fNotN, zSet, zRet, zRetN, zPut, zDrop, zAsg, zAug, zAugS, getA, getL, asgn, give, fix, fMod, fFdiv, fAdd, fAddI, fSub, fMul, fNeg, fPow, fShl, fShr, fAnd, fOr, fXor, setAt, mutAt, Sl.put, zNext, isRef_eq, rfa, rff, rfo, fLen, fList, fTuple, fMax2, fMin2, fInt1, fSet0, fRev, fSl, ySl, yPart, yNoPart, yMt, yMs, mAppend, mPopAt, mSAdd, isLst, isSet, yRm, isTup, fIndexT, iSq, iEn, iR1, itemsD, gN, gT, gsCons, gsNil, zFor, zBreak, zCont, zRaise, yCall, yCall0, yMake, yCallN, fixM, agsOf, PV.putAll, put1, noRefs, anyP, yYes, fIsi, tyN, isiT, truD, fBits, endsOf, refPos, refsAt, notLoc, okI, okB, okN, eqvI, zForF, fgM, fgS, ap_is_below, pd, hb, in_own, h2]
              simpa [zSeq, zIf, yT, yB, yVar, yC, yU, yNot, yAnd, yOr, yAndV, yOrV, yNotV, yTru, yIf, yCh, yF, yNil, yCons, yLst, yTup, yDNew, conts, fixs, cont, hold, asB, fGt, fLt, fLe, fGe, fEq, fNe, fI0, fI, fIn, fIsN, fNotN, zSet, zRet, zRetN, zPut, zDrop, zAsg, zAug, zAugS, getA, getL, asgn, give, fix, fMod, fFdiv, fAdd, fAddI, fSub, fMul, fNeg, fPow, fShl, fShr, fAnd, fOr, fXor, setAt, mutAt, Sl.put, zNext, isRef_eq, rfa, rff, rfo, fLen, fList, fTuple, fMax2, fMin2, fInt1, fSet0, fRev, fSl, ySl, yPart, yNoPart, yMt, yMs, mAppend, mPopAt, mSAdd, isLst, isSet, yRm, isTup, fIndexT, iSq, iEn, iR1, itemsD, gN, gT, gsCons, gsNil, zFor, zBreak, zCont, zRaise, yCall, yCall0, yMake, yCallN, fixM, agsOf, PV.putAll, put1, noRefs, anyP, yYes, fIsi, tyN, isiT, truD, fBits, endsOf, refPos, refsAt, notLoc, okI, okB, okN, eqvI, zForF, fgM, fgS, h4, natD, hl2] using ih
          · have := k2 i (by simp [h2])
            simp [zForL, enumFrom, zSeq, zIf, yT, yB, yVar, yC, yU, yNot, yAnd, yOr, yAndV, yOrV, yNotV, yTru, yIf, yCh, yF, yNil, yCons, yLst, yTup, yDNew, conts, fixs, cont, hold, asB, fGt, fLt, fLe, fGe, fEq, fNe, fI0, fI, fIsN, fNotN, zSet, zRet, zRetN, zPut, zDrop, zAsg, zAug, zAugS, getA, getL, asgn, give, fix, fMod, fFdiv, fAdd, fAddI, fSub, fMul, fNeg, fPow, fShl, fShr, fAnd, fOr, fXor, setAt, mutAt, Sl.put, zNext, isRef_eq, rfa, rff, rfo, fLen, fList, fTuple, fMax2, fMin2, fInt1, fSet0, fRev, fSl, ySl, yPart, yNoPart, yMt, yMs, mAppend, mPopAt, mSAdd, isLst, isSet, yRm, isTup, fIndexT, iSq, iEn, iR1, itemsD, gN, gT, gsCons, gsNil, zFor, zBreak, zCont, zRaise, yCall, yCall0, yMake, yCallN, fixM, agsOf, PV.putAll, put1, noRefs, anyP, yYes, fIsi, tyN, isiT, truD, fBits, endsOf, refPos, refsAt, notLoc, okI, okB, okN, eqvI, zForF, fgM, fgS, h6, h3]
            refine meth_book uS rfl ⟨n, rows, rfl, ?_⟩
            simpa [zSeq, zIf, yT, yB, yVar, yC, yU, yNot, yAnd, yOr, yAndV, yOrV, yNotV, yTru, yIf, yCh, yF, yNil, yCons, yLst, yTup, yDNew, conts, fixs, cont, hold, asB, fGt, fLt, fLe, fGe, fEq, fNe, fI0, fI, fIsN, fNotN, zSet, zRet, zRetN, zPut, zDrop, zAsg, zAug, zAugS, getA, getL, asgn, give, fix, fMod, fFdiv, fAdd, fAddI, fSub, fMul, fNeg, fPow, fShl, fShr, fAnd, fOr, fXor, setAt, mutAt, Sl.put, zNext, isRef_eq, rfa, rff, rfo, fLen, fList, fTuple, fMax2, fMin2, fInt1, fSet0, fRev, fSl, ySl, yPart, yNoPart, yMt, yMs, mAppend, mPopAt, mSAdd, isLst, isSet, yRm, isTup, fIndexT, iSq, iEn, iR1, itemsD, gN, gT, gsCons, gsNil, zFor, zBreak, zCont, zRaise, yCall, yCall0, yMake, yCallN, fixM, agsOf, PV.putAll, put1, noRefs, anyP, yYes, fIsi, tyN, isiT, truD, fBits, endsOf, refPos, refsAt, notLoc, okI, okB, okN, eqvI, zForF, fgM, fgS, ap_is_below, pd, hb, in_own, h2, natD] using this _
        · have := k2 i (by simp [h1])
          exact bad this (by simp [below, h1])
      · have := k2 i (by simp [h0])
        exact bad this (by simp [below, h0])
    | _ => exact bad (fun ρ => k2 i rfl ρ) rfl
/-! ### who may leave -/
def orMask (rows : List (List Int)) (inside : List Int) : Nat → Nat → Nat → Nat
  | _, 0, acc => acc
  | s, k + 1, acc => orMask rows inside (s + 1) k (if (s : Int) ∈ inside then acc else acc ||| mask rows s)
theorem or_nd (x y : Nat) {q : R → Prop} : fOr (natD x) (natD y) q = q (.dat (natD (x ||| y))) := by
  have e : Builtin.bitOr (x : Int) (y : Int) = ((x ||| y : Nat) : Int) := by
    unfold Builtin.bitOr Builtin.bitAnd Builtin.bitNot
    have e1 : decide (0 ≤ -(x : Int) - 1) = false := by simp; omega
    have e2 : decide (0 ≤ -(y : Int) - 1) = false := by simp; omega
    rw [e1, e2]
    simp only
    have e3 : (-(-(x : Int) - 1) - 1).toNat = x := by omega
    have e4 : (-(-(y : Int) - 1) - 1).toNat = y := by omega
    rw [e3, e4]
    omega
  show q (.dat (.int (Builtin.bitOr (x : Int) (y : Int)))) = _
  rw [e]
  rfl
theorem or_loop {E : PEnds} {rows : List (List Int)} {ss : List Int} {v0 v1 v2 v4 v6 v9 : Sl} : ∀ (k s acc : Nat) (s3 s8 : Sl), isRefS s3 = false → isRefS s8 = false →
    (∀ s3 s8, isRefS s3 = false → isRefS s8 = false → E.nx [v0, v1, v2, s3, v4, .own (.set ss), v6, .frz (natD (orMask rows ss s k acc)), s8, v9]) →
    zForL (gT 2 (gsCons (gN 3) (gsCons (gN 8) gsNil)))
    (zIf (yT (yB (fIn true) (yVar 3) (yVar 5)))
    (zAug 7 fOr (yVar 8)) zNext) E (enumFrom s ((List.range' s k).map fun j : Nat => natD (mask rows (j : Int)))) [v0, v1, v2, s3, v4, .own (.set ss), v6, .frz (natD acc), s8, v9]
  | 0, s, acc, s3, s8, h3, h8, k => k s3 s8 h3 h8
  | m + 1, s, acc, s3, s8, h3, h8, k => by
    have ih := fun acc => or_loop (E := E) (rows := rows) (ss := ss) (v0 := v0) (v1 := v1) (v2 := v2) (v4 := v4) (v6 := v6) (v9 := v9) m (s + 1) acc (.frz (natD s)) (.frz (natD (mask rows (s : Int)))) rfl rfl
    rw [List.range'_succ, List.map_cons, enumFrom]
    by_cases h : (s : Int) ∈ ss
    · have ih := ih acc (by simpa [orMask, h] using k)
      have ih' : zForL _ _ E _ [v0, v1, v2, .frz (.int (s : Int)), v4, .own (.set ss), v6, .frz (natD acc), .frz (natD (mask rows (s : Int))), v9] := ih
      simpa [zForL, zSeq, zIf, yT, yB, yVar, yC, yU, yNot, yAnd, yOr, yAndV, yOrV, yNotV, yTru, yIf, yCh, yF, yNil, yCons, yLst, yTup, yDNew, conts, fixs, cont, hold, asB, fGt, fLt, fLe, fGe, fEq, fNe, fI0, fI, fIn, fIsN, fNotN, zSet, zRet, zRetN, zPut, zDrop, zAsg, zAug, zAugS, getA, getL, asgn, give, fix, fMod, fFdiv, fAdd, fAddI, fSub, fMul, fNeg, fPow, fShl, fShr, fAnd, fOr, fXor, setAt, mutAt, Sl.put, zNext, isRef_eq, rfa, rff, rfo, fLen, fList, fTuple, fMax2, fMin2, fInt1, fSet0, fRev, fSl, ySl, yPart, yNoPart, yMt, yMs, mAppend, mPopAt, mSAdd, isLst, isSet, yRm, isTup, fIndexT, iSq, iEn, iR1, itemsD, gN, gT, gsCons, gsNil, zFor, zBreak, zCont, zRaise, yCall, yCall0, yMake, yCallN, fixM, agsOf, PV.putAll, put1, noRefs, anyP, yYes, fIsi, tyN, isiT, truD, fBits, endsOf, refPos, refsAt, notLoc, okI, okB, okN, eqvI, zForF, fgM, fgS, h3, h8, h] using ih'
    · have ih := ih (acc ||| mask rows (s : Int)) (by simpa [orMask, h] using k)
      have ih' : zForL _ _ E _ [v0, v1, v2, .frz (.int (s : Int)), v4, .own (.set ss), v6, .frz (natD (acc ||| mask rows (s : Int))), .frz (natD (mask rows (s : Int))), v9] := ih
      simpa [zForL, zSeq, zIf, yT, yB, yVar, yC, yU, yNot, yAnd, yOr, yAndV, yOrV, yNotV, yTru, yIf, yCh, yF, yNil, yCons, yLst, yTup, yDNew, conts, fixs, cont, hold, asB, fGt, fLt, fLe, fGe, fEq, fNe, fI0, fI, fIn, fIsN, fNotN, zSet, zRet, zRetN, zPut, zDrop, zAsg, zAug, zAugS, getA, getL, asgn, give, fix, fMod, fFdiv, fAdd, fAddI, fSub, fMul, fNeg, fPow, fShl, fShr, fAnd, fXor, setAt, mutAt, Sl.put, zNext, isRef_eq, rfa, rff, rfo, fLen, fList, fTuple, fMax2, fMin2, fInt1, fSet0, fRev, fSl, ySl, yPart, yNoPart, yMt, yMs, mAppend, mPopAt, mSAdd, isLst, isSet, yRm, isTup, fIndexT, iSq, iEn, iR1, itemsD, gN, gT, gsCons, gsNil, zFor, zBreak, zCont, zRaise, yCall, yCall0, yMake, yCallN, fixM, agsOf, PV.putAll, put1, noRefs, anyP, yYes, fIsi, tyN, isiT, truD, fBits, endsOf, refPos, refsAt, notLoc, okI, okB, okN, eqvI, zForF, fgM, fgS, h3, h8, h, or_nd] using ih'
theorem orMask_bit {rows : List (List Int)} {ss : List Int} {a : Nat} : ∀ (k s acc : Nat), (orMask rows ss s k acc).testBit a = true ↔ (acc.testBit a = true ∨ ∃ j : Nat, s ≤ j ∧ j < s + k ∧ (j : Int) ∉ ss ∧ (j : Int) ∈ rows.getD a [])
  | 0, s, acc => by
    rw [orMask]
    exact ⟨.inl, fun h => h.elim (fun z => z) fun ⟨j, h1, h2, _⟩ => by omega⟩
  | k + 1, s, acc => by
    rw [orMask, orMask_bit k (s + 1)]
    have e : (if (s : Int) ∈ ss then acc else acc ||| mask rows s).testBit a = true ↔ (acc.testBit a = true ∨ ((s : Int) ∉ ss ∧ (s : Int) ∈ rows.getD a [])) := by
      by_cases h : (s : Int) ∈ ss
      · simp [h]
      · rw [if_neg h, Nat.testBit_or, mask_bit]
        simp [h]
    rw [e, or_assoc]
    refine or_congr Iff.rfl ⟨?_, ?_⟩
    · rintro (⟨h1, h2⟩ | ⟨j, h1, h2, h3, h4⟩)
      · exact ⟨s, Nat.le_refl _, by omega, h1, h2⟩
      · exact ⟨j, by omega, by omega, h3, h4⟩
    · rintro ⟨j, h1, h2, h3, h4⟩
      by_cases e : j = s
      · subst e; exact .inl ⟨h3, h4⟩
      · exact .inr ⟨j, by omega, by omega, h3, h4⟩
theorem leave_bit {n : Int} {rows : List (List Int)} (ok : BookOk n rows) {ss : List Int} {a : Nat} : (orMask rows ss 0 n.toNat 0).testBit a = !((rows.getD a []).all fun x => decide (x ∈ ss)) := by
  rcases e : (rows.getD a []).all fun x => decide (x ∈ ss) with _ | _
  · obtain ⟨x, hx, h⟩ := List.all_eq_false.mp e
    simp at h
    refine (orMask_bit n.toNat 0 0).mpr (.inr ?_)
    have hr : 0 ≤ x ∧ x < n := by
      rcases Nat.lt_or_ge a rows.length with z | z
      · have eg : rows.getD a [] = rows[a] := by simp [List.getD_eq_getElem?_getD, z]
        rw [eg] at hx
        have r := ok.row rows[a] (List.getElem_mem z)
        exact ⟨r.lo _ hx, r.hi _ hx⟩
      · have eg : rows.getD a [] = [] := by simp [List.getD_eq_getElem?_getD, z]
        rw [eg] at hx
        cases hx
    have ex : ((x.toNat : Nat) : Int) = x := by omega
    exact ⟨x.toNat, Nat.zero_le _, by omega, by rw [ex]; exact h, by rw [ex]; exact hx⟩
  · refine Bool.eq_false_iff.mpr fun z => ?_
    rcases (orMask_bit n.toNat 0 0).mp z with h | ⟨j, _, _, h3, h4⟩
    · simp at h
    · have := List.all_eq_true.mp e _ h4
      simp at this
      exact h3 this
end Law
namespace Law
open PySem PySem.Spec PyProof.Rows L2 PV
theorem inside_ints {n : Int} {tt : List Int} : ∀ (ds : List D) (i : Nat) (seen ss : List Int), insideFrom n tt i seen ds = .inr ss → ∃ l : List Int, ds = l.map D.int ∧ ss = seen ++ l ∧ (∀ s ∈ l, s ∈ tt)
  | [], i, seen, ss, h => by
    simp only [insideFrom] at h
    cases h
    exact ⟨[], rfl, by simp, fun s h => nomatch h⟩
  | .int s :: r, i, seen, ss, h => by
    simp only [insideFrom] at h
    split at h
    · rename_i c
      obtain ⟨l, h1, h2, h3⟩ := inside_ints r _ _ _ h
      refine ⟨s :: l, by rw [h1]; rfl, by rw [h2]; simp, fun x hx => ?_⟩
      rcases List.mem_cons.mp hx with rfl | hx
      · exact c.2.2.1
      · exact h3 x hx
    · cases h
  | .non :: r, i, seen, ss, h => by simp only [insideFrom] at h; cases h
  | .bl _ :: r, i, seen, ss, h => by simp only [insideFrom] at h; cases h
  | .str _ :: r, i, seen, ss, h => by simp only [insideFrom] at h; cases h
  | .lst _ :: r, i, seen, ss, h => by simp only [insideFrom] at h; cases h
  | .tup _ :: r, i, seen, ss, h => by simp only [insideFrom] at h; cases h
  | .tupU _ :: r, i, seen, ss, h => by simp only [insideFrom] at h; cases h
  | .dic _ _ :: r, i, seen, ss, h => by simp only [insideFrom] at h; cases h
  | .set _ :: r, i, seen, ss, h => by simp only [insideFrom] at h; cases h
  | .obj _ _ _ :: r, i, seen, ss, h => by simp only [insideFrom] at h; cases h
theorem odd_bit {u i : Nat} : Builtin.bitAnd ((u : Int) / 2 ^ i) 1 = if u.testBit i = true then 1 else 0 := by
  rw [bitAnd_m1]
  have e : ((u : Int) / 2 ^ i) % 2 = ((u / 2 ^ i % 2 : Nat) : Int) := by simp
  rw [e, Nat.testBit_eq_decide_div_mod_eq]
  by_cases k : u / 2 ^ i % 2 = 1
  · simp [k]
  · have : u / 2 ^ i % 2 = 0 := by omega
    simp [this]
theorem shr_nd (x y : Nat) {q : R → Prop} : fShr (natD x) (natD y) q = q (.dat (.int ((x : Int) / 2 ^ y))) := by
  have e : fShr (natD x) (natD y) q = (0 ≤ (y : Int) ∧ q (.dat (.int ((x : Int) / 2 ^ (y : Int).toNat)))) := rfl
  rw [e]
  simp
theorem and1 {x : Int} {q : R → Prop} : fAnd (.int x) (.int 1) q = q (.dat (.int (Builtin.bitAnd x 1))) := rfl
theorem leave_loop {E : PEnds} {n : Int} {rows : List (List Int)} {tt ss : List Int} {ds : List D} (ok : BookOk n rows) {v0 v1 v5 v8 v9 : Sl} : ∀ (l : List Int) (i : Nat) (s3 s6 : Sl), isRefS s3 = false → isRefS s6 = false → (∀ s ∈ l, s ∈ tt) →
    (leavesFrom rows tt ss i l = none → ∀ ρ, E.nx ρ) → (∀ j, leavesFrom rows tt ss i l = some j → ∀ ρ, E.rt (.dat (.int ((ds.length + j : Nat) : Int))) ρ) →
    zForL (gT 2 (gsCons (gN 6) (gsCons (gN 3) gsNil)))
    (zIf (yTru (yB fAnd (yB fShr (yVar 7) (yB fIxA (yVar 4) (yVar 3))) (yC (.int 1))))
    (zRet (yB fAdd (yF fLen (yCons (yVar 2) yNil)) (yVar 6))) zNext) E (enumFrom i (l.map D.int)) [v0, v1, .frz (.tup ds), s3, .own (ownD tt), v5, s6, .frz (natD (orMask rows ss 0 n.toNat 0)), v8, v9]
  | [], i, s3, s6, h3, h6, hl, k1, k2 => k1 rfl _
  | s :: l, i, s3, s6, h3, h6, hl, k1, k2 => by
    have hs := hl s List.mem_cons_self
    have ih := leave_loop (E := E) (tt := tt) (ss := ss) (ds := ds) ok (v0 := v0) (v1 := v1) (v5 := v5) (v8 := v8) (v9 := v9) l (i + 1) (.frz (.int s)) (.frz (natD i)) rfl rfl (fun x hx => hl x (List.mem_cons_of_mem _ hx))
    have lb := leave_bit ok (ss := ss) (a := tt.idxOf s)
    simp only [leavesFrom] at k1 k2
    rw [List.map_cons, enumFrom]
    cases c : (rows.getD (tt.idxOf s) []).all fun x => decide (x ∈ ss) with
    | true =>
      rw [c] at lb k1 k2
      have o : Builtin.bitAnd ((orMask rows ss 0 n.toNat 0 : Int) / 2 ^ tt.idxOf s) 1 = 0 := by rw [odd_bit, lb]; rfl
      have ih := ih (by simpa using k1) (by simpa using k2)
      have ih' : zForL _ _ E _ [v0, v1, .frz (.tup ds), .frz (.int s), .own (ownD tt), v5, .frz (.int (i : Int)), .frz (natD (orMask rows ss 0 n.toNat 0)), v8, v9] := ih
      simpa [zForL, zSeq, zIf, yT, yB, yVar, yC, yU, yNot, yAnd, yOr, yAndV, yOrV, yNotV, yTru, yIf, yCh, yF, yNil, yCons, yLst, yTup, yDNew, conts, fixs, cont, hold, asB, fGt, fLt, fLe, fGe, fEq, fNe, fI0, fI, fIn, fIsN, fNotN, zSet, zRet, zRetN, zPut, zDrop, zAsg, zAug, zAugS, getA, getL, asgn, give, fix, fMod, fFdiv, fAdd, fAddI, fSub, fMul, fNeg, fPow, fShl, fOr, fXor, setAt, mutAt, Sl.put, zNext, isRef_eq, rfa, rff, rfo, fLen, fList, fTuple, fMax2, fMin2, fInt1, fSet0, fRev, fSl, ySl, yPart, yNoPart, yMt, yMs, mAppend, mPopAt, mSAdd, isLst, isSet, yRm, isTup, fIndexT, iSq, iEn, iR1, itemsD, gN, gT, gsCons, gsNil, zFor, zBreak, zCont, zRaise, yCall, yCall0, yMake, yCallN, fixM, agsOf, PV.putAll, put1, noRefs, anyP, yYes, fIsi, tyN, isiT, truD, fBits, endsOf, refPos, refsAt, notLoc, okI, okB, okN, eqvI, zForF, fgM, fgS, h3, h6, ix_own hs, shr_nd, and1, o] using ih'
    | false =>
      rw [c] at lb k2
      have o : Builtin.bitAnd ((orMask rows ss 0 n.toNat 0 : Int) / 2 ^ tt.idxOf s) 1 = 1 := by rw [odd_bit, lb]; rfl
      have := k2 i (by simp)
      have k3 : ∀ ρ, E.rt (.dat (.int ((ds.length : Int) + (i : Int)))) ρ := fun ρ => by
        have := this ρ
        rwa [show ((ds.length + i : Nat) : Int) = (ds.length : Int) + (i : Int) by omega] at this
      simpa [zForL, zSeq, zIf, yT, yB, yVar, yC, yU, yNot, yAnd, yOr, yAndV, yOrV, yNotV, yTru, yIf, yCh, yF, yNil, yCons, yLst, yTup, yDNew, conts, fixs, cont, hold, asB, fGt, fLt, fLe, fGe, fEq, fNe, fI0, fI, fIn, fIsN, fNotN, zSet, zRet, zRetN, zPut, zDrop, zAsg, zAug, zAugS, getA, getL, asgn, give, fix, fMod, fFdiv, fAdd, fAddI, fSub, fMul, fNeg, fPow, fShl, fOr, fXor, setAt, mutAt, Sl.put, zNext, isRef_eq, rfa, rff, rfo, fLen, fList, fTuple, fMax2, fMin2, fInt1, fSet0, fRev, fSl, ySl, yPart, yNoPart, yMt, yMs, mAppend, mPopAt, mSAdd, isLst, isSet, yRm, isTup, fIndexT, iSq, iEn, iR1, itemsD, gN, gT, gsCons, gsNil, zFor, zBreak, zCont, zRaise, yCall, yCall0, yMake, yCallN, fixM, agsOf, PV.putAll, put1, noRefs, anyP, yYes, fIsi, tyN, isiT, truD, fBits, endsOf, refPos, refsAt, notLoc, okI, okB, okN, eqvI, zForF, fgM, fgS, h3, h6, ix_own hs, shr_nd, and1, o] using k3 _
theorem users_range {n : Int} {rows : List (List Int)} : (usersOf n rows).map natD = (List.range' 0 n.toNat).map fun j : Nat => natD (mask rows (j : Int)) := by
  unfold usersOf
  rw [List.map_map, List.range_eq_range']
  rfl
theorem pure_tight_fault : ∀ as q e, sp_tight_fault as q e → t_tight_fault (endsOf (refPos 0 as) q e) (entry 10 as) := by
  rintro as q e ⟨n, rows, tt, d, rfl, ok, tk, ⟨⟨ty, hty⟩, hp⟩, hl, k⟩
  show t_tight_fault _ [.frz _, .frz _, .frz _, .any, .any, .any, .any, .any, .any, .any]
  cases d with
  | tup ds =>
    have hp := hp ds rfl
    have hl := hl ds rfl
    have tl := tk.len
    have rl := ok.len
    simp [t_tight_fault, zSeq, zIf, yT, yB, yVar, yC, yU, yNot, yAnd, yOr, yAndV, yOrV, yNotV, yTru, yIf, yCh, yF, yNil, yCons, yLst, yTup, yDNew, conts, fixs, cont, hold, asB, fGt, fLt, fLe, fGe, fEq, fNe, fI0, fI, fIn, fIsN, fNotN, zSet, zRet, zRetN, zPut, zDrop, zAsg, zAug, zAugS, getA, getL, asgn, give, fix, fMod, fFdiv, fAdd, fAddI, fSub, fMul, fNeg, fPow, fShl, fShr, fAnd, fOr, fXor, setAt, mutAt, Sl.put, zNext, isRef_eq, rfa, rff, rfo, fLen, fList, fTuple, fMax2, fMin2, fInt1, fSet0, fRev, fSl, ySl, yPart, yNoPart, yMt, yMs, mAppend, mPopAt, mSAdd, isLst, isSet, yRm, isTup, fIndexT, iSq, iEn, iR1, itemsD, gN, gT, gsCons, gsNil, zFor, zBreak, zCont, zRaise, yCall, yCall0, yMake, yCallN, fixM, agsOf, PV.putAll, put1, noRefs, anyP, yYes, fIsi, tyN, isiT, truD, fBits, endsOf, refPos, refsAt, notLoc, okI, okB, okN, eqvI, zForF, fgM, fgS, yDc, ttD, enumD_from]
    refine dc_owners tt [] (by simpa using tk.nd) (by simp; omega) ?_
    simp only [List.nil_append]
    simp [zSeq, zIf, yT, yB, yVar, yC, yU, yNot, yAnd, yOr, yAndV, yOrV, yNotV, yTru, yIf, yCh, yF, yNil, yCons, yLst, yTup, yDNew, conts, fixs, cont, hold, asB, fGt, fLt, fLe, fGe, fEq, fNe, fI0, fI, fIn, fIsN, fNotN, zSet, zRet, zRetN, zPut, zDrop, zAsg, zAug, zAugS, getA, getL, asgn, give, fix, fMod, fFdiv, fAdd, fAddI, fSub, fMul, fNeg, fPow, fShl, fShr, fAnd, fOr, fXor, setAt, mutAt, Sl.put, zNext, isRef_eq, rfa, rff, rfo, fLen, fList, fTuple, fMax2, fMin2, fInt1, fSet0, fRev, fSl, ySl, yPart, yNoPart, yMt, yMs, mAppend, mPopAt, mSAdd, isLst, isSet, yRm, isTup, fIndexT, iSq, iEn, iR1, itemsD, gN, gT, gsCons, gsNil, zFor, zBreak, zCont, zRaise, yCall, yCall0, yMake, yCallN, fixM, agsOf, PV.putAll, put1, noRefs, anyP, yYes, fIsi, tyN, isiT, truD, fBits, endsOf, refPos, refsAt, notLoc, okI, okB, okN, eqvI, zForF, fgM, fgS, enumD_from]
    refine ins_loop ds 0 [] .any .any rfl rfl hp (by simp; omega) (fun ss h t3 t6 g3 g6 => ?_) (fun j h ρ => ?_)
    · obtain ⟨l, rfl, hss, hm⟩ := inside_ints ds 0 [] ss h
      rw [List.nil_append] at hss
      subst hss
      simp only [tightFault, h] at k
      simp [zSeq, zIf, yT, yB, yVar, yC, yU, yNot, yAnd, yOr, yAndV, yOrV, yNotV, yTru, yIf, yCh, yF, yNil, yCons, yLst, yTup, yDNew, conts, fixs, cont, hold, asB, fGt, fLt, fLe, fGe, fEq, fNe, fI0, fI, fIn, fIsN, fNotN, zSet, zRet, zRetN, zPut, zDrop, zAsg, zAug, zAugS, getA, getL, asgn, give, fix, fMod, fFdiv, fAdd, fAddI, fSub, fMul, fNeg, fPow, fShl, fShr, fAnd, fOr, fXor, setAt, mutAt, Sl.put, zNext, isRef_eq, rfa, rff, rfo, fLen, fList, fTuple, fMax2, fMin2, fInt1, fSet0, fRev, fSl, ySl, yPart, yNoPart, yMt, yMs, mAppend, mPopAt, mSAdd, isLst, isSet, yRm, isTup, fIndexT, iSq, iEn, iR1, itemsD, gN, gT, gsCons, gsNil, zFor, zBreak, zCont, zRaise, yCall, yCall0, yMake, yCallN, fixM, agsOf, PV.putAll, put1, noRefs, anyP, yYes, fIsi, tyN, isiT, truD, fBits, endsOf, refPos, refsAt, notLoc, okI, okB, okN, eqvI, zForF, fgM, fgS]
      refine meth_book uU rfl ⟨n, rows, rfl, ?_⟩
      simp [zSeq, zIf, yT, yB, yVar, yC, yU, yNot, yAnd, yOr, yAndV, yOrV, yNotV, yTru, yIf, yCh, yF, yNil, yCons, yLst, yTup, yDNew, conts, fixs, cont, hold, asB, fGt, fLt, fLe, fGe, fEq, fNe, fI0, fI, fIn, fIsN, fNotN, zSet, zRet, zRetN, zPut, zDrop, zAsg, zAug, zAugS, getA, getL, asgn, give, fix, fMod, fFdiv, fAdd, fAddI, fSub, fMul, fNeg, fPow, fShl, fShr, fAnd, fOr, fXor, setAt, mutAt, Sl.put, zNext, isRef_eq, rfa, rff, rfo, fLen, fList, fTuple, fMax2, fMin2, fInt1, fSet0, fRev, fSl, ySl, yPart, yNoPart, yMt, yMs, mAppend, mPopAt, mSAdd, isLst, isSet, yRm, isTup, fIndexT, iSq, iEn, iR1, itemsD, gN, gT, gsCons, gsNil, zFor, zBreak, zCont, zRaise, yCall, yCall0, yMake, yCallN, fixM, agsOf, PV.putAll, put1, noRefs, anyP, yYes, fIsi, tyN, isiT, truD, fBits, endsOf, refPos, refsAt, notLoc, okI, okB, okN, eqvI, zForF, fgM, fgS, enumD_from]
      rw [show (usersOf n rows).map natD = _ from users_range]
      refine or_loop n.toNat 0 0 t3 .any g3 rfl (fun w3 w8 e3 e8 => ?_)
      simp [zSeq, zIf, yT, yB, yVar, yC, yU, yNot, yAnd, yOr, yAndV, yOrV, yNotV, yTru, yIf, yCh, yF, yNil, yCons, yLst, yTup, yDNew, conts, fixs, cont, hold, asB, fGt, fLt, fLe, fGe, fEq, fNe, fI0, fI, fIn, fIsN, fNotN, zSet, zRet, zRetN, zPut, zDrop, zAsg, zAug, zAugS, getA, getL, asgn, give, fix, fMod, fFdiv, fAdd, fAddI, fSub, fMul, fNeg, fPow, fShl, fShr, fAnd, fOr, fXor, setAt, mutAt, Sl.put, zNext, isRef_eq, rfa, rff, rfo, fLen, fList, fTuple, fMax2, fMin2, fInt1, fSet0, fRev, fSl, ySl, yPart, yNoPart, yMt, yMs, mAppend, mPopAt, mSAdd, isLst, isSet, yRm, isTup, fIndexT, iSq, iEn, iR1, itemsD, gN, gT, gsCons, gsNil, zFor, zBreak, zCont, zRaise, yCall, yCall0, yMake, yCallN, fixM, agsOf, PV.putAll, put1, noRefs, anyP, yYes, fIsi, tyN, isiT, truD, fBits, endsOf, refPos, refsAt, notLoc, okI, okB, okN, eqvI, zForF, fgM, fgS, enumD_from]
      refine leave_loop (ss := ss) ok ss 0 w3 t6 e3 g6 hm (fun z ρ => ?_) (fun j z ρ => ?_)
      · rw [z] at k
        simpa [zSeq, zIf, yT, yB, yVar, yC, yU, yNot, yAnd, yOr, yAndV, yOrV, yNotV, yTru, yIf, yCh, yF, yNil, yCons, yLst, yTup, yDNew, conts, fixs, cont, hold, asB, fGt, fLt, fLe, fGe, fEq, fNe, fI0, fI, fIn, fIsN, fNotN, zSet, zRet, zRetN, zPut, zDrop, zAsg, zAug, zAugS, getA, getL, asgn, give, fix, fMod, fFdiv, fAdd, fAddI, fSub, fMul, fNeg, fPow, fShl, fShr, fAnd, fOr, fXor, setAt, mutAt, Sl.put, zNext, isRef_eq, rfa, rff, rfo, fLen, fList, fTuple, fMax2, fMin2, fInt1, fSet0, fRev, fSl, ySl, yPart, yNoPart, yMt, yMs, mAppend, mPopAt, mSAdd, isLst, isSet, yRm, isTup, fIndexT, iSq, iEn, iR1, itemsD, gN, gT, gsCons, gsNil, zFor, zBreak, zCont, zRaise, yCall, yCall0, yMake, yCallN, fixM, agsOf, PV.putAll, put1, noRefs, anyP, yYes, fIsi, tyN, isiT, truD, fBits, endsOf, refPos, refsAt, notLoc, okI, okB, okN, eqvI, zForF, fgM, fgS, optD] using k
      · rw [z] at k
        simpa [zSeq, zIf, yT, yB, yVar, yC, yU, yNot, yAnd, yOr, yAndV, yOrV, yNotV, yTru, yIf, yCh, yF, yNil, yCons, yLst, yTup, yDNew, conts, fixs, cont, hold, asB, fGt, fLt, fLe, fGe, fEq, fNe, fI0, fI, fIn, fIsN, fNotN, zSet, zRet, zRetN, zPut, zDrop, zAsg, zAug, zAugS, getA, getL, asgn, give, fix, fMod, fFdiv, fAdd, fAddI, fSub, fMul, fNeg, fPow, fShl, fShr, fAnd, fOr, fXor, setAt, mutAt, Sl.put, zNext, isRef_eq, rfa, rff, rfo, fLen, fList, fTuple, fMax2, fMin2, fInt1, fSet0, fRev, fSl, ySl, yPart, yNoPart, yMt, yMs, mAppend, mPopAt, mSAdd, isLst, isSet, yRm, isTup, fIndexT, iSq, iEn, iR1, itemsD, gN, gT, gsCons, gsNil, zFor, zBreak, zCont, zRaise, yCall, yCall0, yMake, yCallN, fixM, agsOf, PV.putAll, put1, noRefs, anyP, yYes, fIsi, tyN, isiT, truD, fBits, endsOf, refPos, refsAt, notLoc, okI, okB, okN, eqvI, zForF, fgM, fgS, optD] using k
    · simp only [tightFault, h] at k
      simpa [zSeq, zIf, yT, yB, yVar, yC, yU, yNot, yAnd, yOr, yAndV, yOrV, yNotV, yTru, yIf, yCh, yF, yNil, yCons, yLst, yTup, yDNew, conts, fixs, cont, hold, asB, fGt, fLt, fLe, fGe, fEq, fNe, fI0, fI, fIn, fIsN, fNotN, zSet, zRet, zRetN, zPut, zDrop, zAsg, zAug, zAugS, getA, getL, asgn, give, fix, fMod, fFdiv, fAdd, fAddI, fSub, fMul, fNeg, fPow, fShl, fShr, fAnd, fOr, fXor, setAt, mutAt, Sl.put, zNext, isRef_eq, rfa, rff, rfo, fLen, fList, fTuple, fMax2, fMin2, fInt1, fSet0, fRev, fSl, ySl, yPart, yNoPart, yMt, yMs, mAppend, mPopAt, mSAdd, isLst, isSet, yRm, isTup, fIndexT, iSq, iEn, iR1, itemsD, gN, gT, gsCons, gsNil, zFor, zBreak, zCont, zRaise, yCall, yCall0, yMake, yCallN, fixM, agsOf, PV.putAll, put1, noRefs, anyP, yYes, fIsi, tyN, isiT, truD, fBits, endsOf, refPos, refsAt, notLoc, okI, okB, okN, eqvI, zForF, fgM, fgS, optD, natD] using k
  | _ => cases hty <;> simp only [tightFault] at k <;> simpa [t_tight_fault, zSeq, zIf, yT, yB, yVar, yC, yU, yNot, yAnd, yOr, yAndV, yOrV, yNotV, yTru, yIf, yCh, yF, yNil, yCons, yLst, yTup, yDNew, conts, fixs, cont, hold, asB, fGt, fLt, fLe, fGe, fEq, fNe, fI0, fI, fIn, fIsN, fNotN, zSet, zRet, zRetN, zPut, zDrop, zAsg, zAug, zAugS, getA, getL, asgn, give, fix, fMod, fFdiv, fAdd, fAddI, fSub, fMul, fNeg, fPow, fShl, fShr, fAnd, fOr, fXor, setAt, mutAt, Sl.put, zNext, isRef_eq, rfa, rff, rfo, fLen, fList, fTuple, fMax2, fMin2, fInt1, fSet0, fRev, fSl, ySl, yPart, yNoPart, yMt, yMs, mAppend, mPopAt, mSAdd, isLst, isSet, yRm, isTup, fIndexT, iSq, iEn, iR1, itemsD, gN, gT, gsCons, gsNil, zFor, zBreak, zCont, zRaise, yCall, yCall0, yMake, yCallN, fixM, agsOf, PV.putAll, put1, noRefs, anyP, yYes, fIsi, tyN, isiT, truD, fBits, endsOf, refPos, refsAt, notLoc, okI, okB, okN, eqvI, zForF, fgM, fgS, optD] using k
end Law
namespace Law
open PySem PySem.Spec PyProof.Rows L2 PV
theorem pure_check_tight : ∀ as q e, sp_check_tight as q e → t_check_tight (endsOf (refPos 0 as) q e) (entry 4 as) := by
  rintro as q e ⟨n, rows, d, f, rfl, ok, pt, pf, hl, k⟩
  show t_check_tight _ [.frz _, .frz _, .frz _, .any]
  simp [t_check_tight, zSeq, zIf, yT, yB, yVar, yC, yU, yNot, yAnd, yOr, yAndV, yOrV, yNotV, yTru, yIf, yCh, yF, yNil, yCons, yLst, yTup, yDNew, conts, fixs, cont, hold, asB, fGt, fLt, fLe, fGe, fEq, fNe, fI0, fI, fIn, fIsN, fNotN, zSet, zRet, zRetN, zPut, zDrop, zAsg, zAug, zAugS, getA, getL, asgn, give, fix, fMod, fFdiv, fAdd, fAddI, fSub, fMul, fNeg, fPow, fShl, fShr, fAnd, fOr, fXor, setAt, mutAt, Sl.put, zNext, isRef_eq, rfa, rff, rfo, fLen, fList, fTuple, fMax2, fMin2, fInt1, fSet0, fRev, fSl, ySl, yPart, yNoPart, yMt, yMs, mAppend, mPopAt, mSAdd, isLst, isSet, yRm, isTup, fIndexT, iSq, iEn, iR1, itemsD, gN, gT, gsCons, gsNil, zFor, zBreak, zCont, zRaise, yCall, yCall0, yMake, yCallN, fixM, agsOf, PV.putAll, put1, noRefs, anyP, yYes, fIsi, tyN, isiT, truD, fBits, endsOf, refPos, refsAt, notLoc, okI, okB, okN, eqvI, zForF, fgM, fgS]
  refine ⟨n, rows, d, rfl, ok, pt, ?_⟩
  unfold ofTt at k
  cases h : ttFault n rows d with
  | some i =>
    rw [h] at k
    simpa [orFault, zSeq, zIf, yT, yB, yVar, yC, yU, yNot, yAnd, yOr, yAndV, yOrV, yNotV, yTru, yIf, yCh, yF, yNil, yCons, yLst, yTup, yDNew, conts, fixs, cont, hold, asB, fGt, fLt, fLe, fGe, fEq, fNe, fI0, fI, fIn, fIsN, fNotN, zSet, zRet, zRetN, zPut, zDrop, zAsg, zAug, zAugS, getA, getL, asgn, give, fix, fMod, fFdiv, fAdd, fAddI, fSub, fMul, fNeg, fPow, fShl, fShr, fAnd, fOr, fXor, setAt, mutAt, Sl.put, zNext, isRef_eq, rfa, rff, rfo, fLen, fList, fTuple, fMax2, fMin2, fInt1, fSet0, fRev, fSl, ySl, yPart, yNoPart, yMt, yMs, mAppend, mPopAt, mSAdd, isLst, isSet, yRm, isTup, fIndexT, iSq, iEn, iR1, itemsD, gN, gT, gsCons, gsNil, zFor, zBreak, zCont, zRaise, yCall, yCall0, yMake, yCallN, fixM, agsOf, PV.putAll, put1, noRefs, anyP, yYes, fIsi, tyN, isiT, truD, fBits, endsOf, refPos, refsAt, notLoc, okI, okB, okN, eqvI, zForF, fgM, fgS] using k
  | none =>
    rw [h] at k
    obtain ⟨tt, rfl, tk, k⟩ := k
    simp [orFault, zSeq, zIf, yT, yB, yVar, yC, yU, yNot, yAnd, yOr, yAndV, yOrV, yNotV, yTru, yIf, yCh, yF, yNil, yCons, yLst, yTup, yDNew, conts, fixs, cont, hold, asB, fGt, fLt, fLe, fGe, fEq, fNe, fI0, fI, fIn, fIsN, fNotN, zSet, zRet, zRetN, zPut, zDrop, zAsg, zAug, zAugS, getA, getL, asgn, give, fix, fMod, fFdiv, fAdd, fAddI, fSub, fMul, fNeg, fPow, fShl, fShr, fAnd, fOr, fXor, setAt, mutAt, Sl.put, zNext, isRef_eq, rfa, rff, rfo, fLen, fList, fTuple, fMax2, fMin2, fInt1, fSet0, fRev, fSl, ySl, yPart, yNoPart, yMt, yMs, mAppend, mPopAt, mSAdd, isLst, isSet, yRm, isTup, fIndexT, iSq, iEn, iR1, itemsD, gN, gT, gsCons, gsNil, zFor, zBreak, zCont, zRaise, yCall, yCall0, yMake, yCallN, fixM, agsOf, PV.putAll, put1, noRefs, anyP, yYes, fIsi, tyN, isiT, truD, fBits, endsOf, refPos, refsAt, notLoc, okI, okB, okN, eqvI, zForF, fgM, fgS]
    refine ⟨n, rows, tt, f, rfl, ok, tk, pf, hl, ?_⟩
    cases g : tightFault n rows tt f with
    | some i =>
      rw [g] at k
      simpa [zSeq, zIf, yT, yB, yVar, yC, yU, yNot, yAnd, yOr, yAndV, yOrV, yNotV, yTru, yIf, yCh, yF, yNil, yCons, yLst, yTup, yDNew, conts, fixs, cont, hold, asB, fGt, fLt, fLe, fGe, fEq, fNe, fI0, fI, fIn, fIsN, fNotN, zSet, zRet, zRetN, zPut, zDrop, zAsg, zAug, zAugS, getA, getL, asgn, give, fix, fMod, fFdiv, fAdd, fAddI, fSub, fMul, fNeg, fPow, fShl, fShr, fAnd, fOr, fXor, setAt, mutAt, Sl.put, zNext, isRef_eq, rfa, rff, rfo, fLen, fList, fTuple, fMax2, fMin2, fInt1, fSet0, fRev, fSl, ySl, yPart, yNoPart, yMt, yMs, mAppend, mPopAt, mSAdd, isLst, isSet, yRm, isTup, fIndexT, iSq, iEn, iR1, itemsD, gN, gT, gsCons, gsNil, zFor, zBreak, zCont, zRaise, yCall, yCall0, yMake, yCallN, fixM, agsOf, PV.putAll, put1, noRefs, anyP, yYes, fIsi, tyN, isiT, truD, fBits, endsOf, refPos, refsAt, notLoc, okI, okB, okN, eqvI, zForF, fgM, fgS, optD, orFault] using k
    | none =>
      rw [g] at k
      simpa [zSeq, zIf, yT, yB, yVar, yC, yU, yNot, yAnd, yOr, yAndV, yOrV, yNotV, yTru, yIf, yCh, yF, yNil, yCons, yLst, yTup, yDNew, conts, fixs, cont, hold, asB, fGt, fLt, fLe, fGe, fEq, fNe, fI0, fI, fIn, fIsN, fNotN, zSet, zRet, zRetN, zPut, zDrop, zAsg, zAug, zAugS, getA, getL, asgn, give, fix, fMod, fFdiv, fAdd, fAddI, fSub, fMul, fNeg, fPow, fShl, fShr, fAnd, fOr, fXor, setAt, mutAt, Sl.put, zNext, isRef_eq, rfa, rff, rfo, fLen, fList, fTuple, fMax2, fMin2, fInt1, fSet0, fRev, fSl, ySl, yPart, yNoPart, yMt, yMs, mAppend, mPopAt, mSAdd, isLst, isSet, yRm, isTup, fIndexT, iSq, iEn, iR1, itemsD, gN, gT, gsCons, gsNil, zFor, zBreak, zCont, zRaise, yCall, yCall0, yMake, yCallN, fixM, agsOf, PV.putAll, put1, noRefs, anyP, yYes, fIsi, tyN, isiT, truD, fBits, endsOf, refPos, refsAt, notLoc, okI, okB, okN, eqvI, zForF, fgM, fgS, optD, orFault] using k
end Law
namespace Law
open PySem PySem.Spec PyProof.Rows L2 PV
/-! ### lists of ints compared -/
theorem pys_ints : ∀ l : List Int, D.pys (l.map D.int) = l.map PyData.int
  | [] => by simp only [List.map_nil, D.pys]
  | a :: l => by rw [List.map_cons, D.pys, pys_ints l, List.map_cons]; simp only [D.py]
theorem canLay_ints : ∀ l : List Int, PyData.canLayAll0 (l.map PyData.int) = true
  | [] => by simp only [List.map_nil, PyData.canLayAll0]
  | a :: l => by rw [List.map_cons, PyData.canLayAll0, canLay_ints l]; simp only [PyData.canLay0, Bool.and_self]
theorem depth_ints : ∀ l : List Int, PyData.depthAll (l.map PyData.int) = 0
  | [] => by simp only [List.map_nil, PyData.depthAll]
  | a :: l => by rw [List.map_cons, PyData.depthAll, depth_ints l]; simp only [PyData.depth, Nat.max_self]
theorem okL (l : List Int) : (D.lst (l.map D.int)).ok := by
  show SeqAt.shaped (D.lst (l.map D.int)).py = true
  unfold SeqAt.shaped
  simp only [D.py, pys_ints, PyData.canLay0, PyData.depth, canLay_ints, depth_ints]
  decide
theorem okTu (l : List Int) : (D.tup (l.map D.int)).ok := by
  show SeqAt.shaped (D.tup (l.map D.int)).py = true
  unfold SeqAt.shaped
  simp only [D.py, pys_ints, PyData.canLay0, PyData.depth, canLay_ints, depth_ints]
  decide
theorem eqvA : ∀ l m : List Int, PyData.eqvAll (l.map PyData.int) (m.map PyData.int) = decide (l = m)
  | [], [] => by simp [PyData.eqvAll]
  | [], b :: m => by simp [PyData.eqvAll]
  | a :: l, [] => by simp [PyData.eqvAll]
  | a :: l, b :: m => by
    rw [List.map_cons, List.map_cons, PyData.eqvAll, eqvA l m]
    simp only [PyData.eqv]
    by_cases h : a = b <;> simp [h]
theorem eqvL (l m : List Int) : (D.lst (l.map D.int)).eqv (.lst (m.map D.int)) = decide (l = m) := by
  show PyData.eqv (D.lst (l.map D.int)).py (D.lst (m.map D.int)).py = _
  simp only [D.py, pys_ints, PyData.eqv]
  exact eqvA l m
/-- xs != ys, xs == ys, x in xs -/
theorem neL {l m : List Int} {q : R → Prop} : fNe (.lst (l.map D.int)) (.lst (m.map D.int)) q = q (.dat (.bl (!decide (l = m)))) := by
  have e : fNe (.lst (l.map D.int)) (.lst (m.map D.int)) q = ((D.lst (l.map D.int)).ok ∧ (D.lst (m.map D.int)).ok ∧ q (.dat (.bl (!(D.lst (l.map D.int)).eqv (.lst (m.map D.int)))))) := rfl
  rw [e, eqvL]
  exact propext ⟨fun h => h.2.2, fun h => ⟨okL l, okL m, h⟩⟩
theorem neL0 {l : List Int} {q : R → Prop} : fNe (.lst (l.map D.int)) (.lst []) q = q (.dat (.bl (!decide (l = [])))) := neL (m := [])
theorem any_ints {x : Int} : ∀ l : List Int, ((l.map D.int).any fun z => z.eqv (.int x)) = decide (x ∈ l)
  | [] => rfl
  | a :: l => by
    rw [List.map_cons, List.any_cons, any_ints l, eqvI]
    by_cases h : a = x
    · simp [h]
    · have h' : ¬ x = a := fun z => h z.symm
      simp [h, h']
theorem inL {neg : Bool} {x : Int} {l : List Int} {q : R → Prop} : fIn neg (.int x) (.lst (l.map D.int)) q = q (.dat (.bl (if neg then !decide (x ∈ l) else decide (x ∈ l)))) := by
  have e : fIn neg (.int x) (.lst (l.map D.int)) q = ((D.int x).ok ∧ (D.lst (l.map D.int)).ok ∧ q (.dat (.bl (if neg then !(l.map D.int).any (fun z => z.eqv (.int x)) else (l.map D.int).any fun z => z.eqv (.int x))))) := rfl
  rw [e, any_ints]
  exact propext ⟨fun h => h.2.2, fun h => ⟨rfl, okL l, h⟩⟩
theorem inT {neg : Bool} {x : Int} {l : List Int} {q : R → Prop} : fIn neg (.int x) (.tup (l.map D.int)) q = q (.dat (.bl (if neg then !decide (x ∈ l) else decide (x ∈ l)))) := by
  have e : fIn neg (.int x) (.tup (l.map D.int)) q = ((D.int x).ok ∧ (D.tup (l.map D.int)).ok ∧ q (.dat (.bl (if neg then !(l.map D.int).any (fun z => z.eqv (.int x)) else (l.map D.int).any fun z => z.eqv (.int x))))) := rfl
  rw [e, any_ints]
  exact propext ⟨fun h => h.2.2, fun h => ⟨rfl, okTu l, h⟩⟩
end Law
/-! what the ways are: shortest ways to the slots -/
namespace Law
open PySem PySem.Spec PyProof.Rows L2 PV
theorem pw_all {α : Type} {R : α → α → Prop} : ∀ {l : List α}, (∀ a ∈ l, ∀ b ∈ l, R a b) → l.Pairwise R
  | [], _ => .nil
  | a :: l, h => List.pairwise_cons.mpr ⟨fun b hb => h a List.mem_cons_self b (List.mem_cons_of_mem _ hb), pw_all fun x hx y hy => h x (List.mem_cons_of_mem _ hx) y (List.mem_cons_of_mem _ hy)⟩
section
variable {rows : List (List Int)} {tt : List Int} {wt0 : Nat} {slots : List Int}
/-- a way of d steps leads from s to one of the slots -/
def RR (rows : List (List Int)) (tt : List Int) (wt0 : Nat) (slots : List Int) : Nat → Int → Prop
  | 0, s => s ∈ slots
  | d + 1, s => ∃ a, wt0.testBit a = true ∧ tt.getD a 0 = s ∧ ∃ t ∈ rows.getD a [], RR rows tt wt0 slots d t
def MinD (rows : List (List Int)) (tt : List Int) (wt0 : Nat) (slots : List Int) (d : Nat) (s : Int) : Prop := RR rows tt wt0 slots d s ∧ ∀ e, e < d → ¬ RR rows tt wt0 slots e s
theorem MinD.uniq {d e : Nat} {s : Int} (h : MinD rows tt wt0 slots d s) (k : MinD rows tt wt0 slots e s) : d = e := by
  rcases Nat.lt_trichotomy d e with z | z | z
  · exact absurd h.1 (k.2 d z)
  · exact z
  · exact absurd k.1 (h.2 e z)
theorem RR.min : ∀ {d : Nat} {s : Int}, RR rows tt wt0 slots d s → ∃ e, e ≤ d ∧ MinD rows tt wt0 slots e s := by
  intro d
  induction d using Nat.strongRecOn with
  | _ d ih =>
    intro s h
    by_cases k : ∃ e, e < d ∧ RR rows tt wt0 slots e s
    · obtain ⟨e, h1, h2⟩ := k
      obtain ⟨e', h3, h4⟩ := ih e h1 h2
      exact ⟨e', by omega, h4⟩
    · exact ⟨d, Nat.le_refl _, h, fun e he hr => k ⟨e, he, hr⟩⟩
/-- the step before -/
theorem MinD.back {d : Nat} {s : Int} (h : MinD rows tt wt0 slots (d + 1) s) : ∃ t, MinD rows tt wt0 slots d t := by
  obtain ⟨⟨a, h1, h2, t, h3, h4⟩, h5⟩ := h
  exact ⟨t, h4, fun e he hr => h5 (e + 1) (by omega) ⟨a, h1, h2, t, h3, hr⟩⟩
theorem keys_put_new {w : Ways} {k : Int} {v : Option (Nat × Int)} (h : k ∉ keysOf w) : wput w k v = w ++ [(k, v)] := by
  unfold wput
  rw [if_neg]
  intro z
  obtain ⟨p, hp, e⟩ := List.any_eq_true.mp z
  exact h (List.mem_map.mpr ⟨p, hp, by simpa using e⟩)
theorem inner_new {slot : Int} : ∀ (l : List Nat) (w : Ways) (f : List Int), (∀ a ∈ l, tt.getD a 0 ∉ keysOf w) → (l.map fun a => tt.getD a 0).Nodup → inner tt slot l w f = (w ++ l.map fun a => (tt.getD a 0, some (a, slot)), f ++ l.map fun a => tt.getD a 0)
  | [], w, f, _, _ => by simp [inner]
  | a :: l, w, f, h, nd => by
    rw [List.map_cons] at nd
    obtain ⟨n1, n2⟩ := List.nodup_cons.mp nd
    have hk := h a List.mem_cons_self
    rw [inner, keys_put_new hk, inner_new l _ _ (fun b hb z => ?_) n2]
    · simp
    · unfold keysOf at z
      rw [List.map_append, List.mem_append] at z
      rcases z with z | z
      · exact h b (List.mem_cons_of_mem _ hb) z
      · have e : tt.getD b 0 = tt.getD a 0 := by simpa using z
        exact n1 (List.mem_map.mpr ⟨b, hb, e⟩)
/-- what holds of a layer of which the slots p have been looked at -/
structure LayOk (rows : List (List Int)) (tt : List Int) (wt : Nat) (w : Ways) (p : List Int) (wt' : Nat) (w' : Ways) (f : List Int) : Prop where
  wb : ∀ a, wt'.testBit a = true ↔ (wt.testBit a = true ∧ ∀ s ∈ p, s ∉ rows.getD a [])
  ks : keysOf w' = keysOf w ++ f
  fm : ∀ s, s ∈ f ↔ ∃ a, wt.testBit a = true ∧ tt.getD a 0 = s ∧ ∃ t ∈ p, t ∈ rows.getD a []
  en : ∀ s v, (s, v) ∈ w' → (s, v) ∈ w ∨ ∃ a t, v = some (a, t) ∧ wt.testBit a = true ∧ tt.getD a 0 = s ∧ t ∈ p ∧ t ∈ rows.getD a []
  nd : (keysOf w').Nodup
theorem tt_inj {n : Int} (tk : TtOk n rows tt) {a b : Nat} (ha : a < rows.length) (hb : b < rows.length) (e : tt.getD a 0 = tt.getD b 0) : a = b := by
  have la : a < tt.length := by rw [tk.len]; exact ha
  have lb : b < tt.length := by rw [tk.len]; exact hb
  simp only [List.getD_eq_getElem?_getD, List.getElem?_eq_getElem la, List.getElem?_eq_getElem lb, Option.getD_some] at e
  exact (List.getElem_inj tk.nd).mp e
theorem lay_ok {n : Int} (tk : TtOk n rows tt) {wt : Nat} {w : Ways} (hw : ∀ a, wt.testBit a = true → a < rows.length ∧ tt.getD a 0 ∉ keysOf w) : ∀ (l p : List Int) (wt' : Nat) (w' : Ways) (f : List Int), LayOk rows tt wt w p wt' w' f →
    LayOk rows tt wt w (p ++ l) (layerF rows tt l wt' w' f).1 (layerF rows tt l wt' w' f).2.1 (layerF rows tt l wt' w' f).2.2
  | [], p, wt', w', f, h => by
    rw [List.append_nil]
    exact h
  | s :: l, p, wt', w', f, h => by
    have bit : ∀ a, a ∈ bitsOf (mask rows s &&& wt') ↔ (s ∈ rows.getD a [] ∧ wt.testBit a = true ∧ ∀ t ∈ p, t ∉ rows.getD a []) := fun a => by
      rw [mem_bitsOf, Nat.testBit_and, Bool.and_eq_true, mask_bit, h.wb]
      simp
    have hk : ∀ a ∈ bitsOf (mask rows s &&& wt'), tt.getD a 0 ∉ keysOf w' := fun a ha z => by
      obtain ⟨h1, h2, h3⟩ := (bit a).mp ha
      rw [h.ks, List.mem_append] at z
      rcases z with z | z
      · exact (hw a h2).2 z
      · obtain ⟨b, b1, b2, t, b3, b4⟩ := (h.fm _).mp z
        have e := tt_inj tk (hw b b1).1 (hw a h2).1 b2
        subst e
        exact h3 t b3 b4
    have nd : ((bitsOf (mask rows s &&& wt')).map fun a => tt.getD a 0).Nodup := by
      have h0 : (bitsOf (mask rows s &&& wt')).Nodup := (bitsOf_asc _).imp fun {a b} h => by omega
      have key : ∀ m : List Nat, m.Nodup → (∀ a ∈ m, a < rows.length) → (m.map fun a => tt.getD a 0).Nodup := by
        intro m
        induction m with
        | nil => intros; exact List.nodup_nil
        | cons a m ih =>
          intro h1 h2
          obtain ⟨n1, n2⟩ := List.nodup_cons.mp h1
          rw [List.map_cons]
          refine List.nodup_cons.mpr ⟨fun z => ?_, ih n2 fun b hb => h2 b (List.mem_cons_of_mem _ hb)⟩
          obtain ⟨b, hb, e⟩ := List.mem_map.mp z
          have := tt_inj tk (h2 b (List.mem_cons_of_mem _ hb)) (h2 a List.mem_cons_self) e
          exact n1 (this ▸ hb)
      exact key _ h0 fun a ha => (hw a ((bit a).mp ha).2.1).1
    have hin := inner_new (slot := s) (bitsOf (mask rows s &&& wt')) w' f hk nd
    have key := lay_ok tk hw l (p ++ [s]) (wt' - (mask rows s &&& wt')) (inner tt s (bitsOf (mask rows s &&& wt')) w' f).1 (inner tt s (bitsOf (mask rows s &&& wt')) w' f).2 (by
      rw [hin]
      refine ⟨fun a => ?_, ?_, fun x => ?_, fun x v hx => ?_, ?_⟩
      · rw [sub_and_bit, Bool.and_eq_true, h.wb, mask_bit]
        constructor
        · rintro ⟨⟨h1, h2⟩, h3⟩
          refine ⟨h1, fun t ht => ?_⟩
          rcases List.mem_append.mp ht with ht | ht
          · exact h2 t ht
          · rw [List.mem_singleton.mp ht]; simpa using h3
        · rintro ⟨h1, h2⟩
          refine ⟨⟨h1, fun t ht => h2 t (List.mem_append_left _ ht)⟩, ?_⟩
          have := h2 s (by simp)
          rw [decide_eq_false this]; rfl
      · unfold keysOf
        rw [List.map_append, List.map_map]
        show keysOf w' ++ _ = _
        rw [h.ks, List.append_assoc]
        rfl
      · rw [List.mem_append, h.fm, List.mem_map]
        constructor
        · rintro (⟨a, h1, h2, t, h3, h4⟩ | ⟨a, ha, e⟩)
          · exact ⟨a, h1, h2, t, List.mem_append_left _ h3, h4⟩
          · obtain ⟨h1, h2, h3⟩ := (bit a).mp ha
            exact ⟨a, h2, e, s, by simp, h1⟩
        · rintro ⟨a, h1, h2, t, h3, h4⟩
          by_cases c : ∃ t ∈ p, t ∈ rows.getD a []
          · obtain ⟨t, c1, c2⟩ := c
            exact .inl ⟨a, h1, h2, t, c1, c2⟩
          · refine .inr ⟨a, (bit a).mpr ⟨?_, h1, fun t ht hr => c ⟨t, ht, hr⟩⟩, h2⟩
            rcases List.mem_append.mp h3 with h3 | h3
            · exact absurd ⟨t, h3, h4⟩ c
            · rw [List.mem_singleton.mp h3] at h4; exact h4
      · rcases List.mem_append.mp hx with hx | hx
        · rcases h.en x v hx with z | ⟨a, t, z1, z2, z3, z4, z5⟩
          · exact .inl z
          · exact .inr ⟨a, t, z1, z2, z3, List.mem_append_left _ z4, z5⟩
        · obtain ⟨a, ha, e⟩ := List.mem_map.mp hx
          cases e
          obtain ⟨h1, h2, h3⟩ := (bit a).mp ha
          exact .inr ⟨a, s, rfl, h2, rfl, by simp, h1⟩
      · unfold keysOf
        rw [List.map_append, List.map_map]
        refine List.nodup_append.mpr ⟨h.nd, nd, fun x hx y hy e => ?_⟩
        subst e
        obtain ⟨a, ha, e⟩ := List.mem_map.mp hy
        exact hk a ha (by rw [show tt.getD a 0 = x from e]; exact hx))
    rw [List.append_assoc] at key
    exact key
/-- what holds at a layer -/
structure WayI (rows : List (List Int)) (tt : List Int) (wt0 : Nat) (slots : List Int) (k : Nat) (ly : List Int) (wt : Nat) (w : Ways) : Prop where
  ka : ∀ s, s ∈ keysOf w ↔ ∃ d, d ≤ k ∧ RR rows tt wt0 slots d s
  kb : ∀ s, s ∈ ly ↔ MinD rows tt wt0 slots k s
  kc : ∀ a, wt.testBit a = true ↔ (wt0.testBit a = true ∧ ∀ d, d ≤ k → ¬ RR rows tt wt0 slots d (tt.getD a 0))
  kd : ∀ s v, (s, v) ∈ w → (v = none ∧ s ∈ slots) ∨ ∃ a t d, v = some (a, t) ∧ wt0.testBit a = true ∧ tt.getD a 0 = s ∧ t ∈ rows.getD a [] ∧ MinD rows tt wt0 slots d t ∧ MinD rows tt wt0 slots (d + 1) s
  ke : (keysOf w).Pairwise fun s t => ∀ d e, MinD rows tt wt0 slots d s → MinD rows tt wt0 slots e t → d ≤ e
  kn : (keysOf w).Nodup
theorem WayI.next {n : Int} (tk : TtOk n rows tt) (h0 : ∀ a, wt0.testBit a = true → a < rows.length) {k : Nat} {ly : List Int} {wt : Nat} {w : Ways} (h : WayI rows tt wt0 slots k ly wt w) :
    WayI rows tt wt0 slots (k + 1) (layerF rows tt ly wt w []).2.2 (layerF rows tt ly wt w []).1 (layerF rows tt ly wt w []).2.1 := by
  have hw : ∀ a, wt.testBit a = true → a < rows.length ∧ tt.getD a 0 ∉ keysOf w := fun a ha => by
    obtain ⟨h1, h2⟩ := (h.kc a).mp ha
    refine ⟨h0 a h1, fun z => ?_⟩
    obtain ⟨d, h3, h4⟩ := (h.ka _).mp z
    exact h2 d h3 h4
  have L := lay_ok tk hw ly [] wt w [] ⟨fun a => by simp, by simp, fun s => by simp, fun s v hs => .inl hs, h.kn⟩
  rw [List.nil_append] at L
  generalize layerF rows tt ly wt w [] = r at L
  obtain ⟨wt', w', f⟩ := r
  have fm : ∀ s, s ∈ f ↔ MinD rows tt wt0 slots (k + 1) s := fun s => by
    rw [L.fm]
    constructor
    · rintro ⟨a, h1, h2, t, h3, h4⟩
      obtain ⟨h5, h6⟩ := (h.kc a).mp h1
      refine ⟨⟨a, h5, h2, t, h4, ((h.kb t).mp h3).1⟩, fun e he => ?_⟩
      have := h6 e (by omega)
      rwa [h2] at this
    · rintro ⟨⟨a, h1, h2, t, h3, h4⟩, h5⟩
      refine ⟨a, (h.kc a).mpr ⟨h1, fun d hd => by rw [h2]; exact h5 d (by omega)⟩, h2, t, (h.kb t).mpr ⟨h4, fun e he hr => h5 (e + 1) (by omega) ⟨a, h1, h2, t, h3, hr⟩⟩, h3⟩
  have ka : ∀ s, s ∈ keysOf w' ↔ ∃ d, d ≤ k + 1 ∧ RR rows tt wt0 slots d s := fun s => by
    rw [L.ks, List.mem_append, h.ka, fm]
    constructor
    · rintro (⟨d, h1, h2⟩ | z)
      · exact ⟨d, by omega, h2⟩
      · exact ⟨k + 1, Nat.le_refl _, z.1⟩
    · rintro ⟨d, h1, h2⟩
      by_cases c : ∃ d, d ≤ k ∧ RR rows tt wt0 slots d s
      · exact .inl c
      · have hd : d = k + 1 := by
          rcases Nat.lt_or_ge d (k + 1) with z | z
          · exact absurd ⟨d, by omega, h2⟩ c
          · omega
        subst hd
        exact .inr ⟨h2, fun e he hr => c ⟨e, by omega, hr⟩⟩
  refine ⟨ka, fm, fun a => ?_, fun s v hs => ?_, ?_, L.nd⟩
  · rw [L.wb, h.kc]
    constructor
    · rintro ⟨⟨h1, h2⟩, h3⟩
      refine ⟨h1, fun d hd hr => ?_⟩
      rcases Nat.lt_or_ge k d with z | z
      · have : d = k + 1 := by omega
        subst this
        obtain ⟨b, b1, b2, t, b3, b4⟩ := hr
        have e := tt_inj tk (h0 b b1) (h0 a h1) b2
        subst e
        exact h3 t ((h.kb t).mpr ⟨b4, fun e he hr => h2 (e + 1) (by omega) ⟨b, b1, rfl, t, b3, hr⟩⟩) b3
      · exact h2 d z hr
    · rintro ⟨h1, h2⟩
      exact ⟨⟨h1, fun d hd => h2 d (by omega)⟩, fun s hs hr => h2 (k + 1) (Nat.le_refl _) ⟨a, h1, rfl, s, hr, ((h.kb s).mp hs).1⟩⟩
  · rcases L.en s v hs with z | ⟨a, t, z1, z2, z3, z4, z5⟩
    · exact h.kd s v z
    · obtain ⟨h1, h2⟩ := (h.kc a).mp z2
      refine .inr ⟨a, t, k, z1, h1, z3, z5, (h.kb t).mp z4, ⟨a, h1, z3, t, z5, ((h.kb t).mp z4).1⟩, fun e he => ?_⟩
      have := h2 e (by omega)
      rwa [z3] at this
  · rw [show keysOf w' = keysOf w ++ f from L.ks]
    refine List.pairwise_append.mpr ⟨h.ke, ?_, fun s hs t ht d e hd he => ?_⟩
    · refine pw_all (l := f) fun s hs t ht d e hd he => ?_
      rw [hd.uniq ((fm s).mp hs), he.uniq ((fm t).mp ht)]
      exact Nat.le_refl _
    · obtain ⟨d', h1, h2⟩ := (h.ka s).mp hs
      obtain ⟨e', h3, h4⟩ := h2.min
      rw [hd.uniq h4, he.uniq ((fm t).mp ht)]
      omega
theorem no_more {k : Nat} (h : ∀ s, ¬ MinD rows tt wt0 slots k s) : ∀ (d : Nat) (s : Int), RR rows tt wt0 slots d s → ∃ e, e ≤ k ∧ RR rows tt wt0 slots e s := by
  have up : ∀ j s, ¬ MinD rows tt wt0 slots (k + j) s := fun j => by
    induction j with
    | zero => exact h
    | succ j ih => intro s hs; obtain ⟨t, ht⟩ := hs.back; exact ih t ht
  intro d s hs
  obtain ⟨e, h1, h2⟩ := hs.min
  rcases Nat.lt_or_ge k e with z | z
  · refine absurd h2 ?_
    have := up (e - k) s
    rwa [show k + (e - k) = e by omega] at this
  · exact ⟨e, z, h2.1⟩
/-- the ways, whole -/
structure WaysOk (rows : List (List Int)) (tt : List Int) (wt0 : Nat) (slots : List Int) (w : Ways) : Prop where
  ka : ∀ s, s ∈ keysOf w ↔ ∃ d, RR rows tt wt0 slots d s
  kd : ∀ s v, (s, v) ∈ w → (v = none ∧ s ∈ slots) ∨ ∃ a t d, v = some (a, t) ∧ wt0.testBit a = true ∧ tt.getD a 0 = s ∧ t ∈ rows.getD a [] ∧ MinD rows tt wt0 slots d t ∧ MinD rows tt wt0 slots (d + 1) s
  ke : (keysOf w).Pairwise fun s t => ∀ d e, MinD rows tt wt0 slots d s → MinD rows tt wt0 slots e t → d ≤ e
  kn : (keysOf w).Nodup
theorem WayI.done {k : Nat} {wt : Nat} {w : Ways} (h : WayI rows tt wt0 slots k [] wt w) : WaysOk rows tt wt0 slots w := by
  have nm := no_more (k := k) (rows := rows) (tt := tt) (wt0 := wt0) (slots := slots) fun s hs => by have := (h.kb s).mpr hs; cases this
  exact ⟨fun s => (h.ka s).trans ⟨fun ⟨d, _, r⟩ => ⟨d, r⟩, fun ⟨d, r⟩ => nm d s r⟩, h.kd, h.ke, h.kn⟩
theorem WayI.run {n : Int} (tk : TtOk n rows tt) (h0 : ∀ a, wt0.testBit a = true → a < rows.length) : ∀ (fuel k : Nat) (ly : List Int) (wt : Nat) (w : Ways), wt + 2 ≤ fuel ∨ ly = [] → WayI rows tt wt0 slots k ly wt w → WaysOk rows tt wt0 slots (waysN rows tt fuel ly wt w)
  | 0, k, ly, wt, w, hf, h => by
    rcases hf with z | rfl
    · omega
    · exact h.done
  | fuel + 1, k, ly, wt, w, hf, h => by
    rw [waysN]
    by_cases c : ly = []
    · subst c
      rw [if_pos rfl]
      exact h.done
    · rw [if_neg c]
      have hx := h.next tk h0
      refine WayI.run tk h0 fuel (k + 1) _ _ _ ?_ hx
      by_cases c2 : (layerF rows tt ly wt w []).2.2 = []
      · exact .inr c2
      · left
        rcases hf with z | z
        · -- some bit has gone
          obtain ⟨s, hs⟩ := List.exists_mem_of_ne_nil _ c2
          obtain ⟨⟨a, h1, h2, t, h3, h4⟩, h5⟩ := (hx.kb s).mp hs
          have b1 : wt.testBit a = true := (h.kc a).mpr ⟨h1, fun d hd => by rw [h2]; exact h5 d (by omega)⟩
          have sub : ∀ i, (layerF rows tt ly wt w []).1.testBit i = true → wt.testBit i = true := fun i hi => by
            obtain ⟨g1, g2⟩ := (hx.kc i).mp hi
            exact (h.kc i).mpr ⟨g1, fun d hd => g2 d (by omega)⟩
          have b2 : (layerF rows tt ly wt w []).1.testBit a = false := by
            cases e : (layerF rows tt ly wt w []).1.testBit a with
            | false => rfl
            | true => exact absurd (show RR rows tt wt0 slots (k + 1) s from ⟨a, h1, h2, t, h3, h4⟩) (by have := ((hx.kc a).mp e).2 (k + 1) (Nat.le_refl _); rwa [h2] at this)
          have : (layerF rows tt ly wt w []).1 < wt := by
            have e : (layerF rows tt ly wt w []).1 = (layerF rows tt ly wt w []).1 &&& wt := Nat.eq_of_testBit_eq fun i => by
              rw [Nat.testBit_and]
              cases q : (layerF rows tt ly wt w []).1.testBit i with
              | false => rfl
              | true => rw [sub i q]; rfl
            have le : (layerF rows tt ly wt w []).1 ≤ wt := by rw [e]; exact Nat.and_le_right
            have ne : (layerF rows tt ly wt w []).1 ≠ wt := fun z => by rw [z, b1] at b2; cases b2
            omega
          omega
        · exact absurd z c
theorem ways0_is : ∀ (l : List Int) (w : Ways), (∀ s ∈ l, s ∉ keysOf w) → l.Nodup → ways0 l w = w ++ l.map fun s => (s, none)
  | [], w, _, _ => by simp [ways0]
  | s :: l, w, h, nd => by
    obtain ⟨n1, n2⟩ := List.nodup_cons.mp nd
    rw [ways0, keys_put_new (h s List.mem_cons_self), ways0_is l _ (fun x hx z => ?_) n2]
    · simp
    · unfold keysOf at z
      rw [List.map_append, List.mem_append] at z
      rcases z with z | z
      · exact h x (List.mem_cons_of_mem _ hx) z
      · have e : x = s := by simpa using z
        exact n1 (e ▸ hx)
theorem ways_ok {n : Int} (tk : TtOk n rows tt) (h0 : ∀ a, wt0.testBit a = true → a < rows.length ∧ tt.getD a 0 ∉ slots) (hs : slots.Nodup) : WaysOk rows tt wt0 slots (waysF rows tt slots wt0) := by
  unfold waysF
  refine WayI.run tk (fun a ha => (h0 a ha).1) _ 0 _ _ _ (.inl (Nat.le_refl _)) ?_
  have e : ways0 slots [] = slots.map fun s => (s, none) := by rw [ways0_is slots [] (fun s _ z => nomatch z) hs]; simp
  have ek : keysOf (ways0 slots []) = slots := by rw [e]; unfold keysOf; rw [List.map_map]; exact List.map_id _
  have z0 : ∀ d s, d ≤ 0 → (RR rows tt wt0 slots d s ↔ s ∈ slots) := fun d s hd => by
    have : d = 0 := by omega
    subst this
    exact Iff.rfl
  refine ⟨fun s => ?_, fun s => ?_, fun a => ?_, fun s v hv => ?_, ?_, by rw [ek]; exact hs⟩
  · rw [ek]
    exact ⟨fun h => ⟨0, Nat.le_refl _, h⟩, fun ⟨d, h1, h2⟩ => (z0 d s h1).mp h2⟩
  · exact ⟨fun h => ⟨h, fun e he => by omega⟩, fun h => h.1⟩
  · exact ⟨fun h => ⟨h, fun d hd hr => (h0 a h).2 ((z0 d _ hd).mp hr)⟩, fun h => h.1⟩
  · rw [e] at hv
    obtain ⟨x, hx, q⟩ := List.mem_map.mp hv
    cases q
    exact .inl ⟨rfl, hx⟩
  · rw [ek]
    exact pw_all fun s hs t ht d e hd he => by
      have : d = 0 := by
        rcases Nat.eq_zero_or_pos d with z | z
        · exact z
        · exact absurd hs (hd.2 0 z)
      omega
end
end Law
/-! open slots; moves -/
namespace Law
open PySem PySem.Spec PyProof.Rows L2 PV
section
variable {n : Int} {rows : List (List Int)} {tt tt' : List Int}
theorem gone_bits : ∀ (l : List Nat) (W : Nat), l.Nodup → (∀ a ∈ l, W.testBit a = true) → ∀ i, (W - (l.map fun a => 2 ^ a).sum).testBit i = (W.testBit i && !decide (i ∈ l))
  | [], W, _, _, i => by simp
  | a :: l, W, nd, h, i => by
    obtain ⟨n1, n2⟩ := List.nodup_cons.mp nd
    have e : 2 ^ a &&& W = 2 ^ a := Nat.eq_of_testBit_eq fun j => by
      rw [Nat.testBit_and, Nat.testBit_two_pow]
      by_cases c : a = j
      · subst c; simp [h a List.mem_cons_self]
      · simp [c]
    have b := fun i => sub_and_bit i (2 ^ a) W
    rw [e] at b
    rw [List.map_cons, List.sum_cons, ← Nat.sub_sub, gone_bits l (W - 2 ^ a) n2 (fun x hx => ?_) i, b, Nat.testBit_two_pow]
    · by_cases c : a = i
      · subst c; simp
      · have c' : ¬ i = a := fun z => c z.symm
        by_cases d : i ∈ l <;> simp [c, c', d]
    · rw [b, h x (List.mem_cons_of_mem _ hx), Nat.testBit_two_pow]
      have : a ≠ x := fun z => n1 (z ▸ hx)
      simp [this]
theorem out_bits {gone : List Nat} (nd : gone.Nodup) (hg : ∀ a ∈ gone, a < rows.length) (i : Nat) : (2 ^ rows.length - 1 - (gone.map fun a => 2 ^ a).sum).testBit i = true ↔ (i < rows.length ∧ i ∉ gone) := by
  rw [gone_bits gone _ nd fun a ha => by rw [Nat.testBit_two_pow_sub_one]; simp [hg a ha], Nat.testBit_two_pow_sub_one]
  simp
theorem mem_freeS {s : Int} : s ∈ freeS n tt ↔ 0 ≤ s ∧ s < n ∧ s ∉ tt := by
  unfold freeS
  rw [List.mem_filter, List.mem_map]
  constructor
  · rintro ⟨⟨i, hi, e⟩, h⟩
    rw [List.mem_range] at hi
    exact ⟨by omega, by omega, by simpa using h⟩
  · rintro ⟨h1, h2, h3⟩
    exact ⟨⟨s.toNat, List.mem_range.mpr (by omega), by omega⟩, by simpa using h3⟩
theorem freeS_nodup : (freeS n tt).Nodup := by
  unfold freeS
  refine List.Pairwise.filter _ (List.Pairwise.map _ (fun a b h e => h ?_) (List.nodup_range (n := n.toNat)))
  have e : (a : Int) = (b : Int) := e
  omega
theorem getD_mem {a : Nat} (h : a < tt.length) : tt.getD a 0 ∈ tt := by
  rw [List.getD_eq_getElem?_getD, List.getElem?_eq_getElem h]
  exact List.getElem_mem h
theorem get_getD {a : Nat} {s : Int} (h : tt[a]? = some s) : tt.getD a 0 = s := by rw [List.getD_eq_getElem?_getD, h]; rfl
theorem getD_get {a : Nat} (h : a < tt.length) : tt[a]? = some (tt.getD a 0) := by rw [List.getD_eq_getElem?_getD, List.getElem?_eq_getElem h]; rfl
/-- ways_out, whole -/
theorem out_ok (tk : TtOk n rows tt) {gone : List Nat} (nd : gone.Nodup) (hg : ∀ a ∈ gone, a < rows.length) :
    WaysOk rows tt (2 ^ rows.length - 1 - (gone.map fun a => 2 ^ a).sum) (freeS n tt ++ gone.map fun k => tt.getD k 0) (waysOut n rows tt gone) := by
  refine ways_ok tk (fun a ha => ?_) ?_
  · obtain ⟨h1, h2⟩ := (out_bits nd hg a).mp ha
    refine ⟨h1, fun z => ?_⟩
    rcases List.mem_append.mp z with z | z
    · exact (mem_freeS.mp z).2.2 (getD_mem (by rw [tk.len]; exact h1))
    · obtain ⟨b, hb, e⟩ := List.mem_map.mp z
      exact h2 (tt_inj tk (hg b hb) h1 e ▸ hb)
  · refine List.nodup_append.mpr ⟨freeS_nodup, ?_, fun x hx y hy e => ?_⟩
    · have key : ∀ m : List Nat, m.Nodup → (∀ a ∈ m, a < rows.length) → (m.map fun a => tt.getD a 0).Nodup := by
        intro m
        induction m with
        | nil => intros; exact List.nodup_nil
        | cons a m ih =>
          intro h1 h2
          obtain ⟨n1, n2⟩ := List.nodup_cons.mp h1
          rw [List.map_cons]
          refine List.nodup_cons.mpr ⟨fun z => ?_, ih n2 fun b hb => h2 b (List.mem_cons_of_mem _ hb)⟩
          obtain ⟨b, hb, e⟩ := List.mem_map.mp z
          exact n1 (tt_inj tk (h2 b (List.mem_cons_of_mem _ hb)) (h2 a List.mem_cons_self) e ▸ hb)
      exact key gone nd hg
    · subst e
      obtain ⟨b, hb, e⟩ := List.mem_map.mp hy
      exact (mem_freeS.mp hx).2.2 (e ▸ getD_mem (by rw [tk.len]; exact hg b hb))
/-- the open slots, those of some appointments taken as free -/
inductive OpnG (n : Int) (rows : List (List Int)) (tt : List Int) (gone : List Nat) : Int → Prop
  | free {s : Int} : 0 ≤ s → s < n → s ∉ tt → OpnG n rows tt gone s
  | gone {a : Nat} {s : Int} : a ∈ gone → tt[a]? = some s → OpnG n rows tt gone s
  | step {a : Nat} {s t : Int} : tt[a]? = some s → t ∈ rows.getD a [] → OpnG n rows tt gone t → OpnG n rows tt gone s
abbrev Opn (n : Int) (rows : List (List Int)) (tt : List Int) : Int → Prop := OpnG n rows tt []
theorem opnG_iff (tk : TtOk n rows tt) {gone : List Nat} (nd : gone.Nodup) (hg : ∀ a ∈ gone, a < rows.length) {s : Int} : s ∈ keysOf (waysOut n rows tt gone) ↔ OpnG n rows tt gone s := by
  rw [(out_ok tk nd hg).ka]
  constructor
  · rintro ⟨d, h⟩
    revert s
    induction d with
    | zero =>
      intro s h
      rcases List.mem_append.mp (show s ∈ _ from h) with z | z
      · obtain ⟨h1, h2, h3⟩ := mem_freeS.mp z
        exact .free h1 h2 h3
      · obtain ⟨b, hb, e⟩ := List.mem_map.mp z
        exact .gone hb (e ▸ getD_get (by rw [tk.len]; exact hg b hb))
    | succ d ih =>
      rintro s ⟨a, h1, h2, t, h3, h4⟩
      obtain ⟨h5, h6⟩ := (out_bits nd hg a).mp h1
      exact .step (a := a) (h2 ▸ getD_get (by rw [tk.len]; exact h5)) h3 (ih h4)
  · intro h
    induction h with
    | free h1 h2 h3 => exact ⟨0, List.mem_append_left _ (mem_freeS.mpr ⟨h1, h2, h3⟩)⟩
    | @gone a s h1 h2 => exact ⟨0, List.mem_append_right _ (List.mem_map.mpr ⟨a, h1, get_getD h2⟩)⟩
    | @step a s t h1 h2 h3 ih =>
      obtain ⟨d, hd⟩ := ih
      have la : a < rows.length := by
        rw [← tk.len]
        exact (List.getElem?_eq_some_iff.mp h1).1
      by_cases c : a ∈ gone
      · exact ⟨0, List.mem_append_right _ (List.mem_map.mpr ⟨a, c, get_getD h1⟩)⟩
      · exact ⟨d + 1, a, (out_bits nd hg a).mpr ⟨la, c⟩, get_getD h1, t, h2, hd⟩
theorem opn_iff (tk : TtOk n rows tt) {s : Int} : s ∈ keysOf (waysOut n rows tt []) ↔ Opn n rows tt s := opnG_iff tk List.nodup_nil (by simp)
theorem mem_openS (tk : TtOk n rows tt) {s : Int} : s ∈ openS n rows tt ↔ Opn n rows tt s := by
  unfold openS
  rw [(isort_perm _).mem_iff, opn_iff tk]
theorem openS_asc (tk : TtOk n rows tt) : (openS n rows tt).Pairwise (· < ·) := by
  have h1 := isort_sorted (keysOf (waysOut n rows tt []))
  have h2 : (openS n rows tt).Nodup := (isort_perm _).nodup_iff.mpr (out_ok tk List.nodup_nil (by simp)).kn
  exact (List.Pairwise.and h1 h2).imp fun {a b} h => by
    have := h.1
    have := h.2
    omega
theorem ascI_uniq : ∀ {l m : List Int}, l.Pairwise (· < ·) → m.Pairwise (· < ·) → (∀ i, i ∈ l ↔ i ∈ m) → l = m
  | [], [], _, _, _ => rfl
  | [], b :: m, _, _, h => by have := (h b).mpr List.mem_cons_self; cases this
  | a :: l, [], _, _, h => by have := (h a).mp List.mem_cons_self; cases this
  | a :: l, b :: m, h1, h2, h => by
    obtain ⟨a1, a2⟩ := List.pairwise_cons.mp h1
    obtain ⟨b1, b2⟩ := List.pairwise_cons.mp h2
    have e : a = b := by
      rcases List.mem_cons.mp ((h a).mp List.mem_cons_self) with z | z
      · exact z
      · rcases List.mem_cons.mp ((h b).mpr List.mem_cons_self) with y | y
        · exact y.symm
        · have := b1 a z; have := a1 b y; omega
    subst e
    rw [ascI_uniq a2 b2 fun i => ⟨fun hi => ?_, fun hi => ?_⟩]
    · rcases List.mem_cons.mp ((h i).mp (List.mem_cons_of_mem _ hi)) with z | z
      · subst z; have := a1 i hi; omega
      · exact z
    · rcases List.mem_cons.mp ((h i).mpr (List.mem_cons_of_mem _ hi)) with z | z
      · subst z; have := b1 i hi; omega
      · exact z
/-- an ascending list of just the open slots -/
theorem openS_of (tk : TtOk n rows tt) {l : List Int} (h : l.Pairwise (· < ·)) (k : ∀ s, s ∈ l ↔ Opn n rows tt s) : l = openS n rows tt := ascI_uniq h (openS_asc tk) fun s => (k s).trans (mem_openS tk).symm
theorem isort_asc {l : List Int} (h : l.Nodup) : (isort l).Pairwise (· < ·) := (List.Pairwise.and (isort_sorted l) ((isort_perm l).nodup_iff.mpr h)).imp fun {a b} h => by
  have := h.1
  have := h.2
  omega
theorem mem_isort {l : List Int} {s : Int} : s ∈ isort l ↔ s ∈ l := (isort_perm l).mem_iff
/-! ### moves -/
structure Move (n : Int) (rows : List (List Int)) (tt : List Int) (a : Nat) (s : Int) : Prop where
  la : a < rows.length
  al : s ∈ rows.getD a []
  s0 : 0 ≤ s
  s1 : s < n
  fr : s ∉ tt
theorem row_of {a : Nat} {s : Int} (ok : BookOk n rows) (h : s ∈ rows.getD a []) : 0 ≤ s ∧ s < n := by
  rw [List.getD_eq_getElem?_getD] at h
  cases e : rows[a]? with
  | none => rw [e] at h; cases h
  | some r =>
    rw [e] at h
    have hr : r ∈ rows := List.mem_of_getElem? e
    exact ⟨(ok.row r hr).lo s h, (ok.row r hr).hi s h⟩
theorem TtOk.at (tk : TtOk n rows tt) {a : Nat} (h : a < rows.length) : tt.getD a 0 ∈ rows.getD a [] := by
  have e1 := getD_get (tt := tt) (a := a) (by rw [tk.len]; exact h)
  have := tk.mem a _ rows[a] e1 (List.getElem?_eq_getElem h)
  rw [List.getD_eq_getElem?_getD (l := rows), List.getElem?_eq_getElem h]
  exact this
theorem nodup_set {l : List Int} {a : Nat} {s : Int} (h : l.Nodup) (hs : s ∉ l) : (l.set a s).Nodup := by
  induction l generalizing a with
  | nil => exact h
  | cons x l ih =>
    obtain ⟨n1, n2⟩ := List.nodup_cons.mp h
    cases a with
    | zero => exact List.nodup_cons.mpr ⟨fun z => hs (List.mem_cons_of_mem _ z), n2⟩
    | succ a =>
      refine List.nodup_cons.mpr ⟨fun z => ?_, ih n2 fun z => hs (List.mem_cons_of_mem _ z)⟩
      rcases List.mem_or_eq_of_mem_set z with z | z
      · exact n1 z
      · exact hs (by rw [z]; exact List.mem_cons_self)
theorem Move.ok (tk : TtOk n rows tt) {a : Nat} {s : Int} (m : Move n rows tt a s) : TtOk n rows (tt.set a s) := by
  refine ⟨by rw [List.length_set]; exact tk.len, fun b t r hb hr => ?_, nodup_set tk.nd m.fr⟩
  by_cases c : b = a
  · subst c
    have hl : b < tt.length := by rw [tk.len]; exact m.la
    rw [List.getElem?_set_self hl] at hb
    cases hb
    have := m.al
    rw [List.getD_eq_getElem?_getD, hr] at this
    exact this
  · rw [List.getElem?_set_ne (fun z => c z.symm)] at hb
    exact tk.mem b t r hb hr
theorem not_mem_set {l : List Int} {a : Nat} {s x : Int} (h : l.Nodup) (hx : l[a]? = some x) (hs : s ≠ x) : x ∉ l.set a s := by
  intro z
  obtain ⟨i, hi⟩ := List.mem_iff_getElem?.mp z
  have la : a < l.length := (List.getElem?_eq_some_iff.mp hx).1
  by_cases c : i = a
  · subst c
    rw [List.getElem?_set_self la] at hi
    cases hi
    exact hs rfl
  · rw [List.getElem?_set_ne (fun z => c z.symm)] at hi
    obtain ⟨h1, h2⟩ := List.getElem?_eq_some_iff.mp hi
    obtain ⟨h3, h4⟩ := List.getElem?_eq_some_iff.mp hx
    exact c ((List.getElem_inj h).mp (h2.trans h4.symm))
/-- the move back -/
theorem Move.back (ok : BookOk n rows) (tk : TtOk n rows tt) {a : Nat} {s : Int} (m : Move n rows tt a s) : Move n rows (tt.set a s) a (tt.getD a 0) ∧ (tt.set a s).set a (tt.getD a 0) = tt := by
  have hl : a < tt.length := by rw [tk.len]; exact m.la
  have hg := getD_get hl
  have hin := tk.at m.la
  refine ⟨⟨m.la, hin, (row_of ok hin).1, (row_of ok hin).2, not_mem_set tk.nd hg fun z => m.fr (z ▸ getD_mem hl)⟩, ?_⟩
  rw [List.set_set]
  refine List.ext_getElem? fun i => ?_
  by_cases c : i = a
  · subst c; rw [List.getElem?_set_self hl, hg]
  · rw [List.getElem?_set_ne (fun z => c z.symm)]
end
end Law
/-! typed operators -/
namespace Law
open PySem PySem.Spec PyProof.Rows L2 PV
/-- one statement, what follows it unseen -/
theorem seq_c {t u : TPs} {E : PEnds} {ρ : Rho} (h : ∀ N : Rho → Prop, (∀ ρ, u E ρ → N ρ) → t { E with nx := N } ρ) : zSeq t u E ρ := h (u E) fun _ h => h
section
variable {α : Type} {f : α → D} {l m : List α} {q : R → Prop}
theorem get_map {k : Nat} {x : D} (h : (l.map f)[k]? = some x) : ∃ y, l[k]? = some y ∧ x = f y := by
  rw [List.getElem?_map] at h
  cases e : l[k]? with
  | none => rw [e] at h; cases h
  | some y => rw [e] at h; cases h; exact ⟨y, rfl, rfl⟩
theorem get_enumFrom : ∀ {ds : List D} {a k : Nat} {x : D}, (enumFrom a ds)[k]? = some x → ∃ d, ds[k]? = some d ∧ x = .tupU [.int ((a + k : Nat) : Int), d]
  | [], a, k, x, h => by simp [enumFrom] at h
  | d :: r, a, 0, x, h => by
    rw [enumFrom] at h
    exact ⟨d, rfl, by simpa using h.symm⟩
  | d :: r, a, k + 1, x, h => by
    rw [enumFrom, List.getElem?_cons_succ] at h
    obtain ⟨d', h1, h2⟩ := get_enumFrom h
    exact ⟨d', by simpa using h1, by rw [h2, show a + 1 + k = a + (k + 1) by omega]⟩
theorem get_enum {ds : List D} {k : Nat} {x : D} (h : (enumD ds)[k]? = some x) : ∃ d, ds[k]? = some d ∧ x = .tupU [.int (k : Nat), d] := by
  rw [enumD_from] at h
  obtain ⟨d, h1, h2⟩ := get_enumFrom h
  exact ⟨d, h1, by rw [h2, Nat.zero_add]⟩
theorem get_enumM {k : Nat} {x : D} (h : (enumD (l.map f))[k]? = some x) : ∃ y, l[k]? = some y ∧ x = .tupU [.int (k : Nat), f y] := by
  obtain ⟨d, h1, h2⟩ := get_enum h
  obtain ⟨y, h3, rfl⟩ := get_map h1
  exact ⟨y, h3, h2⟩
theorem len_enumD {ds : List D} : (enumD ds).length = ds.length := by unfold enumD; rw [List.length_mapIdx]
theorem atI_map {i : Nat} (h : i < l.length) (d : α) : atI (l.map f) (i : Int) = some (f (l.getD i d)) := by
  unfold atI ixN
  rw [if_pos (by omega), if_pos (by rw [List.length_map]; omega)]
  simp [List.getD_eq_getElem?_getD, h]
theorem ixL {i : Nat} (h : i < l.length) (d : α) : fIxA (.lst (l.map f)) (.int (i : Int)) q = q (.dat (f (l.getD i d))) := by
  show (match atI (l.map f) (i : Int) with | some x => q (.dat x) | none => False) = _
  rw [atI_map h d]
/-- range(n) -/
def irange (n : Int) : List Int := (List.range n.toNat).map fun i : Nat => (i : Int)
theorem rangeD_is {n : Int} : rangeD 0 n = (irange n).map D.int := by
  unfold rangeD irange
  rw [List.map_map, show n - 0 = n by omega]
  refine List.map_congr_left fun i _ => ?_
  simp
theorem irange_len {n : Int} : (irange n).length = n.toNat := by simp [irange]
theorem mem_irange {n x : Int} : x ∈ irange n ↔ 0 ≤ x ∧ x < n := by
  unfold irange
  rw [List.mem_map]
  constructor
  · rintro ⟨i, hi, e⟩
    rw [List.mem_range] at hi
    omega
  · rintro ⟨h1, h2⟩
    exact ⟨x.toNat, List.mem_range.mpr (by omega), by omega⟩
theorem irange_asc {n : Int} : (irange n).Pairwise (· < ·) := List.Pairwise.map _ (fun a b h => by omega) (List.pairwise_lt_range (n := n.toNat))
theorem row_len {n : Int} {rows : List (List Int)} (ok : BookOk n rows) (a : Nat) : (rows.getD a []).length ≤ 60 := by
  rw [List.getD_eq_getElem?_getD]
  cases e : rows[a]? with
  | none => simp
  | some r =>
    have hr := ok.row r (List.mem_of_getElem? e)
    have nd : r.Nodup := hr.up.imp fun {a b} h => by omega
    have := nd.length_le_of_subset (l₂ := irange n) fun s hs => mem_irange.mpr ⟨hr.lo s hs, hr.hi s hs⟩
    rw [irange_len] at this
    have := ok.n60
    simp only [Option.getD_some]
    omega
/-- a comprehension's list: a filter and a map -/
theorem lc_of {g : TPg} {tt : TPt} {te : TPe} {vs : List Nat} {ρ : Rho} {Q : List D → Rho → Prop} (p : α → Bool) (h : α → D) (hρ : anyP ρ vs = ρ) (hl : l.length ≤ sizeLine)
    (st : ∀ x ∈ l, ∀ (K : D → Rho → Prop) (L : Rho → Prop), (p x = true → ∀ ρ', noRefs ρ' vs = true → anyP ρ' vs = ρ → K (h x) ρ') → (p x = false → ∀ ρ', noRefs ρ' vs = true → anyP ρ' vs = ρ → L ρ') →
      g (f x) ρ fun ρ1 => tt ρ1 (fun b ρ2 => if b = true then te ρ2 (fun res ρ3 => fix ρ3 res K) (fun _ _ => False) else L ρ2) fun _ _ => False)
    (kq : Q ((l.filter p).map h) ρ) : yLcL g tt te vs (l.map f) [] ρ Q := by
  refine lc_inv (fun k acc ρ' => ρ' = ρ ∧ acc = ((l.take k).filter p).map h) ⟨rfl, by simp⟩ ?_ ?_
  · rintro k x acc ρ' hx ⟨rfl, rfl⟩ K L hK hL
    obtain ⟨y, hy, rfl⟩ := get_map hx
    have lt : k < l.length := (List.getElem?_eq_some_iff.mp hy).1
    have e : l.take (k + 1) = l.take k ++ [y] := by
      rw [List.take_add_one, hy]
      rfl
    rw [hρ]
    refine st y (List.mem_of_getElem? hy) K L (fun hp ρ2 h1 h2 => hK _ ρ2 ?_ h1 ⟨h2, ?_⟩) (fun hp ρ2 h1 h2 => hL ρ2 h1 ⟨h2, ?_⟩)
    · have : (((l.take k).filter p).map h).length ≤ (l.take k).length := by rw [List.length_map]; exact List.length_filter_le _ _
      rw [List.length_take] at this
      omega
    · rw [e, List.filter_append, List.map_append]
      simp [hp]
    · rw [e, List.filter_append, List.map_append]
      simp [hp]
  · rintro acc ρ' ⟨rfl, rfl⟩
    rw [List.length_map, List.take_length]
    exact kq
end
end Law
/-! sequences of moves; a slot is vacated along a way -/
namespace Law
open PySem PySem.Spec PyProof.Rows L2 PV
section
variable {n : Int} {rows : List (List Int)} {tt t u : List Int}
/-- moves, one after the other -/
inductive Mv (n : Int) (rows : List (List Int)) : List Int → List (Nat × Int) → List Int → Prop
  | nil {tt : List Int} : Mv n rows tt [] tt
  | cons {tt t : List Int} {a : Nat} {s : Int} {l : List (Nat × Int)} : Move n rows tt a s → Mv n rows (tt.set a s) l t → Mv n rows tt ((a, s) :: l) t
theorem Mv.append {l m : List (Nat × Int)} (h : Mv n rows tt l t) (k : Mv n rows t m u) : Mv n rows tt (l ++ m) u := by
  induction h with
  | nil => exact k
  | cons a b ih => exact .cons a (ih k)
theorem Mv.snoc {l : List (Nat × Int)} {a : Nat} {s : Int} (h : Mv n rows tt l t) (k : Move n rows t a s) : Mv n rows tt (l ++ [(a, s)]) (t.set a s) := h.append (.cons k .nil)
theorem Mv.ok {l : List (Nat × Int)} (tk : TtOk n rows tt) (h : Mv n rows tt l t) : TtOk n rows t := by
  induction h with
  | nil => exact tk
  | cons a b ih => exact ih (a.ok tk)
theorem Mv.uniq {l : List (Nat × Int)} (h : Mv n rows tt l t) (k : Mv n rows tt l u) : t = u := by
  induction h with
  | nil => cases k; rfl
  | cons a b ih => cases k with | cons c d => exact ih d
theorem Mv.len {l : List (Nat × Int)} (h : Mv n rows tt l t) : t.length = tt.length := by
  induction h with
  | nil => rfl
  | cons a b ih => rw [ih, List.length_set]
/-- those that do not move stay -/
theorem Mv.stay {l : List (Nat × Int)} {b : Nat} (h : Mv n rows tt l t) (hb : ∀ p ∈ l, p.1 ≠ b) : t[b]? = tt[b]? := by
  induction h with
  | nil => rfl
  | @cons tt t a s l m k ih =>
    rw [ih fun p hp => hb p (List.mem_cons_of_mem _ hp), List.getElem?_set_ne (hb (a, s) List.mem_cons_self)]
/-- backward -/
theorem Mv.back {l : List (Nat × Int)} (ok : BookOk n rows) (tk : TtOk n rows tt) (h : Mv n rows tt l t) : ∃ m, m.length = l.length ∧ Mv n rows t m tt := by
  induction h with
  | nil => exact ⟨[], rfl, .nil⟩
  | @cons tt t a s l m k ih =>
    obtain ⟨r, h1, h2⟩ := ih (m.ok tk)
    obtain ⟨mb, e⟩ := m.back ok tk
    have := h2.snoc mb
    rw [e] at this
    exact ⟨_, by simp [h1], this⟩
def Reach (n : Int) (rows : List (List Int)) (tt t : List Int) : Prop := ∃ l, Mv n rows tt l t
theorem Reach.refl : Reach n rows tt tt := ⟨[], .nil⟩
theorem Reach.trans (h : Reach n rows tt t) (k : Reach n rows t u) : Reach n rows tt u := let ⟨l, a⟩ := h; let ⟨m, b⟩ := k; ⟨l ++ m, a.append b⟩
theorem Reach.symm (ok : BookOk n rows) (tk : TtOk n rows tt) (h : Reach n rows tt t) : Reach n rows t tt := let ⟨l, a⟩ := h; let ⟨m, _, b⟩ := a.back ok tk; ⟨m, b⟩
theorem Reach.ok (tk : TtOk n rows tt) (h : Reach n rows tt t) : TtOk n rows t := let ⟨_, a⟩ := h; a.ok tk
/-! ### ways -/
/-- the way of a hole: (a, x): a goes to x -/
inductive Way (n : Int) (rows : List (List Int)) (tt : List Int) : Int → List (Nat × Int) → Prop
  | nil {s : Int} : 0 ≤ s → s < n → s ∉ tt → Way n rows tt s []
  | cons {a : Nat} {s x : Int} {l : List (Nat × Int)} : tt[a]? = some s → x ∈ rows.getD a [] → Way n rows tt x l → a ∉ l.map (·.1) → Way n rows tt s ((a, x) :: l)
theorem Way.run (ok : BookOk n rows) (tk : TtOk n rows tt) {s : Int} {l : List (Nat × Int)} (h : Way n rows tt s l) : ∃ t, Mv n rows tt l.reverse t ∧ s ∉ t := by
  induction h with
  | nil h0 h1 h2 => exact ⟨tt, .nil, h2⟩
  | @cons a s x l h1 h2 h3 h4 ih =>
    obtain ⟨t, m, hx⟩ := ih
    have la : a < rows.length := by rw [← tk.len]; exact (List.getElem?_eq_some_iff.mp h1).1
    obtain ⟨x0, x1⟩ := row_of ok h2
    have mv : Move n rows t a x := ⟨la, h2, x0, x1, hx⟩
    have ta : t[a]? = some s := by
      rw [m.stay fun p hp e => h4 (List.mem_map.mpr ⟨p, by simpa using hp, e⟩)]
      exact h1
    refine ⟨t.set a x, by rw [List.reverse_cons]; exact m.snoc mv, not_mem_set (m.ok tk).nd ta fun e => hx ?_⟩
    subst e
    exact List.mem_of_getElem? ta
/-- the steps of a way, its bits all -/
abbrev allB (rows : List (List Int)) : Nat := 2 ^ rows.length - 1
abbrev DistS (n : Int) (rows : List (List Int)) (tt : List Int) : Nat → Int → Prop := MinD rows tt (allB rows) (freeS n tt)
theorem opn_dist (tk : TtOk n rows tt) {s : Int} : Opn n rows tt s ↔ ∃ d, DistS n rows tt d s := by
  rw [← opn_iff tk, (out_ok tk List.nodup_nil (by simp)).ka]
  have e1 : 2 ^ rows.length - 1 - (([] : List Nat).map fun a => 2 ^ a).sum = allB rows := by simp
  have e2 : freeS n tt ++ ([] : List Nat).map (fun k => tt.getD k 0) = freeS n tt := by simp
  rw [e1, e2]
  constructor
  · rintro ⟨d, h⟩
    obtain ⟨e, _, h⟩ := h.min
    exact ⟨e, h⟩
  · rintro ⟨d, h⟩
    exact ⟨d, h.1⟩
/-! ### in so many moves -/
theorem Mv.last {l : List (Nat × Int)} (h : Mv n rows tt l t) : (l = [] ∧ t = tt) ∨ ∃ m a s u, l = m ++ [(a, s)] ∧ Mv n rows tt m u ∧ Move n rows u a s ∧ t = u.set a s := by
  induction h with
  | nil => exact .inl ⟨rfl, rfl⟩
  | @cons tt t a s l m k ih =>
    right
    rcases ih with ⟨rfl, rfl⟩ | ⟨r, b, x, u, rfl, h2, h3, h4⟩
    · exact ⟨[], a, s, tt, rfl, .nil, m, rfl⟩
    · exact ⟨(a, s) :: r, b, x, u, rfl, .cons m h2, h3, h4⟩
/-- in d moves -/
def RN (n : Int) (rows : List (List Int)) (tt : List Int) (d : Nat) (t : List Int) : Prop := ∃ l, l.length = d ∧ Mv n rows tt l t
def MinN (n : Int) (rows : List (List Int)) (tt : List Int) (d : Nat) (t : List Int) : Prop := RN n rows tt d t ∧ ∀ e, e < d → ¬ RN n rows tt e t
theorem RN.zero : RN n rows tt 0 t ↔ t = tt := by
  constructor
  · rintro ⟨l, h1, h2⟩
    have : l = [] := List.length_eq_zero_iff.mp h1
    subst this
    cases h2
    rfl
  · rintro rfl
    exact ⟨[], rfl, .nil⟩
theorem RN.succ {d : Nat} : RN n rows tt (d + 1) t ↔ ∃ u a s, RN n rows tt d u ∧ Move n rows u a s ∧ t = u.set a s := by
  constructor
  · rintro ⟨l, h1, h2⟩
    rcases h2.last with ⟨rfl, _⟩ | ⟨m, a, s, u, rfl, h3, h4, h5⟩
    · cases h1
    · exact ⟨u, a, s, ⟨m, by simpa using h1, h3⟩, h4, h5⟩
  · rintro ⟨u, a, s, ⟨l, h1, h2⟩, h3, rfl⟩
    exact ⟨_, by simp [h1], h2.snoc h3⟩
theorem RN.min : ∀ {d : Nat} {t : List Int}, RN n rows tt d t → ∃ e, e ≤ d ∧ MinN n rows tt e t := by
  intro d
  induction d using Nat.strongRecOn with
  | _ d ih =>
    intro t h
    by_cases k : ∃ e, e < d ∧ RN n rows tt e t
    · obtain ⟨e, h1, h2⟩ := k
      obtain ⟨e', h3, h4⟩ := ih e h1 h2
      exact ⟨e', by omega, h4⟩
    · exact ⟨d, Nat.le_refl _, h, fun e he hr => k ⟨e, he, hr⟩⟩
theorem MinN.uniq {d e : Nat} (h : MinN n rows tt d t) (k : MinN n rows tt e t) : d = e := by
  rcases Nat.lt_trichotomy d e with z | z | z
  · exact absurd h.1 (k.2 d z)
  · exact z
  · exact absurd k.1 (h.2 e z)
end
/-! ### how many timetables -/
theorem tt_mem {n : Int} {rows : List (List Int)} {tt : List Int} (ok : BookOk n rows) (tk : TtOk n rows tt) {s : Int} (h : s ∈ tt) : 0 ≤ s ∧ s < n := by
  obtain ⟨a, ha⟩ := List.mem_iff_getElem?.mp h
  have la := (List.getElem?_eq_some_iff.mp ha).1
  have := tk.at (a := a) (by rw [← tk.len]; exact la)
  rw [get_getD ha] at this
  exact row_of ok this
end Law
namespace Law
open PySem PySem.Spec PyProof.Rows L2 PV
/-- the slots that an appointment can have -/
def optL (n : Int) (rows : List (List Int)) (tt : List Int) (k : Nat) : List Int := if tt.getD k 0 ∈ openS n rows tt then (rows.getD k []).filter fun s => decide (s ∈ openS n rows tt) else [tt.getD k 0]
/-- the open slots, each with its distance -/
structure Opened (n : Int) (rows : List (List Int)) (tt : List Int) (ks : List Int) (ds : List Nat) : Prop where
  nd : ks.Nodup
  len : ds.length = ks.length
  mem : ∀ s, s ∈ ks ↔ s ∈ openS n rows tt
  dist : ∀ (i : Nat) (s : Int) (d : Nat), ks[i]? = some s → ds[i]? = some d → DistS n rows tt d s
/-- the first places of a timetable -/
structure PreOk (rows : List (List Int)) (gs : List Int) : Prop where
  len : gs.length ≤ rows.length
  mem : ∀ (a : Nat) (s : Int) (r : List Int), gs[a]? = some s → rows[a]? = some r → s ∈ r
  nd : gs.Nodup
end Law
namespace Law
open PySem PySem.Spec PyProof.Rows L2 PV
theorem fm_lo (x : Int) {m : Int} (h : 0 < m) : 0 ≤ x.fmod m := by
  rw [Int.fmod_eq_emod_of_nonneg _ (by omega)]
  exact Int.emod_nonneg _ (by omega)
theorem fm_hi (x : Int) {m : Int} (h : 0 < m) : x.fmod m < m := by
  rw [Int.fmod_eq_emod_of_nonneg _ (by omega)]
  exact Int.emod_lt_of_pos _ h
theorem fm_mul {x m y : Int} (h : 0 < m) (h2 : m < 4294967296) : CMul (x.fmod m) y := by
  have a := fm_lo x h
  have b := fm_hi x h
  exact .inl ⟨by omega, by omega⟩
theorem mul_small {x y : Int} (h1 : -(2 ^ 64) < y) (h2 : y < 2 ^ 64) : CMul x y := .inr ⟨h1, h2⟩
theorem mul_smallL {x y : Int} (h1 : -(2 ^ 64) < x) (h2 : x < 2 ^ 64) : CMul x y := .inl ⟨h1, h2⟩
theorem pure_law_draw : ∀ as q e, sp_law_draw as q e → t_law_draw (endsOf (refPos 0 as) q e) (entry 4 as) := by
  rintro as q e ⟨a, b, c, m, rfl, h0, h1, k⟩
  show t_law_draw _ [.ref (.lst [.int a, .int b, .int c]), .frz _, .any, .any]
  have m0 : ¬ m = 0 := by omega
  have dm : ∀ x, CDivN x m := fun x => ⟨by omega, by omega⟩
  have d1 : ∀ x, CDivN x 1009 := fun x => ⟨by decide, by decide⟩
  have d2 : ∀ x, CDivN x 2003 := fun x => ⟨by decide, by decide⟩
  have c1 : ∀ x, CMul 104729 x := fun x => mul_smallL (by decide) (by decide)
  have c2 : ∀ x, CMul x 48271 := fun x => mul_small (by decide) (by decide)
  have c3 : ∀ x y : Int, CMul (x.fmod 2147483647) y := fun x y => fm_mul (by decide) (by decide)
  have k' : ∀ (x a' c' : Int), q (.dat (.int (x.fmod m))) [.lst [.int a', .int b, .int c']] := fun x a' c' => k _ a' c' (fm_lo _ h0) (fm_hi _ h0)
  by_cases h : 0 < a
  · simpa [t_law_draw, zSeq, zIf, yT, yB, yVar, yC, yU, yNot, yAnd, yOr, yAndV, yOrV, yNotV, yTru, yIf, yCh, yF, yNil, yCons, yLst, yTup, yDNew, conts, fixs, cont, hold, asB, fGt, fLt, fLe, fGe, fEq, fNe, fI0, fI, fIxA, fIx, fDGet, fIn, fIsN, fNotN, atI, ixN, zSet, zRet, zRetN, zPut, zDrop, zAsg, zAug, zAugS, getA, getL, asgn, give, fix, fMod, fFdiv, fAdd, fAddI, fSub, fMul, fNeg, fPow, fShl, fShr, fAnd, fOr, fXor, setAt, mutAt, uSet, uSetL, uSetD, Sl.put, zNext, isRef_eq, rfa, rff, rfo, fLen, fList, fTuple, fMax2, fMin2, fInt1, fSet0, fRev, fSl, ySl, yPart, yNoPart, yMt, yMs, mAppend, mPopAt, mSAdd, isLst, isSet, yRm, isTup, fIndexT, iSq, iEn, iR1, itemsD, gN, gT, gsCons, gsNil, zFor, zBreak, zCont, zRaise, yCall, yCall0, yMake, yCallN, fixM, agsOf, PV.putAll, put1, noRefs, anyP, yYes, fIsi, tyN, isiT, truD, fBits, endsOf, refPos, refsAt, notLoc, okI, okB, okN, eqvI, zForF, fgM, fgS, h, m0, dm] using k' _ _ _
  · simpa [t_law_draw, zSeq, zIf, yT, yB, yVar, yC, yU, yNot, yAnd, yOr, yAndV, yOrV, yNotV, yTru, yIf, yCh, yF, yNil, yCons, yLst, yTup, yDNew, conts, fixs, cont, hold, asB, fGt, fLt, fLe, fGe, fEq, fNe, fI0, fI, fIxA, fIx, fDGet, fIn, fIsN, fNotN, atI, ixN, zSet, zRet, zRetN, zPut, zDrop, zAsg, zAug, zAugS, getA, getL, asgn, give, fix, fMod, fFdiv, fAdd, fAddI, fSub, fMul, fNeg, fPow, fShl, fShr, fAnd, fOr, fXor, setAt, mutAt, uSet, uSetL, uSetD, Sl.put, zNext, isRef_eq, rfa, rff, rfo, fLen, fList, fTuple, fMax2, fMin2, fInt1, fSet0, fRev, fSl, ySl, yPart, yNoPart, yMt, yMs, mAppend, mPopAt, mSAdd, isLst, isSet, yRm, isTup, fIndexT, iSq, iEn, iR1, itemsD, gN, gT, gsCons, gsNil, zFor, zBreak, zCont, zRaise, yCall, yCall0, yMake, yCallN, fixM, agsOf, PV.putAll, put1, noRefs, anyP, yYes, fIsi, tyN, isiT, truD, fBits, endsOf, refPos, refsAt, notLoc, okI, okB, okN, eqvI, zForF, fgM, fgS, h, m0, d1, d2, c1, c2, c3] using k' _ _ _
end Law
namespace Law
open PySem PySem.Spec PyProof.Rows L2 PV
theorem erase_map {α β : Type} {f : α → β} : ∀ (l : List α) (i : Nat), (l.map f).eraseIdx i = (l.eraseIdx i).map f
  | [], _ => rfl
  | a :: l, 0 => rfl
  | a :: l, i + 1 => by rw [List.map_cons, List.eraseIdx_cons_succ, erase_map l i, List.eraseIdx_cons_succ, List.map_cons]
theorem erase_perm {α : Type} : ∀ (l : List α) (i : Nat) (h : i < l.length), (l[i] :: l.eraseIdx i).Perm l
  | a :: l, 0, h => .refl _
  | a :: l, i + 1, h => by
    have := erase_perm l i (by simpa using h)
    rw [List.eraseIdx_cons_succ, List.getElem_cons_succ]
    exact (List.Perm.swap _ _ _).trans (this.cons a)
theorem fd_in {r d : Int} (h0 : 0 ≤ r) (h1 : 1 ≤ d) : 0 ≤ r.fdiv d ∧ r.fdiv d ≤ r := by
  rw [Int.fdiv_eq_ediv_of_nonneg _ (by omega)]
  exact ⟨Int.ediv_nonneg h0 (by omega), Int.ediv_le_self _ h0⟩
/-- xs[r], whatever item it is -/
theorem ix_mem {ds : List D} {r : Int} {q : R → Prop} (h0 : 0 ≤ r) (h1 : r < ds.length) (h : ∀ x ∈ ds, q (.dat x)) : fIxA (.lst ds) (.int r) q := by
  have hl : r.toNat < ds.length := by omega
  have e : atI ds r = some ds[r.toNat] := by
    unfold atI ixN
    rw [if_pos h0, if_pos h1]
    simp [hl]
  show (match atI ds r with | some x => q (.dat x) | none => False)
  rw [e]
  exact h _ (List.getElem_mem hl)
theorem book_slots {E : PEnds} {N : Rho → Prop} {a b c m : Int} {s2 s3 s4 s5 s6 s7 s8 s9 s10 s11 : Sl} (g2 : isRefS s2 = false) (h0 : 1 ≤ m) (h1 : m ≤ 60) (k : ∀ (s a c : Int), 1 ≤ s → s ≤ m → N [.ref (wellD a b c), .frz (.int m), .frz (.int s), s3, s4, s5, s6, s7, s8, s9, s10, s11]) :
    zSet 2 (yB fSub (yVar 1) (yB fFdiv (yCall sp_law_draw [true, false] [] (yCons (yVar 0) (yCons (yVar 1) yNil))) (yB fIxA (yLst (yCons (yC (.int 1)) (yCons (yC (.int 2)) (yCons (yC (.int 3)) yNil)))) (yCall sp_law_draw [true, false] [] (yCons (yVar 0) (yCons (yC (.int 3)) yNil)))))) { E with nx := N } [.ref (wellD a b c), .frz (.int m), s2, s3, s4, s5, s6, s7, s8, s9, s10, s11] := by
  have z3 : 3 ≤ sizeLine := by decide
  simp [zSeq, zIf, yT, yB, yVar, yC, yU, yNot, yAnd, yOr, yAndV, yOrV, yNotV, yTru, yIf, yCh, yF, yNil, yCons, yLst, yTup, yDNew, conts, fixs, cont, hold, asB, fGt, fLt, fLe, fGe, fEq, fNe, fI0, fI, fIn, fIsN, fNotN, zSet, zRet, zRetN, zPut, zDrop, zAsg, zAug, zAugS, getA, getL, asgn, give, fix, fMod, fFdiv, fAdd, fAddI, fSub, fMul, fNeg, fPow, fShl, fShr, fAnd, fOr, fXor, setAt, mutAt, Sl.put, zNext, isRef_eq, rfa, rff, rfo, fLen, fList, fTuple, fMax2, fMin2, fInt1, fSet0, fRev, fSl, ySl, yPart, yNoPart, yMt, yMs, mAppend, mPopAt, mSAdd, isLst, isSet, yRm, isTup, fIndexT, iSq, iEn, iR1, itemsD, gN, gT, gsCons, gsNil, zFor, zBreak, zCont, zRaise, yCall, yCall0, yMake, yCallN, fixM, agsOf, PV.putAll, put1, noRefs, anyP, yYes, fIsi, tyN, isiT, truD, fBits, endsOf, refPos, refsAt, notLoc, okI, okB, okN, eqvI, zForF, fgM, fgS]
  refine ⟨a, b, c, m, rfl, by omega, by omega, fun r1 a c e0 e1 => ?_⟩
  simp [zSeq, zIf, yT, yB, yVar, yC, yU, yNot, yAnd, yOr, yAndV, yOrV, yNotV, yTru, yIf, yCh, yF, yNil, yCons, yLst, yTup, yDNew, conts, fixs, cont, hold, asB, fGt, fLt, fLe, fGe, fEq, fNe, fI0, fI, fIn, fIsN, fNotN, zSet, zRet, zRetN, zPut, zDrop, zAsg, zAug, zAugS, getA, getL, asgn, give, fix, fMod, fFdiv, fAdd, fAddI, fSub, fMul, fNeg, fPow, fShl, fShr, fAnd, fOr, fXor, setAt, mutAt, Sl.put, zNext, isRef_eq, rfa, rff, rfo, fLen, fList, fTuple, fMax2, fMin2, fInt1, fSet0, fRev, fSl, ySl, yPart, yNoPart, yMt, yMs, mAppend, mPopAt, mSAdd, isLst, isSet, yRm, isTup, fIndexT, iSq, iEn, iR1, itemsD, gN, gT, gsCons, gsNil, zFor, zBreak, zCont, zRaise, yCall, yCall0, yMake, yCallN, fixM, agsOf, PV.putAll, put1, noRefs, anyP, yYes, fIsi, tyN, isiT, truD, fBits, endsOf, refPos, refsAt, notLoc, okI, okB, okN, eqvI, zForF, fgM, fgS, z3]
  refine ⟨a, b, c, 3, rfl, by omega, by omega, fun r2 a c e2 e3 => ?_⟩
  refine ix_mem e2 (by simpa using e3) (fun x hx => ?_)
  obtain ⟨d, rfl, d1, d2⟩ : ∃ d : Int, x = .int d ∧ 1 ≤ d ∧ d ≤ 3 := by
    simp at hx
    rcases hx with rfl | rfl | rfl
    · exact ⟨1, rfl, by omega, by omega⟩
    · exact ⟨2, rfl, by omega, by omega⟩
    · exact ⟨3, rfl, by omega, by omega⟩
  have cd : CDivN r1 d := ⟨by omega, by omega⟩
  obtain ⟨f1, f2⟩ := fd_in e0 d1
  simp [zSeq, zIf, yT, yB, yVar, yC, yU, yNot, yAnd, yOr, yAndV, yOrV, yNotV, yTru, yIf, yCh, yF, yNil, yCons, yLst, yTup, yDNew, conts, fixs, cont, hold, asB, fGt, fLt, fLe, fGe, fEq, fNe, fI0, fI, fIn, fIsN, fNotN, zSet, zRet, zRetN, zPut, zDrop, zAsg, zAug, zAugS, getA, getL, asgn, give, fix, fMod, fFdiv, fAdd, fAddI, fSub, fMul, fNeg, fPow, fShl, fShr, fAnd, fOr, fXor, setAt, mutAt, Sl.put, zNext, isRef_eq, rfa, rff, rfo, fLen, fList, fTuple, fMax2, fMin2, fInt1, fSet0, fRev, fSl, ySl, yPart, yNoPart, yMt, yMs, mAppend, mPopAt, mSAdd, isLst, isSet, yRm, isTup, fIndexT, iSq, iEn, iR1, itemsD, gN, gT, gsCons, gsNil, zFor, zBreak, zCont, zRaise, yCall, yCall0, yMake, yCallN, fixM, agsOf, PV.putAll, put1, noRefs, anyP, yYes, fIsi, tyN, isiT, truD, fBits, endsOf, refPos, refsAt, notLoc, okI, okB, okN, eqvI, zForF, fgM, fgS, cd, g2]
  exact k _ a c (by omega) (by omega)
theorem book_left {E : PEnds} {N : Rho → Prop} {w m : Sl} {s : Int} {s3 s4 s5 s6 s7 s8 s9 s10 s11 : Sl} (g3 : isRefS s3 = false) (h0 : 1 ≤ s) (h1 : s ≤ 60) (k : N [w, m, .frz (.int s), .own (.lst (((List.range s.toNat).map fun i : Nat => (i : Int)).map D.int)), s4, s5, s6, s7, s8, s9, s10, s11]) :
    zSet 3 (yLstRg (yVar 2)) { E with nx := N } [w, m, .frz (.int s), s3, s4, s5, s6, s7, s8, s9, s10, s11] := by
  have e : rangeD 0 s = ((List.range s.toNat).map fun i : Nat => (i : Int)).map D.int := by
    unfold rangeD
    rw [List.map_map, show s - 0 = s by omega]
    refine List.map_congr_left fun i _ => ?_
    simp
  simp [zSeq, zIf, yT, yB, yVar, yC, yU, yNot, yAnd, yOr, yAndV, yOrV, yNotV, yTru, yIf, yCh, yF, yNil, yCons, yLst, yTup, yDNew, conts, fixs, cont, hold, asB, fGt, fLt, fLe, fGe, fEq, fNe, fI0, fI, fIn, fIsN, fNotN, zSet, zRet, zRetN, zPut, zDrop, zAsg, zAug, zAugS, getA, getL, asgn, give, fix, fMod, fFdiv, fAdd, fAddI, fSub, fMul, fNeg, fPow, fShl, fShr, fAnd, fOr, fXor, setAt, mutAt, Sl.put, zNext, isRef_eq, rfa, rff, rfo, fLen, fList, fTuple, fMax2, fMin2, fInt1, fSet0, fRev, fSl, ySl, yPart, yNoPart, yMt, yMs, mAppend, mPopAt, mSAdd, isLst, isSet, yRm, isTup, fIndexT, iSq, iEn, iR1, itemsD, gN, gT, gsCons, gsNil, zFor, zBreak, zCont, zRaise, yCall, yCall0, yMake, yCallN, fixM, agsOf, PV.putAll, put1, noRefs, anyP, yYes, fIsi, tyN, isiT, truD, fBits, endsOf, refPos, refsAt, notLoc, okI, okB, okN, eqvI, zForF, fgM, fgS, yLstRg, g3]
  rw [e]
  exact ⟨by omega, by omega, by simpa using k⟩
/-- the draw of an order -/
theorem book_order {E : PEnds} {m s2 : Sl} {b : Int} {s5 s6 s7 s8 s9 s10 s11 : Sl} : ∀ (k : Nat) (left order : List Int) (a c : Int), left.length = k → order.length + left.length ≤ 60 → (∀ (order' : List Int) (a c : Int), order'.Perm (order ++ left) → E.nx [.ref (wellD a b c), m, s2, .own (.lst []), .own (.lst (order'.map D.int)), s5, s6, s7, s8, s9, s10, s11]) →
    zWhileN (yT (yB fNe (yVar 3) (yLst yNil)))
    (zDrop (yMt mAppend (yVar 4) (yCons (yMt mPopAt (yVar 3) (yCons (yCall sp_law_draw [true, false] [] (yCons (yVar 0) (yCons (yF fLen (yCons (yVar 3) yNil)) yNil))) yNil)) yNil))) E (k + 1) [.ref (wellD a b c), m, s2, .own (.lst (left.map D.int)), .own (.lst (order.map D.int)), s5, s6, s7, s8, s9, s10, s11]
  | 0, left, order, a, c, hk, hl, k => by
    have e : left = [] := List.length_eq_zero_iff.mp hk
    subst e
    have n0 : ∀ {q : R → Prop}, fNe (.lst []) (.lst []) q = q (.dat (.bl false)) := neL0 (l := [])
    simpa [zWhileN, zSeq, zIf, yT, yB, yVar, yC, yU, yNot, yAnd, yOr, yAndV, yOrV, yNotV, yTru, yIf, yCh, yF, yNil, yCons, yLst, yTup, yDNew, conts, fixs, cont, hold, asB, fGt, fLt, fLe, fGe, fEq, fI0, fI, fIn, fIsN, fNotN, zSet, zRet, zRetN, zPut, zDrop, zAsg, zAug, zAugS, getA, getL, asgn, give, fix, fMod, fFdiv, fAdd, fAddI, fSub, fMul, fNeg, fPow, fShl, fShr, fAnd, fOr, fXor, setAt, mutAt, Sl.put, zNext, isRef_eq, rfa, rff, rfo, fLen, fList, fTuple, fMax2, fMin2, fInt1, fSet0, fRev, fSl, ySl, yPart, yNoPart, yMt, yMs, mAppend, mPopAt, mSAdd, isLst, isSet, yRm, isTup, fIndexT, iSq, iEn, iR1, itemsD, gN, gT, gsCons, gsNil, zFor, zBreak, zCont, zRaise, yCall, yCall0, yMake, yCallN, fixM, agsOf, PV.putAll, put1, noRefs, anyP, yYes, fIsi, tyN, isiT, truD, fBits, endsOf, refPos, refsAt, notLoc, okI, okB, okN, eqvI, zForF, fgM, fgS, n0] using k order a c (by simp)
  | j + 1, left, order, a, c, hk, hl, k => by
    have ne : left ≠ [] := fun e => by rw [e] at hk; cases hk
    rw [zWhileN]
    simp [zSeq, zIf, yT, yB, yVar, yC, yU, yNot, yAnd, yOr, yAndV, yOrV, yNotV, yTru, yIf, yCh, yF, yNil, yCons, yLst, yTup, yDNew, conts, fixs, cont, hold, asB, fGt, fLt, fLe, fGe, fEq, fI0, fI, fIn, fIsN, fNotN, zSet, zRet, zRetN, zPut, zDrop, zAsg, zAug, zAugS, getA, getL, asgn, give, fix, fMod, fFdiv, fAdd, fAddI, fSub, fMul, fNeg, fPow, fShl, fShr, fAnd, fOr, fXor, setAt, mutAt, Sl.put, zNext, isRef_eq, rfa, rff, rfo, fLen, fList, fTuple, fMax2, fMin2, fInt1, fSet0, fRev, fSl, ySl, yPart, yNoPart, yMt, yMs, mAppend, mPopAt, mSAdd, isLst, isSet, yRm, isTup, fIndexT, iSq, iEn, iR1, itemsD, gN, gT, gsCons, gsNil, zFor, zBreak, zCont, zRaise, yCall, yCall0, yMake, yCallN, fixM, agsOf, PV.putAll, put1, noRefs, anyP, yYes, fIsi, tyN, isiT, truD, fBits, endsOf, refPos, refsAt, notLoc, okI, okB, okN, eqvI, zForF, fgM, fgS, neL0, ne]
    refine ⟨a, b, c, left.length, rfl, by omega, by omega, fun r a c h0 h1 => ?_⟩
    have hr : r.toNat < left.length := by omega
    have si : seqIndex? r left.length = some r.toNat := seqIndex_of h0 (by omega)
    have z : order.length < sizeLine := by rw [sizeLine_eq]; omega
    have ih := book_order (E := E) (m := m) (s2 := s2) (b := b) (s5 := s5) (s6 := s6) (s7 := s7) (s8 := s8) (s9 := s9) (s10 := s10) (s11 := s11) j (left.eraseIdx r.toNat) (order ++ [left[r.toNat]]) a c (by rw [List.length_eraseIdx_of_lt hr]; omega) (by rw [List.length_eraseIdx_of_lt hr]; simp; omega) (fun o a c p => k o a c (p.trans (by
      rw [List.append_assoc]
      exact List.Perm.append_left _ (erase_perm left r.toNat hr))))
    simp [zSeq, zIf, yT, yB, yVar, yC, yU, yNot, yAnd, yOr, yAndV, yOrV, yNotV, yTru, yIf, yCh, yF, yNil, yCons, yLst, yTup, yDNew, conts, fixs, cont, hold, asB, fGt, fLt, fLe, fGe, fEq, fI0, fI, fIn, fIsN, fNotN, zSet, zRet, zRetN, zPut, zDrop, zAsg, zAug, zAugS, getA, getL, asgn, give, fix, fMod, fFdiv, fAdd, fAddI, fSub, fMul, fNeg, fPow, fShl, fShr, fAnd, fOr, fXor, setAt, mutAt, Sl.put, zNext, isRef_eq, rfa, rff, rfo, fLen, fList, fTuple, fMax2, fMin2, fInt1, fSet0, fRev, fSl, ySl, yPart, yNoPart, yMt, yMs, mAppend, mPopAt, mSAdd, isLst, isSet, yRm, isTup, fIndexT, iSq, iEn, iR1, itemsD, gN, gT, gsCons, gsNil, zFor, zBreak, zCont, zRaise, yCall, yCall0, yMake, yCallN, fixM, agsOf, PV.putAll, put1, noRefs, anyP, yYes, fIsi, tyN, isiT, truD, fBits, endsOf, refPos, refsAt, notLoc, okI, okB, okN, eqvI, zForF, fgM, fgS]
    refine ⟨⟨by omega, by omega⟩, r.toNat, by simpa using si, .int left[r.toNat], ⟨_, List.getElem?_eq_getElem hr, rfl⟩, z, ?_⟩
    rw [erase_map]
    rw [List.map_append] at ih
    exact ih
theorem book_order_N {E : PEnds} {N : Rho → Prop} {m s2 : Sl} {b : Int} {s5 s6 s7 s8 s9 s10 s11 : Sl} : ∀ (k : Nat) (left order : List Int) (a c : Int), left.length = k → order.length + left.length ≤ 60 → (∀ (order' : List Int) (a c : Int), order'.Perm (order ++ left) → N [.ref (wellD a b c), m, s2, .own (.lst []), .own (.lst (order'.map D.int)), s5, s6, s7, s8, s9, s10, s11]) →
    zWhileN (yT (yB fNe (yVar 3) (yLst yNil)))
    (zDrop (yMt mAppend (yVar 4) (yCons (yMt mPopAt (yVar 3) (yCons (yCall sp_law_draw [true, false] [] (yCons (yVar 0) (yCons (yF fLen (yCons (yVar 3) yNil)) yNil))) yNil)) yNil))) { E with nx := N } (k + 1) [.ref (wellD a b c), m, s2, .own (.lst (left.map D.int)), .own (.lst (order.map D.int)), s5, s6, s7, s8, s9, s10, s11] := book_order (E := { E with nx := N })
end Law
namespace Law
open PySem PySem.Spec PyProof.Rows L2 PV
theorem book_cut {E : PEnds} {N : Rho → Prop} {a b c s : Int} {m s3 s4 s5 s6 s7 s8 s9 s10 s11 : Sl} (g6 : isRefS s6 = false) (h0 : 1 ≤ s) (h1 : s ≤ 60) (k : ∀ (y a c : Int), 0 ≤ y → y ≤ s → N [.ref (wellD a b c), m, .frz (.int s), s3, s4, s5, .frz (.int y), s7, s8, s9, s10, s11]) :
    zSet 6 (yB fIxA (yLst (yCons (yC (.int 0)) (yCons (yC (.int 0)) (yCons (yCall sp_law_draw [true, false] [] (yCons (yVar 0) (yCons (yB fAdd (yVar 2) (yC (.int 1))) yNil))) yNil)))) (yCall sp_law_draw [true, false] [] (yCons (yVar 0) (yCons (yC (.int 3)) yNil)))) { E with nx := N } [.ref (wellD a b c), m, .frz (.int s), s3, s4, s5, s6, s7, s8, s9, s10, s11] := by
  have z6 : 3 ≤ sizeLine := by rw [sizeLine_eq]; omega
  simp [zSeq, zIf, yT, yB, yVar, yC, yU, yNot, yAnd, yOr, yAndV, yOrV, yNotV, yTru, yIf, yCh, yF, yNil, yCons, yLst, yTup, yDNew, conts, fixs, cont, hold, asB, fGt, fLt, fLe, fGe, fEq, fNe, fI0, fI, fIn, fIsN, fNotN, zSet, zRet, zRetN, zPut, zDrop, zAsg, zAug, zAugS, getA, getL, asgn, give, fix, fMod, fFdiv, fAdd, fAddI, fSub, fMul, fNeg, fPow, fShl, fShr, fAnd, fOr, fXor, setAt, mutAt, Sl.put, zNext, isRef_eq, rfa, rff, rfo, fLen, fList, fTuple, fMax2, fMin2, fInt1, fSet0, fRev, fSl, ySl, yPart, yNoPart, yMt, yMs, mAppend, mPopAt, mSAdd, isLst, isSet, yRm, isTup, fIndexT, iSq, iEn, iR1, itemsD, gN, gT, gsCons, gsNil, zFor, zBreak, zCont, zRaise, yCall, yCall0, yMake, yCallN, fixM, agsOf, PV.putAll, put1, noRefs, anyP, yYes, fIsi, tyN, isiT, truD, fBits, endsOf, refPos, refsAt, notLoc, okI, okB, okN, eqvI, zForF, fgM, fgS]
  refine ⟨a, b, c, s + 1, rfl, by omega, by omega, fun r1 a c e0 e1 => ?_⟩
  simp [zSeq, zIf, yT, yB, yVar, yC, yU, yNot, yAnd, yOr, yAndV, yOrV, yNotV, yTru, yIf, yCh, yF, yNil, yCons, yLst, yTup, yDNew, conts, fixs, cont, hold, asB, fGt, fLt, fLe, fGe, fEq, fNe, fI0, fI, fIn, fIsN, fNotN, zSet, zRet, zRetN, zPut, zDrop, zAsg, zAug, zAugS, getA, getL, asgn, give, fix, fMod, fFdiv, fAdd, fAddI, fSub, fMul, fNeg, fPow, fShl, fShr, fAnd, fOr, fXor, setAt, mutAt, Sl.put, zNext, isRef_eq, rfa, rff, rfo, fLen, fList, fTuple, fMax2, fMin2, fInt1, fSet0, fRev, fSl, ySl, yPart, yNoPart, yMt, yMs, mAppend, mPopAt, mSAdd, isLst, isSet, yRm, isTup, fIndexT, iSq, iEn, iR1, itemsD, gN, gT, gsCons, gsNil, zFor, zBreak, zCont, zRaise, yCall, yCall0, yMake, yCallN, fixM, agsOf, PV.putAll, put1, noRefs, anyP, yYes, fIsi, tyN, isiT, truD, fBits, endsOf, refPos, refsAt, notLoc, okI, okB, okN, eqvI, zForF, fgM, fgS, z6]
  refine ⟨a, b, c, 3, rfl, by omega, by omega, fun r2 a c e2 e3 => ?_⟩
  refine ix_mem e2 (by simpa using e3) (fun x hx => ?_)
  obtain ⟨d, rfl, d1, d2⟩ : ∃ d : Int, x = .int d ∧ 0 ≤ d ∧ d ≤ s := by
    simp at hx
    rcases hx with rfl | rfl
    · exact ⟨0, rfl, by omega, by omega⟩
    · exact ⟨r1, rfl, e0, by omega⟩
  simp [zSeq, zIf, yT, yB, yVar, yC, yU, yNot, yAnd, yOr, yAndV, yOrV, yNotV, yTru, yIf, yCh, yF, yNil, yCons, yLst, yTup, yDNew, conts, fixs, cont, hold, asB, fGt, fLt, fLe, fGe, fEq, fNe, fI0, fI, fIn, fIsN, fNotN, zSet, zRet, zRetN, zPut, zDrop, zAsg, zAug, zAugS, getA, getL, asgn, give, fix, fMod, fFdiv, fAdd, fAddI, fSub, fMul, fNeg, fPow, fShl, fShr, fAnd, fOr, fXor, setAt, mutAt, Sl.put, zNext, isRef_eq, rfa, rff, rfo, fLen, fList, fTuple, fMax2, fMin2, fInt1, fSet0, fRev, fSl, ySl, yPart, yNoPart, yMt, yMs, mAppend, mPopAt, mSAdd, isLst, isSet, yRm, isTup, fIndexT, iSq, iEn, iR1, itemsD, gN, gT, gsCons, gsNil, zFor, zBreak, zCont, zRaise, yCall, yCall0, yMake, yCallN, fixM, agsOf, PV.putAll, put1, noRefs, anyP, yYes, fIsi, tyN, isiT, truD, fBits, endsOf, refPos, refsAt, notLoc, okI, okB, okN, eqvI, zForF, fgM, fgS, g6]
  exact k d a c d1 d2
theorem book_extra {E : PEnds} {N : Rho → Prop} {a b c : Int} {m s2 s3 s4 s5 s6 s7 s8 s9 s10 s11 : Sl} (g7 : isRefS s7 = false) (k : ∀ (y a c : Int), 1 ≤ y → y ≤ 6 → N [.ref (wellD a b c), m, s2, s3, s4, s5, s6, .frz (.int y), s8, s9, s10, s11]) :
    zSet 7 (yB fIxA (yLst (yCons (yC (.int 2)) (yCons (yC (.int 3)) (yCons (yC (.int 4)) (yCons (yC (.int 6)) yNil))))) (yCall sp_law_draw [true, false] [] (yCons (yVar 0) (yCons (yC (.int 4)) yNil)))) { E with nx := N } [.ref (wellD a b c), m, s2, s3, s4, s5, s6, s7, s8, s9, s10, s11] := by
  have z6 : 4 ≤ sizeLine := by rw [sizeLine_eq]; omega
  simp [zSeq, zIf, yT, yB, yVar, yC, yU, yNot, yAnd, yOr, yAndV, yOrV, yNotV, yTru, yIf, yCh, yF, yNil, yCons, yLst, yTup, yDNew, conts, fixs, cont, hold, asB, fGt, fLt, fLe, fGe, fEq, fNe, fI0, fI, fIn, fIsN, fNotN, zSet, zRet, zRetN, zPut, zDrop, zAsg, zAug, zAugS, getA, getL, asgn, give, fix, fMod, fFdiv, fAdd, fAddI, fSub, fMul, fNeg, fPow, fShl, fShr, fAnd, fOr, fXor, setAt, mutAt, Sl.put, zNext, isRef_eq, rfa, rff, rfo, fLen, fList, fTuple, fMax2, fMin2, fInt1, fSet0, fRev, fSl, ySl, yPart, yNoPart, yMt, yMs, mAppend, mPopAt, mSAdd, isLst, isSet, yRm, isTup, fIndexT, iSq, iEn, iR1, itemsD, gN, gT, gsCons, gsNil, zFor, zBreak, zCont, zRaise, yCall, yCall0, yMake, yCallN, fixM, agsOf, PV.putAll, put1, noRefs, anyP, yYes, fIsi, tyN, isiT, truD, fBits, endsOf, refPos, refsAt, notLoc, okI, okB, okN, eqvI, zForF, fgM, fgS, z6]
  refine ⟨a, b, c, 4, rfl, by omega, by omega, fun r2 a c e2 e3 => ?_⟩
  refine ix_mem e2 (by simpa using e3) (fun x hx => ?_)
  obtain ⟨d, rfl, d1, d2⟩ : ∃ d : Int, x = .int d ∧ 1 ≤ d ∧ d ≤ 6 := by
    simp at hx
    rcases hx with rfl | rfl | rfl | rfl
    · exact ⟨2, rfl, by omega, by omega⟩
    · exact ⟨3, rfl, by omega, by omega⟩
    · exact ⟨4, rfl, by omega, by omega⟩
    · exact ⟨6, rfl, by omega, by omega⟩
  simp [zSeq, zIf, yT, yB, yVar, yC, yU, yNot, yAnd, yOr, yAndV, yOrV, yNotV, yTru, yIf, yCh, yF, yNil, yCons, yLst, yTup, yDNew, conts, fixs, cont, hold, asB, fGt, fLt, fLe, fGe, fEq, fNe, fI0, fI, fIn, fIsN, fNotN, zSet, zRet, zRetN, zPut, zDrop, zAsg, zAug, zAugS, getA, getL, asgn, give, fix, fMod, fFdiv, fAdd, fAddI, fSub, fMul, fNeg, fPow, fShl, fShr, fAnd, fOr, fXor, setAt, mutAt, Sl.put, zNext, isRef_eq, rfa, rff, rfo, fLen, fList, fTuple, fMax2, fMin2, fInt1, fSet0, fRev, fSl, ySl, yPart, yNoPart, yMt, yMs, mAppend, mPopAt, mSAdd, isLst, isSet, yRm, isTup, fIndexT, iSq, iEn, iR1, itemsD, gN, gT, gsCons, gsNil, zFor, zBreak, zCont, zRaise, yCall, yCall0, yMake, yCallN, fixM, agsOf, PV.putAll, put1, noRefs, anyP, yYes, fIsi, tyN, isiT, truD, fBits, endsOf, refPos, refsAt, notLoc, okI, okB, okN, eqvI, zForF, fgM, fgS, g7]
  exact k d a c d1 d2
end Law
namespace Law
open PySem PySem.Spec PyProof.Rows L2 PV
/-- a row is drawn -/
theorem book_row {E : PEnds} {b s cut : Int} {order : List Int} {m s3 s5 s7 s8 : Sl} {i : Int} (h0 : 1 ≤ s) (h1 : s ≤ 60) (c0 : 0 ≤ cut) (c1 : cut ≤ s) (ol : (order.length : Int) = s) : ∀ (js : List D) (a c : Int) (sm : List Int) (s11 : Sl), isRefS s11 = false → sm.length + js.length ≤ 1000 → sm ≠ [] → (∀ x ∈ sm, x ∈ order) →
    (∀ (sm2 : List Int) (a c : Int) (s11 : Sl), isRefS s11 = false → (∀ x ∈ sm2, x ∈ order) → (∀ x ∈ sm, x ∈ sm2) → sm2.length ≤ 1000 → E.nx [.ref (wellD a b c), m, .frz (.int s), s3, .own (.lst (order.map D.int)), s5, .frz (.int cut), s7, s8, .frz (.int i), .own (.lst (sm2.map D.int)), s11]) →
    zForL (gN 11) (zDrop (yMt mAppend (yVar 10) (yCons (yB fIxA (yVar 4) (yCall sp_law_draw [true, false] [] (yCons (yVar 0) (yCons (yB fIxA (yLst (yCons (yVar 2) (yCons (yF fMax2 (yCons (yC (.int 1)) (yCons (yVar 6) yNil))) yNil))) (yF fInt1 (yCons (yB fLt (yVar 9) (yVar 6)) yNil))) yNil)))) yNil))) E js
      [.ref (wellD a b c), m, .frz (.int s), s3, .own (.lst (order.map D.int)), s5, .frz (.int cut), s7, s8, .frz (.int i), .own (.lst (sm.map D.int)), s11]
  | [], a, c, sm, s11, g, hl, hne, hs, k => k sm a c s11 g hs (fun x h => h) (by omega)
  | j :: js, a, c, sm, s11, g, hl, hne, hs, k => by
    have z2 : 2 ≤ sizeLine := by decide
    rw [List.length_cons] at hl
    have z : sm.length < sizeLine := by rw [sizeLine_eq]; omega
    simp [zForL, zSeq, zIf, yT, yB, yVar, yC, yU, yNot, yAnd, yOr, yAndV, yOrV, yNotV, yTru, yIf, yCh, yF, yNil, yCons, yLst, yTup, yDNew, conts, fixs, cont, hold, asB, fGt, fLt, fLe, fGe, fEq, fNe, fI0, fI, fIn, fIsN, fNotN, zSet, zRet, zRetN, zPut, zDrop, zAsg, zAug, zAugS, getA, getL, asgn, give, fix, fMod, fFdiv, fAdd, fAddI, fSub, fMul, fNeg, fPow, fShl, fShr, fAnd, fOr, fXor, setAt, mutAt, Sl.put, zNext, isRef_eq, rfa, rff, rfo, fLen, fList, fTuple, fMax2, fMin2, fInt1, fSet0, fRev, fSl, ySl, yPart, yNoPart, yMt, yMs, mAppend, mPopAt, mSAdd, isLst, isSet, yRm, isTup, fIndexT, iSq, iEn, iR1, itemsD, gN, gT, gsCons, gsNil, zFor, zBreak, zCont, zRaise, yCall, yCall0, yMake, yCallN, fixM, agsOf, PV.putAll, put1, noRefs, anyP, yYes, fIsi, tyN, isiT, truD, fBits, endsOf, refPos, refsAt, notLoc, okI, okB, okN, eqvI, zForF, fgM, fgS, g, z2]
    refine ix_mem (by split <;> omega) (by simp; split <;> omega) (fun x hx => ?_)
    obtain ⟨d, rfl, d1, d2⟩ : ∃ d : Int, x = .int d ∧ 1 ≤ d ∧ d ≤ s := by
      simp at hx
      rcases hx with rfl | rfl
      · exact ⟨s, rfl, h0, by omega⟩
      · exact ⟨max 1 cut, rfl, by omega, by omega⟩
    simp [zSeq, zIf, yT, yB, yVar, yC, yU, yNot, yAnd, yOr, yAndV, yOrV, yNotV, yTru, yIf, yCh, yF, yNil, yCons, yLst, yTup, yDNew, conts, fixs, cont, hold, asB, fGt, fLt, fLe, fGe, fEq, fNe, fI0, fI, fIn, fIsN, fNotN, zSet, zRet, zRetN, zPut, zDrop, zAsg, zAug, zAugS, getA, getL, asgn, give, fix, fMod, fFdiv, fAdd, fAddI, fSub, fMul, fNeg, fPow, fShl, fShr, fAnd, fOr, fXor, setAt, mutAt, Sl.put, zNext, isRef_eq, rfa, rff, rfo, fLen, fList, fTuple, fMax2, fMin2, fInt1, fSet0, fRev, fSl, ySl, yPart, yNoPart, yMt, yMs, mAppend, mPopAt, mSAdd, isLst, isSet, yRm, isTup, fIndexT, iSq, iEn, iR1, itemsD, gN, gT, gsCons, gsNil, zFor, zBreak, zCont, zRaise, yCall, yCall0, yMake, yCallN, fixM, agsOf, PV.putAll, put1, noRefs, anyP, yYes, fIsi, tyN, isiT, truD, fBits, endsOf, refPos, refsAt, notLoc, okI, okB, okN, eqvI, zForF, fgM, fgS]
    refine ⟨a, b, c, d, rfl, by omega, by omega, fun r a c e0 e1 => ?_⟩
    refine ix_mem e0 (by simp; omega) (fun x hx => ?_)
    obtain ⟨y, hy, rfl⟩ := List.mem_map.mp hx
    have ih := book_row (E := E) (b := b) (m := m) (s3 := s3) (s5 := s5) (s7 := s7) (s8 := s8) (i := i) h0 h1 c0 c1 ol js a c (sm ++ [y]) (.frz j) rfl (by simp; omega) (by simp) (fun x hx => by
      rcases List.mem_append.mp hx with hx | hx
      · exact hs x hx
      · rw [List.mem_singleton.mp hx]; exact hy) (fun o a c s11 g1 g2 g3 g4 => k o a c s11 g1 g2 (fun x hx => g3 x (List.mem_append_left _ hx)) g4)
    simp [zSeq, zIf, yT, yB, yVar, yC, yU, yNot, yAnd, yOr, yAndV, yOrV, yNotV, yTru, yIf, yCh, yF, yNil, yCons, yLst, yTup, yDNew, conts, fixs, cont, hold, asB, fGt, fLt, fLe, fGe, fEq, fNe, fI0, fI, fIn, fIsN, fNotN, zSet, zRet, zRetN, zPut, zDrop, zAsg, zAug, zAugS, getA, getL, asgn, give, fix, fMod, fFdiv, fAdd, fAddI, fSub, fMul, fNeg, fPow, fShl, fShr, fAnd, fOr, fXor, setAt, mutAt, Sl.put, zNext, isRef_eq, rfa, rff, rfo, fLen, fList, fTuple, fMax2, fMin2, fInt1, fSet0, fRev, fSl, ySl, yPart, yNoPart, yMt, yMs, mAppend, mPopAt, mSAdd, isLst, isSet, yRm, isTup, fIndexT, iSq, iEn, iR1, itemsD, gN, gT, gsCons, gsNil, zFor, zBreak, zCont, zRaise, yCall, yCall0, yMake, yCallN, fixM, agsOf, PV.putAll, put1, noRefs, anyP, yYes, fIsi, tyN, isiT, truD, fBits, endsOf, refPos, refsAt, notLoc, okI, okB, okN, eqvI, zForF, fgM, fgS, z]
    rw [List.map_append] at ih
    exact ih
end Law
namespace Law
open PySem PySem.Spec PyProof.Rows L2 PV
theorem book_many {E : PEnds} {N : Rho → Prop} {a b c s : Int} {m s3 s4 s5 s6 s7 s8 s9 s10 s11 : Sl} (g5 : isRefS s5 = false) (h0 : 1 ≤ s) (h1 : s ≤ 60) (k : ∀ (y a c : Int), 0 ≤ y → y ≤ s → N [.ref (wellD a b c), m, .frz (.int s), s3, s4, .frz (.int y), s6, s7, s8, s9, s10, s11]) :
    zSet 5 (yF fMax2 (yCons (yC (.int 0)) (yCons (yB fSub (yVar 2) (yB fIxA (yLst (yCons (yC (.int 1)) (yCons (yC (.int 1)) (yCons (yC (.int 0)) (yCons (yC (.int 2)) (yCons (yC (.int 3)) (yCons (yCall sp_law_draw [true, false] [] (yCons (yVar 0) (yCons (yB fAdd (yVar 2) (yC (.int 1))) yNil))) yNil))))))) (yCall sp_law_draw [true, false] [] (yCons (yVar 0) (yCons (yC (.int 6)) yNil))))) yNil))) { E with nx := N } [.ref (wellD a b c), m, .frz (.int s), s3, s4, s5, s6, s7, s8, s9, s10, s11] := by
  have z6 : 6 ≤ sizeLine := by rw [sizeLine_eq]; omega
  refine ⟨rfl, a, b, c, s + 1, rfl, by omega, by omega, fun r1 a c e0 e1 => ?_⟩
  refine ⟨z6, rfl, a, b, c, 6, rfl, by omega, by omega, fun r2 a c e2 e3 => ?_⟩
  simp only [PV.putAll, put1, List.getElem?_cons_zero, Sl.put, List.set_cons_zero, hold, cont]
  refine ix_mem (ds := [.int 1, .int 1, .int 0, .int 2, .int 3, .int r1]) e2 (by simpa using e3) (fun x hx => ?_)
  obtain ⟨d, rfl, d1⟩ : ∃ d : Int, x = .int d ∧ 0 ≤ d := by
    simp at hx
    rcases hx with rfl | rfl | rfl | rfl | rfl
    · exact ⟨1, rfl, by omega⟩
    · exact ⟨0, rfl, by omega⟩
    · exact ⟨2, rfl, by omega⟩
    · exact ⟨3, rfl, by omega⟩
    · exact ⟨r1, rfl, e0⟩
  have g : isRef [.ref (wellD a b c), m, .frz (.int s), s3, s4, s5, s6, s7, s8, s9, s10, s11] 5 = false := by rw [isRef_eq]; exact g5
  exact ⟨g, k (max 0 (s - d)) a c (by omega) (by omega)⟩
end Law
namespace Law
open PySem PySem.Spec PyProof.Rows L2 PV
/-! ### sorted(set(..)) -/
theorem mem_srt {sm : List Int} {x : Int} : x ∈ isort (nub sm) ↔ x ∈ sm := by rw [(isort_perm (nub sm)).mem_iff, mem_nub]
theorem srt_up (sm : List Int) : (isort (nub sm)).Pairwise (· < ·) := by
  have h1 := isort_sorted (nub sm)
  have h2 : (isort (nub sm)).Nodup := (isort_perm (nub sm)).nodup_iff.mpr (nub_nodup sm)
  exact (List.Pairwise.and h1 h2).imp fun {a b} h => by
    have := h.1
    have := h.2
    omega
theorem row_ok {n : Int} {sm : List Int} (hne : sm ≠ []) (hr : ∀ x ∈ sm, 0 ≤ x ∧ x < n) : RowOk n (isort (nub sm)) := by
  refine ⟨srt_up sm, fun s hs => (hr s (mem_srt.mp hs)).1, fun s hs => (hr s (mem_srt.mp hs)).2, fun e => ?_⟩
  cases sm with
  | nil => exact hne rfl
  | cons a r =>
    have : a ∈ isort (nub (a :: r)) := mem_srt.mpr List.mem_cons_self
    rw [e] at this
    cases this
end Law
namespace Law
open PySem PySem.Spec PyProof.Rows L2 PV
theorem get_rangeD {y : Int} {k : Nat} {x : D} (h : (rangeD 0 y)[k]? = some x) : x = .int (k : Nat) ∧ (k : Int) < y := by
  unfold rangeD at h
  rw [List.getElem?_map] at h
  cases e : (List.range (y - 0).toNat)[k]? with
  | none => rw [e] at h; cases h
  | some j =>
    rw [e] at h
    obtain ⟨h1, h2⟩ := List.getElem?_eq_some_iff.mp e
    rw [List.getElem_range] at h2
    rw [List.length_range] at h1
    subst h2
    cases h
    exact ⟨by simp, by omega⟩
theorem len_rangeD {y : Int} : (rangeD 0 y).length = y.toNat := by simp [rangeD]
theorem book_rows {E : PEnds} {N : Rho → Prop} {b s cut y extra : Int} {order : List Int} {m s3 : Sl} (h0 : 1 ≤ s) (h1 : s ≤ 60) (c0 : 0 ≤ cut) (c1 : cut ≤ s) (x1 : 1 ≤ extra) (x6 : extra ≤ 6) (ol : (order.length : Int) = s) (or_ : ∀ x ∈ order, 0 ≤ x ∧ x < s) (y0 : 0 ≤ y) (y1 : y ≤ s) {a c : Int} {s9 s10 s11 : Sl} (g9 : isRefS s9 = false) (g10 : isRefS s10 = false) (g11 : isRefS s11 = false)
    (hn : ∀ (a c : Int) (rows : List (List Int)) (s9 s10 s11 : Sl), rows.length = y.toNat → (∀ r ∈ rows, RowOk s r) → (∀ (i : Nat) (r : List Int), rows[i]? = some r → ∃ x, order[i]? = some x ∧ x ∈ r) → N [.ref (wellD a b c), m, .frz (.int s), s3, .own (.lst (order.map D.int)), .frz (.int y), .frz (.int cut), .frz (.int extra), .own (.lst (rows.map rowL)), s9, s10, s11]) :
    zFor (iR1 (yVar 5)) (gN 9)
    (zSeq (zSet 10 (yLst (yCons (yB fIxA (yVar 4) (yVar 9)) yNil)))
    (zSeq (zFor (iR1 (yCall sp_law_draw [true, false] [] (yCons (yVar 0) (yCons (yVar 7) yNil)))) (gN 11)
    (zDrop (yMt mAppend (yVar 10) (yCons (yB fIxA (yVar 4) (yCall sp_law_draw [true, false] [] (yCons (yVar 0) (yCons (yB fIxA (yLst (yCons (yVar 2) (yCons (yF fMax2 (yCons (yC (.int 1)) (yCons (yVar 6) yNil))) yNil))) (yF fInt1 (yCons (yB fLt (yVar 9) (yVar 6)) yNil))) yNil)))) yNil))))
    (zDrop (yMt mAppend (yVar 8) (yCons (yF fSorted (yCons (yF fSetOf (yCons (yVar 10) yNil)) yNil)) yNil)))))
    { E with nx := N } [.ref (wellD a b c), m, .frz (.int s), s3, .own (.lst (order.map D.int)), .frz (.int y), .frz (.int cut), .frz (.int extra), .own (.lst []), s9, s10, s11] := by
  simp [zSeq, zIf, yT, yB, yVar, yC, yU, yNot, yAnd, yOr, yAndV, yOrV, yNotV, yTru, yIf, yCh, yF, yNil, yCons, yLst, yTup, yDNew, conts, fixs, cont, hold, asB, fGt, fLt, fLe, fGe, fEq, fNe, fI0, fI, fIn, fIsN, fNotN, zSet, zRet, zRetN, zPut, zDrop, zAsg, zAug, zAugS, getA, getL, asgn, give, fix, fMod, fFdiv, fAdd, fAddI, fSub, fMul, fNeg, fPow, fShl, fShr, fAnd, fOr, fXor, setAt, mutAt, Sl.put, zNext, isRef_eq, rfa, rff, rfo, fLen, fList, fTuple, fMax2, fMin2, fInt1, fSet0, fRev, fSl, ySl, yPart, yNoPart, yMt, yMs, mAppend, mPopAt, mSAdd, isLst, isSet, yRm, isTup, fIndexT, iSq, iEn, iR1, itemsD, gN, gT, gsCons, gsNil, zFor, zBreak, zCont, zRaise, yCall, yCall0, yMake, yCallN, fixM, agsOf, PV.putAll, put1, noRefs, anyP, yYes, fIsi, tyN, isiT, truD, fBits, endsOf, refPos, refsAt, notLoc, okI, okB, okN, eqvI, zForF, fgM, fgS]
  refine ⟨⟨by omega, by omega⟩, ?_⟩
  refine for_inv (fun k ρ => ∃ (a c : Int) (rows : List (List Int)) (s9 s10 s11 : Sl), ρ = [.ref (wellD a b c), m, .frz (.int s), s3, .own (.lst (order.map D.int)), .frz (.int y), .frz (.int cut), .frz (.int extra), .own (.lst (rows.map rowL)), s9, s10, s11] ∧ isRefS s9 = false ∧ isRefS s10 = false ∧ isRefS s11 = false ∧
    rows.length = k ∧ (∀ r ∈ rows, RowOk s r) ∧ (∀ (i : Nat) (r : List Int), rows[i]? = some r → ∃ x, order[i]? = some x ∧ x ∈ r)) ⟨a, c, [], s9, s10, s11, rfl, g9, g10, g11, rfl, by simp, by simp⟩ ?_ ?_
  · rintro k x ρ hx ⟨a, c, rows, s9, s10, s11, rfl, g9, g10, g11, hk, hr, hm⟩ N hN
    obtain ⟨rfl, hy⟩ := get_rangeD hx
    have hk2 : k < order.length := by omega
    have ek : order[k]? = some order[k] := List.getElem?_eq_getElem hk2
    have z1 : 1 ≤ sizeLine := by decide
    have zr : rows.length < sizeLine := by rw [sizeLine_eq]; omega
    simp [zSeq, zIf, yT, yB, yVar, yC, yU, yNot, yAnd, yOr, yAndV, yOrV, yNotV, yTru, yIf, yCh, yF, yNil, yCons, yLst, yTup, yDNew, conts, fixs, cont, hold, asB, fGt, fLt, fLe, fGe, fEq, fNe, fI0, fI, fIxA, fIx, fDGet, fIn, fIsN, fNotN, atI, ixN, zSet, zRet, zRetN, zPut, zDrop, zAsg, zAug, zAugS, getA, getL, asgn, give, fix, fMod, fFdiv, fAdd, fAddI, fSub, fMul, fNeg, fPow, fShl, fShr, fAnd, fOr, fXor, setAt, mutAt, uSet, uSetL, uSetD, Sl.put, zNext, isRef_eq, rfa, rff, rfo, fLen, fList, fTuple, fMax2, fMin2, fInt1, fSet0, fRev, fSl, ySl, yPart, yNoPart, yMt, yMs, mAppend, mPopAt, mSAdd, isLst, isSet, yRm, isTup, fIndexT, iSq, iEn, iR1, itemsD, gN, gT, gsCons, gsNil, zFor, zBreak, zCont, zRaise, yCall, yCall0, yMake, yCallN, fixM, agsOf, PV.putAll, put1, noRefs, anyP, yYes, fIsi, tyN, isiT, truD, fBits, endsOf, refPos, refsAt, notLoc, okI, okB, okN, eqvI, zForF, fgM, fgS, g9, g10, hk2, z1]
    refine ⟨a, b, c, extra, rfl, by omega, by omega, fun r a c e0 e1 => ?_⟩
    simp [zSeq, zIf, yT, yB, yVar, yC, yU, yNot, yAnd, yOr, yAndV, yOrV, yNotV, yTru, yIf, yCh, yF, yNil, yCons, yLst, yTup, yDNew, conts, fixs, cont, hold, asB, fGt, fLt, fLe, fGe, fEq, fNe, fI0, fI, fIn, fIsN, fNotN, zSet, zRet, zRetN, zPut, zDrop, zAsg, zAug, zAugS, getA, getL, asgn, give, fix, fMod, fFdiv, fAdd, fAddI, fSub, fMul, fNeg, fPow, fShl, fShr, fAnd, fOr, fXor, setAt, mutAt, Sl.put, zNext, isRef_eq, rfa, rff, rfo, fLen, fList, fTuple, fMax2, fMin2, fInt1, fSet0, fRev, fSl, ySl, yPart, yNoPart, yMt, yMs, mAppend, mPopAt, mSAdd, isLst, isSet, yRm, isTup, fIndexT, iSq, iEn, iR1, itemsD, gN, gT, gsCons, gsNil, zFor, zBreak, zCont, zRaise, yCall, yCall0, yMake, yCallN, fixM, agsOf, PV.putAll, put1, noRefs, anyP, yYes, fIsi, tyN, isiT, truD, fBits, endsOf, refPos, refsAt, notLoc, okI, okB, okN, eqvI, zForF, fgM, fgS]
    refine ⟨⟨by omega, by omega⟩, ?_⟩
    refine book_row (sm := [order[k]]) h0 h1 c0 c1 ol _ a c s11 g11 (by simp [len_rangeD]; omega) (by simp) (by simp [List.getElem_mem]) (fun sm a c t11 g11 hin hsub hlen => ?_)
    have hne : sm ≠ [] := List.ne_nil_of_mem (hsub order[k] (by simp))
    have zs : sm.length + 1 < scanBound := by rw [sb]; omega
    simp [zSeq, zIf, yT, yB, yVar, yC, yU, yNot, yAnd, yOr, yAndV, yOrV, yNotV, yTru, yIf, yCh, yF, yNil, yCons, yLst, yTup, yDNew, conts, fixs, cont, hold, asB, fGt, fLt, fLe, fGe, fEq, fNe, fI0, fI, fIn, fIsN, fNotN, zSet, zRet, zRetN, zPut, zDrop, zAsg, zAug, zAugS, getA, getL, asgn, give, fix, fMod, fFdiv, fAdd, fAddI, fSub, fMul, fNeg, fPow, fShl, fShr, fAnd, fOr, fXor, setAt, mutAt, Sl.put, zNext, isRef_eq, rfa, rff, rfo, fLen, fList, fTuple, fMax2, fMin2, fInt1, fSet0, fRev, fSl, ySl, yPart, yNoPart, yMt, yMs, mAppend, mPopAt, mSAdd, isLst, isSet, yRm, isTup, fIndexT, iSq, iEn, iR1, itemsD, gN, gT, gsCons, gsNil, zFor, zBreak, zCont, zRaise, yCall, yCall0, yMake, yCallN, fixM, agsOf, PV.putAll, put1, noRefs, anyP, yYes, fIsi, tyN, isiT, truD, fBits, endsOf, refPos, refsAt, notLoc, okI, okB, okN, eqvI, zForF, fgM, fgS, zr]
    refine ⟨sm, .inl rfl, zs, ?_⟩
    simp [zSeq, zIf, yT, yB, yVar, yC, yU, yNot, yAnd, yOr, yAndV, yOrV, yNotV, yTru, yIf, yCh, yF, yNil, yCons, yLst, yTup, yDNew, conts, fixs, cont, hold, asB, fGt, fLt, fLe, fGe, fEq, fNe, fI0, fI, fIn, fIsN, fNotN, zSet, zRet, zRetN, zPut, zDrop, zAsg, zAug, zAugS, getA, getL, asgn, give, fix, fMod, fFdiv, fAdd, fAddI, fSub, fMul, fNeg, fPow, fShl, fShr, fAnd, fOr, fXor, setAt, mutAt, Sl.put, zNext, isRef_eq, rfa, rff, rfo, fLen, fList, fTuple, fMax2, fMin2, fInt1, fSet0, fRev, fSl, ySl, yPart, yNoPart, yMt, yMs, mAppend, mPopAt, mSAdd, isLst, isSet, yRm, isTup, fIndexT, iSq, iEn, iR1, itemsD, gN, gT, gsCons, gsNil, zFor, zBreak, zCont, zRaise, yCall, yCall0, yMake, yCallN, fixM, agsOf, PV.putAll, put1, noRefs, anyP, yYes, fIsi, tyN, isiT, truD, fBits, endsOf, refPos, refsAt, notLoc, okI, okB, okN, eqvI, zForF, fgM, fgS, zr]
    refine ⟨nub sm, .inr (.inl ⟨rfl, ?_⟩), ?_⟩
    · have := List.Nodup.length_le_of_subset (nub_nodup sm) (fun x hx => hin x (mem_nub.mp hx))
      omega
    · simp [zSeq, zIf, yT, yB, yVar, yC, yU, yNot, yAnd, yOr, yAndV, yOrV, yNotV, yTru, yIf, yCh, yF, yNil, yCons, yLst, yTup, yDNew, conts, fixs, cont, hold, asB, fGt, fLt, fLe, fGe, fEq, fNe, fI0, fI, fIn, fIsN, fNotN, zSet, zRet, zRetN, zPut, zDrop, zAsg, zAug, zAugS, getA, getL, asgn, give, fix, fMod, fFdiv, fAdd, fAddI, fSub, fMul, fNeg, fPow, fShl, fShr, fAnd, fOr, fXor, setAt, mutAt, Sl.put, zNext, isRef_eq, rfa, rff, rfo, fLen, fList, fTuple, fMax2, fMin2, fInt1, fSet0, fRev, fSl, ySl, yPart, yNoPart, yMt, yMs, mAppend, mPopAt, mSAdd, isLst, isSet, yRm, isTup, fIndexT, iSq, iEn, iR1, itemsD, gN, gT, gsCons, gsNil, zFor, zBreak, zCont, zRaise, yCall, yCall0, yMake, yCallN, fixM, agsOf, PV.putAll, put1, noRefs, anyP, yYes, fIsi, tyN, isiT, truD, fBits, endsOf, refPos, refsAt, notLoc, okI, okB, okN, eqvI, zForF, fgM, fgS, zr]
      refine hN _ ⟨a, c, rows ++ [isort (nub sm)], _, _, _, by rw [List.map_append]; rfl, by rfl, by rfl, g11, by simp [hk], fun r hr' => ?_, fun i r hi => ?_⟩
      · rcases List.mem_append.mp hr' with hr' | hr'
        · exact hr r hr'
        · rw [List.mem_singleton.mp hr']
          exact row_ok hne fun x hx => or_ x (hin x hx)
      · rcases Nat.lt_or_ge i rows.length with z | z
        · rw [List.getElem?_append_left z] at hi
          exact hm i r hi
        · rw [List.getElem?_append_right z] at hi
          have : i - rows.length = 0 := by
            rcases Nat.eq_zero_or_pos (i - rows.length) with w | w
            · exact w
            · rw [List.getElem?_eq_none (by simp; omega)] at hi; cases hi
          rw [this] at hi
          have hi : isort (nub sm) = r := by simpa using hi
          have : i = k := by omega
          subst this
          exact ⟨_, ek, hi ▸ mem_srt.mpr (hsub _ (by simp))⟩
  · rintro ρ ⟨a, c, rows, s9, s10, s11, rfl, g9, g10, g11, hk, hr, hm⟩
    exact hn a c rows s9 s10 s11 (by rw [hk, len_rangeD]) hr hm
end Law
namespace Law
open PySem PySem.Spec PyProof.Rows L2 PV
theorem seq_i {t u : TPs} {E : PEnds} {ρ : Rho} (h : t { E with nx := u E } ρ) : zSeq t u E ρ := h
theorem set_nil {E : PEnds} {N : Rho → Prop} {ρ : Rho} {i : Nat} (h : isRef ρ i = false) (k : N (ρ.set i (.own (.lst [])))) : zSet i (yLst yNil) { E with nx := N } ρ := ⟨Nat.zero_le _, h, k⟩
theorem map_cut {α : Type} {f : α → D} {l : List α} {y : Nat} : PV.cutD (l.map f) none (some (y : Int)) = (l.take y).map f := by
  have e : HT.sIx (l.map f).length (l.map f).length (some (y : Int)) = min y l.length := by
    simp only [HT.sIx, List.length_map]
    rw [if_neg (by omega)]
    rfl
  have e0 : HT.sIx (l.map f).length 0 none = 0 := rfl
  unfold PV.cutD
  rw [e, e0]
  rcases Nat.le_total y l.length with h | h
  · rw [Nat.min_eq_left h]; simp
  · rw [Nat.min_eq_right h, List.take_of_length_le h, Nat.sub_zero, List.drop_zero, List.take_of_length_le (by simp)]
theorem pure_law_book : ∀ as q e, sp_law_book as q e → t_law_book (endsOf (refPos 0 as) q e) (entry 12 as) := by
  rintro as q e ⟨a, b, c, m, rfl, h0, h1, k⟩
  show t_law_book _ [.ref (wellD a b c), .frz (.int m), .any, .any, .any, .any, .any, .any, .any, .any, .any, .any]
  refine seq_i (book_slots rfl h0 h1 fun s a c s0 s1 => ?_)
  refine seq_i (book_left rfl s0 (by omega) ?_)
  refine seq_i (set_nil (by rfl) ?_)
  simp only [List.set_cons_succ, List.set_cons_zero]
  refine seq_i ⟨_, book_order_N s.toNat ((List.range s.toNat).map fun i : Nat => (i : Int)) [] a c (by simp) (by simp; omega) fun order a c pm => ?_⟩
  have hol : (order.length : Int) = s := by
    have := pm.length_eq
    simp at this
    omega
  have hor : ∀ x ∈ order, 0 ≤ x ∧ x < s := fun x hx => by
    have := pm.mem_iff.mp hx
    simp at this
    omega
  have hnd : order.Nodup := by
    refine pm.nodup_iff.mpr ?_
    rw [List.nil_append]
    have := List.nodup_range (n := s.toNat)
    exact List.Pairwise.map _ (fun a b h e => h (by omega)) this
  refine seq_i (book_many rfl s0 (by omega) fun y a c y0 y1 => ?_)
  refine seq_i (book_cut rfl s0 (by omega) fun cut a c c0 c1 => ?_)
  refine seq_i (book_extra rfl fun x a c x0 x1 => ?_)
  refine seq_i (set_nil (by rfl) ?_)
  simp only [List.set_cons_succ, List.set_cons_zero]
  refine seq_i (book_rows (a := a) (c := c) (s9 := .any) (s10 := .any) (s11 := .any) s0 (by omega) c0 c1 x0 x1 hol hor y0 y1 rfl rfl rfl fun a c rows s9 s10 s11 hl hr hm => ?_)
  have ey : ((y.toNat : Nat) : Int) = y := by omega
  have ht : (order.take y.toNat).length = y.toNat := by rw [List.length_take]; omega
  have z3 : 3 ≤ sizeLine := by decide
  have := k s rows (order.take y.toNat) a c ⟨s0, by omega, by rw [hl]; omega, hr⟩ ⟨by rw [ht, hl], fun i t r ht hr => (by
    obtain ⟨x, e1, e2⟩ := hm i r hr
    rw [List.getElem?_take] at ht
    split at ht
    · rw [e1] at ht; cases ht; exact e2
    · cases ht), hnd.sublist (List.take_sublist _ _)⟩ s1
  have ec : PV.cutD (order.map D.int) none (some y) = (order.take y.toNat).map D.int := by rw [← ey]; exact map_cut
  unfold ttD at this
  rw [← ec] at this
  simpa [zSeq, zIf, yT, yB, yVar, yC, yU, yNot, yAnd, yOr, yAndV, yOrV, yNotV, yTru, yIf, yCh, yF, yNil, yCons, yLst, yTup, yDNew, conts, fixs, cont, hold, asB, fGt, fLt, fLe, fGe, fEq, fNe, fI0, fI, fIn, fIsN, fNotN, zSet, zRet, zRetN, zPut, zDrop, zAsg, zAug, zAugS, getA, getL, asgn, give, fix, fMod, fFdiv, fAdd, fAddI, fSub, fMul, fNeg, fPow, fShl, fShr, fAnd, fOr, fXor, setAt, mutAt, Sl.put, zNext, isRef_eq, rfa, rff, rfo, fLen, fList, fTuple, fMax2, fMin2, fInt1, fSet0, fRev, fSl, ySl, yPart, yNoPart, yMt, yMs, mAppend, mPopAt, mSAdd, isLst, isSet, yRm, isTup, fIndexT, iSq, iEn, iR1, itemsD, gN, gT, gsCons, gsNil, zFor, zBreak, zCont, zRaise, yCall, yCall0, yMake, yCallN, fixM, agsOf, PV.putAll, put1, noRefs, anyP, yYes, fIsi, tyN, isiT, truD, fBits, endsOf, refPos, refsAt, notLoc, okI, okB, okN, eqvI, zForF, fgM, fgS, z3] using this
end Law
namespace Law
open PySem PySem.Spec PyProof.Rows L2 PV
section
variable {n : Int} {rows : List (List Int)} {tt : List Int}
/-- the appointments by which the found slots grow -/
def grB (rows : List (List Int)) (tt found : List Int) (a : Nat) : Bool := decide (tt.getD a 0 ∉ found) && !(decide ((rows.getD a []).filter (fun t => decide (t ∈ found)) = []))
theorem grB_iff {found : List Int} {a : Nat} : grB rows tt found a = true ↔ tt.getD a 0 ∉ found ∧ ∃ t ∈ rows.getD a [], t ∈ found := by
  unfold grB
  simp only [Bool.and_eq_true, decide_eq_true_eq, Bool.not_eq_true', decide_eq_false_iff_not, List.filter_eq_nil_iff]
  refine and_congr_right fun _ => ?_
  constructor
  · intro h
    refine Classical.byContradiction fun c => h fun t ht z => c ⟨t, ht, z⟩
  · rintro ⟨t, h1, h2⟩ h
    exact h t h1 h2
def growF (rows : List (List Int)) (tt found : List Int) (k : Nat) : List Int := ((List.range k).filter (grB rows tt found)).map fun a => tt.getD a 0
theorem grow_mem {found : List Int} {k : Nat} {s : Int} : s ∈ growF rows tt found k ↔ ∃ a, a < k ∧ tt.getD a 0 = s ∧ s ∉ found ∧ ∃ t ∈ rows.getD a [], t ∈ found := by
  unfold growF
  rw [List.mem_map]
  constructor
  · rintro ⟨a, ha, e⟩
    obtain ⟨h1, h2⟩ := List.mem_filter.mp ha
    obtain ⟨h3, h4⟩ := grB_iff.mp h2
    exact ⟨a, List.mem_range.mp h1, e, e ▸ h3, h4⟩
  · rintro ⟨a, h1, e, h3, h4⟩
    exact ⟨a, List.mem_filter.mpr ⟨List.mem_range.mpr h1, grB_iff.mpr ⟨e ▸ h3, h4⟩⟩, e⟩
theorem grow_succ {found : List Int} {k : Nat} : growF rows tt found (k + 1) = growF rows tt found k ++ if grB rows tt found k = true then [tt.getD k 0] else [] := by
  unfold growF
  rw [List.range_succ, List.filter_append, List.map_append]
  split <;> simp [*]
theorem grow_nodup (tk : TtOk n rows tt) {found : List Int} {k : Nat} (hk : k ≤ rows.length) : (growF rows tt found k).Nodup := by
  unfold growF
  have h0 : ((List.range k).filter (grB rows tt found)).Nodup := List.Pairwise.filter _ List.nodup_range
  have key : ∀ m : List Nat, m.Nodup → (∀ a ∈ m, a < rows.length) → (m.map fun a => tt.getD a 0).Nodup := by
    intro m
    induction m with
    | nil => intros; exact List.nodup_nil
    | cons a m ih =>
      intro h1 h2
      obtain ⟨n1, n2⟩ := List.nodup_cons.mp h1
      rw [List.map_cons]
      refine List.nodup_cons.mpr ⟨fun z => ?_, ih n2 fun b hb => h2 b (List.mem_cons_of_mem _ hb)⟩
      obtain ⟨b, hb, e⟩ := List.mem_map.mp z
      exact n1 (tt_inj tk (h2 b (List.mem_cons_of_mem _ hb)) (h2 a List.mem_cons_self) e ▸ hb)
  exact key _ h0 fun a ha => by
    have := List.mem_range.mp (List.mem_filter.mp ha).1
    omega
/-- what is known of the found slots -/
structure Found (n : Int) (rows : List (List Int)) (tt found : List Int) : Prop where
  nd : found.Nodup
  rg : ∀ s ∈ found, 0 ≤ s ∧ s < n
  op : ∀ s ∈ found, Opn n rows tt s
  fr : ∀ s, 0 ≤ s → s < n → s ∉ tt → s ∈ found
theorem Found.len {found : List Int} (h : Found n rows tt found) : found.length ≤ n.toNat := by
  have := List.Nodup.length_le_of_subset h.nd (l₂ := irange n) fun s hs => mem_irange.mpr (h.rg s hs)
  rwa [irange_len] at this
theorem Found.grow (ok : BookOk n rows) (tk : TtOk n rows tt) {found : List Int} (h : Found n rows tt found) : Found n rows tt (found ++ growF rows tt found tt.length) := by
  refine ⟨List.nodup_append.mpr ⟨h.nd, grow_nodup tk (by rw [tk.len]; exact Nat.le_refl _), fun x hx y hy e => ?_⟩, fun s hs => ?_, fun s hs => ?_, fun s h1 h2 h3 => List.mem_append_left _ (h.fr s h1 h2 h3)⟩
  · subst e
    obtain ⟨a, _, _, h3, _⟩ := grow_mem.mp hy
    exact h3 hx
  · rcases List.mem_append.mp hs with hs | hs
    · exact h.rg s hs
    · obtain ⟨a, h1, e, _⟩ := grow_mem.mp hs
      exact e ▸ row_of ok (tk.at (by rw [← tk.len]; exact h1))
  · rcases List.mem_append.mp hs with hs | hs
    · exact h.op s hs
    · obtain ⟨a, h1, e, _, t, h4, h5⟩ := grow_mem.mp hs
      exact .step (a := a) (e ▸ getD_get h1) h4 (h.op t h5)
theorem Found.all (tk : TtOk n rows tt) {found : List Int} (h : Found n rows tt found) (hc : growF rows tt found tt.length = []) : isort found = openS n rows tt := by
  refine openS_of tk (isort_asc h.nd) fun s => ?_
  rw [mem_isort]
  refine ⟨h.op s, fun o => ?_⟩
  induction o with
  | free h1 h2 h3 => exact h.fr _ h1 h2 h3
  | gone h1 _ => cases h1
  | @step a s t h1 h2 h3 ih =>
    refine Classical.byContradiction fun c => ?_
    have la := (List.getElem?_eq_some_iff.mp h1).1
    have : s ∈ growF rows tt found tt.length := grow_mem.mpr ⟨a, la, get_getD h1, c, t, h2, ih⟩
    rw [hc] at this
    cases this
theorem Found.start : Found n rows tt (freeS n tt) := ⟨freeS_nodup, fun s hs => ⟨(mem_freeS.mp hs).1, (mem_freeS.mp hs).2.1⟩, fun s hs => .free (mem_freeS.mp hs).1 (mem_freeS.mp hs).2.1 (mem_freeS.mp hs).2.2, fun s h1 h2 h3 => mem_freeS.mpr ⟨h1, h2, h3⟩⟩
end
theorem pure_law_open : ∀ as q e, sp_law_open as q e → t_law_open (endsOf (refPos 0 as) q e) (entry 9 as) := by
  rintro as q e ⟨n, rows, tt, rfl, ok, tk, k⟩
  show t_law_open _ [.frz (.int n), .frz (.lst (rows.map rowL)), .frz (.tup (tt.map D.int)), .any, .any, .any, .any, .any, .any]
  have h1 := ok.n1
  have h2 := ok.n60
  have h3 := ok.len
  have tl := tk.len
  have sz := sizeLine_eq
  simp [t_law_open, zSeq, zIf, yT, yB, yVar, yC, yU, yNot, yAnd, yOr, yAndV, yOrV, yNotV, yTru, yIf, yCh, yF, yNil, yCons, yLst, yTup, yDNew, conts, fixs, cont, hold, asB, fGt, fLt, fLe, fGe, fEq, fNe, fI0, fI, fIn, fIsN, fNotN, zSet, zRet, zRetN, zPut, zDrop, zAsg, zAug, zAugS, getA, getL, asgn, give, fix, fMod, fFdiv, fAdd, fAddI, fSub, fMul, fNeg, fPow, fShl, fShr, fAnd, fOr, fXor, setAt, mutAt, Sl.put, zNext, isRef_eq, rfa, rff, rfo, fLen, fList, fTuple, fMax2, fMin2, fInt1, fSet0, fRev, fSl, ySl, yPart, yNoPart, yMt, yMs, mAppend, mPopAt, mSAdd, isLst, isSet, yRm, isTup, fIndexT, iSq, iEn, iR1, itemsD, gN, gT, gsCons, gsNil, zFor, zBreak, zCont, zRaise, yCall, yCall0, yMake, yCallN, fixM, agsOf, PV.putAll, put1, noRefs, anyP, yYes, fIsi, tyN, isiT, truD, fBits, endsOf, refPos, refsAt, notLoc, okI, okB, okN, eqvI, zForF, fgM, fgS, yTDisp, fStep, zAsg2, zFz, fz, sizeLine_eq, sb, -List.getD_eq_getElem?_getD, -List.filter_eq_nil_iff, yLc, rangeD_is]
  refine ⟨⟨by omega, by omega⟩, ?_⟩
  refine lc_of (fun s => decide (s ∉ tt)) D.int rfl (by rw [irange_len]; omega) (fun x hx K L kT kF => ?_) ?_
  · by_cases c : x ∈ tt
    · simp [zSeq, zIf, yT, yB, yVar, yC, yU, yNot, yAnd, yOr, yAndV, yOrV, yNotV, yTru, yIf, yCh, yF, yNil, yCons, yLst, yTup, yDNew, conts, fixs, cont, hold, asB, fGt, fLt, fLe, fGe, fEq, fNe, fI0, fI, fIsN, fNotN, zSet, zRet, zRetN, zPut, zDrop, zAsg, zAug, zAugS, getA, getL, asgn, give, fix, fMod, fFdiv, fAdd, fAddI, fSub, fMul, fNeg, fPow, fShl, fShr, fAnd, fOr, fXor, setAt, mutAt, Sl.put, zNext, isRef_eq, rfa, rff, rfo, fLen, fList, fTuple, fMax2, fMin2, fInt1, fSet0, fRev, fSl, ySl, yPart, yNoPart, yMt, yMs, mAppend, mPopAt, mSAdd, isLst, isSet, yRm, isTup, fIndexT, iSq, iEn, iR1, itemsD, gN, gT, gsCons, gsNil, zFor, zBreak, zCont, zRaise, yCall, yCall0, yMake, yCallN, fixM, agsOf, PV.putAll, put1, noRefs, anyP, yYes, fIsi, tyN, isiT, truD, fBits, endsOf, refPos, refsAt, notLoc, okI, okB, okN, eqvI, zForF, fgM, fgS, yTDisp, fStep, zAsg2, zFz, fz, sizeLine_eq, sb, -List.getD_eq_getElem?_getD, -List.filter_eq_nil_iff, inT, c]
      exact kF (by simp [c]) _ (by simp [zSeq, zIf, yT, yB, yVar, yC, yU, yNot, yAnd, yOr, yAndV, yOrV, yNotV, yTru, yIf, yCh, yF, yNil, yCons, yLst, yTup, yDNew, conts, fixs, cont, hold, asB, fGt, fLt, fLe, fGe, fEq, fNe, fI0, fI, fIn, fIsN, fNotN, zSet, zRet, zRetN, zPut, zDrop, zAsg, zAug, zAugS, getA, getL, asgn, give, fix, fMod, fFdiv, fAdd, fAddI, fSub, fMul, fNeg, fPow, fShl, fShr, fAnd, fOr, fXor, setAt, mutAt, Sl.put, zNext, isRef_eq, rfa, rff, rfo, fLen, fList, fTuple, fMax2, fMin2, fInt1, fSet0, fRev, fSl, ySl, yPart, yNoPart, yMt, yMs, mAppend, mPopAt, mSAdd, isLst, isSet, yRm, isTup, fIndexT, iSq, iEn, iR1, itemsD, gN, gT, gsCons, gsNil, zFor, zBreak, zCont, zRaise, yCall, yCall0, yMake, yCallN, fixM, agsOf, PV.putAll, put1, noRefs, anyP, yYes, fIsi, tyN, isiT, truD, fBits, endsOf, refPos, refsAt, notLoc, okI, okB, okN, eqvI, zForF, fgM, fgS, yTDisp, fStep, zAsg2, zFz, fz, sizeLine_eq, sb, -List.getD_eq_getElem?_getD, -List.filter_eq_nil_iff]) (by simp [zSeq, zIf, yT, yB, yVar, yC, yU, yNot, yAnd, yOr, yAndV, yOrV, yNotV, yTru, yIf, yCh, yF, yNil, yCons, yLst, yTup, yDNew, conts, fixs, cont, hold, asB, fGt, fLt, fLe, fGe, fEq, fNe, fI0, fI, fIn, fIsN, fNotN, zSet, zRet, zRetN, zPut, zDrop, zAsg, zAug, zAugS, getA, getL, asgn, give, fix, fMod, fFdiv, fAdd, fAddI, fSub, fMul, fNeg, fPow, fShl, fShr, fAnd, fOr, fXor, setAt, mutAt, Sl.put, zNext, isRef_eq, rfa, rff, rfo, fLen, fList, fTuple, fMax2, fMin2, fInt1, fSet0, fRev, fSl, ySl, yPart, yNoPart, yMt, yMs, mAppend, mPopAt, mSAdd, isLst, isSet, yRm, isTup, fIndexT, iSq, iEn, iR1, itemsD, gN, gT, gsCons, gsNil, zFor, zBreak, zCont, zRaise, yCall, yCall0, yMake, yCallN, fixM, agsOf, PV.putAll, put1, noRefs, anyP, yYes, fIsi, tyN, isiT, truD, fBits, endsOf, refPos, refsAt, notLoc, okI, okB, okN, eqvI, zForF, fgM, fgS, yTDisp, fStep, zAsg2, zFz, fz, sizeLine_eq, sb, -List.getD_eq_getElem?_getD, -List.filter_eq_nil_iff])
    · simp [zSeq, zIf, yT, yB, yVar, yC, yU, yNot, yAnd, yOr, yAndV, yOrV, yNotV, yTru, yIf, yCh, yF, yNil, yCons, yLst, yTup, yDNew, conts, fixs, cont, hold, asB, fGt, fLt, fLe, fGe, fEq, fNe, fI0, fI, fIsN, fNotN, zSet, zRet, zRetN, zPut, zDrop, zAsg, zAug, zAugS, getA, getL, asgn, give, fix, fMod, fFdiv, fAdd, fAddI, fSub, fMul, fNeg, fPow, fShl, fShr, fAnd, fOr, fXor, setAt, mutAt, Sl.put, zNext, isRef_eq, rfa, rff, rfo, fLen, fList, fTuple, fMax2, fMin2, fInt1, fSet0, fRev, fSl, ySl, yPart, yNoPart, yMt, yMs, mAppend, mPopAt, mSAdd, isLst, isSet, yRm, isTup, fIndexT, iSq, iEn, iR1, itemsD, gN, gT, gsCons, gsNil, zFor, zBreak, zCont, zRaise, yCall, yCall0, yMake, yCallN, fixM, agsOf, PV.putAll, put1, noRefs, anyP, yYes, fIsi, tyN, isiT, truD, fBits, endsOf, refPos, refsAt, notLoc, okI, okB, okN, eqvI, zForF, fgM, fgS, yTDisp, fStep, zAsg2, zFz, fz, sizeLine_eq, sb, -List.getD_eq_getElem?_getD, -List.filter_eq_nil_iff, inT, c]
      exact kT (by simp [c]) _ (by simp [zSeq, zIf, yT, yB, yVar, yC, yU, yNot, yAnd, yOr, yAndV, yOrV, yNotV, yTru, yIf, yCh, yF, yNil, yCons, yLst, yTup, yDNew, conts, fixs, cont, hold, asB, fGt, fLt, fLe, fGe, fEq, fNe, fI0, fI, fIn, fIsN, fNotN, zSet, zRet, zRetN, zPut, zDrop, zAsg, zAug, zAugS, getA, getL, asgn, give, fix, fMod, fFdiv, fAdd, fAddI, fSub, fMul, fNeg, fPow, fShl, fShr, fAnd, fOr, fXor, setAt, mutAt, Sl.put, zNext, isRef_eq, rfa, rff, rfo, fLen, fList, fTuple, fMax2, fMin2, fInt1, fSet0, fRev, fSl, ySl, yPart, yNoPart, yMt, yMs, mAppend, mPopAt, mSAdd, isLst, isSet, yRm, isTup, fIndexT, iSq, iEn, iR1, itemsD, gN, gT, gsCons, gsNil, zFor, zBreak, zCont, zRaise, yCall, yCall0, yMake, yCallN, fixM, agsOf, PV.putAll, put1, noRefs, anyP, yYes, fIsi, tyN, isiT, truD, fBits, endsOf, refPos, refsAt, notLoc, okI, okB, okN, eqvI, zForF, fgM, fgS, yTDisp, fStep, zAsg2, zFz, fz, sizeLine_eq, sb, -List.getD_eq_getElem?_getD, -List.filter_eq_nil_iff]) (by simp [zSeq, zIf, yT, yB, yVar, yC, yU, yNot, yAnd, yOr, yAndV, yOrV, yNotV, yTru, yIf, yCh, yF, yNil, yCons, yLst, yTup, yDNew, conts, fixs, cont, hold, asB, fGt, fLt, fLe, fGe, fEq, fNe, fI0, fI, fIn, fIsN, fNotN, zSet, zRet, zRetN, zPut, zDrop, zAsg, zAug, zAugS, getA, getL, asgn, give, fix, fMod, fFdiv, fAdd, fAddI, fSub, fMul, fNeg, fPow, fShl, fShr, fAnd, fOr, fXor, setAt, mutAt, Sl.put, zNext, isRef_eq, rfa, rff, rfo, fLen, fList, fTuple, fMax2, fMin2, fInt1, fSet0, fRev, fSl, ySl, yPart, yNoPart, yMt, yMs, mAppend, mPopAt, mSAdd, isLst, isSet, yRm, isTup, fIndexT, iSq, iEn, iR1, itemsD, gN, gT, gsCons, gsNil, zFor, zBreak, zCont, zRaise, yCall, yCall0, yMake, yCallN, fixM, agsOf, PV.putAll, put1, noRefs, anyP, yYes, fIsi, tyN, isiT, truD, fBits, endsOf, refPos, refsAt, notLoc, okI, okB, okN, eqvI, zForF, fgM, fgS, yTDisp, fStep, zAsg2, zFz, fz, sizeLine_eq, sb, -List.getD_eq_getElem?_getD, -List.filter_eq_nil_iff])
  · rw [show (irange n).filter (fun s => decide (s ∉ tt)) = freeS n tt from rfl]
    simp [zSeq, zIf, yT, yB, yVar, yC, yU, yNot, yAnd, yOr, yAndV, yOrV, yNotV, yTru, yIf, yCh, yF, yNil, yCons, yLst, yTup, yDNew, conts, fixs, cont, hold, asB, fGt, fLt, fLe, fGe, fEq, fNe, fI0, fI, fIn, fIsN, fNotN, zSet, zRet, zRetN, zPut, zDrop, zAsg, zAug, zAugS, getA, getL, asgn, give, fix, fMod, fFdiv, fAdd, fAddI, fSub, fMul, fNeg, fPow, fShl, fShr, fAnd, fOr, fXor, setAt, mutAt, Sl.put, zNext, isRef_eq, rfa, rff, rfo, fLen, fList, fTuple, fMax2, fMin2, fInt1, fSet0, fRev, fSl, ySl, yPart, yNoPart, yMt, yMs, mAppend, mPopAt, mSAdd, isLst, isSet, yRm, isTup, fIndexT, iSq, iEn, iR1, itemsD, gN, gT, gsCons, gsNil, zFor, zBreak, zCont, zRaise, yCall, yCall0, yMake, yCallN, fixM, agsOf, PV.putAll, put1, noRefs, anyP, yYes, fIsi, tyN, isiT, truD, fBits, endsOf, refPos, refsAt, notLoc, okI, okB, okN, eqvI, zForF, fgM, fgS, yTDisp, fStep, zAsg2, zFz, fz, sizeLine_eq, sb, -List.getD_eq_getElem?_getD, -List.filter_eq_nil_iff]
    refine whileF_inv (fun m ρ => ∃ (found : List Int) (grown : Bool), ρ = [.any, .frz (.lst (rows.map rowL)), .frz (.tup (tt.map D.int)), .any, .own (.lst (found.map D.int)), .frz (.bl grown), .any, .any, .any] ∧ Found n rows tt found ∧ (grown = false → isort found = openS n rows tt) ∧ n.toNat + (if grown = true then 1 else 0) ≤ m + found.length)
      (n.toNat + 1) ⟨freeS n tt, true, rfl, Found.start, by simp, by simp⟩ ?_
    rintro m ρ ⟨found, grown, rfl, hf, hg, hm⟩ N hN
    cases grown with
    | false =>
      have hl := hf.len
      simp [zSeq, zIf, yT, yB, yVar, yC, yU, yNot, yAnd, yOr, yAndV, yOrV, yNotV, yTru, yIf, yCh, yF, yNil, yCons, yLst, yTup, yDNew, conts, fixs, cont, hold, asB, fGt, fLt, fLe, fGe, fEq, fNe, fI0, fI, fIn, fIsN, fNotN, zSet, zRet, zRetN, zPut, zDrop, zAsg, zAug, zAugS, getA, getL, asgn, give, fix, fMod, fFdiv, fAdd, fAddI, fSub, fMul, fNeg, fPow, fShl, fShr, fAnd, fOr, fXor, setAt, mutAt, Sl.put, zNext, isRef_eq, rfa, rff, rfo, fLen, fList, fTuple, fMax2, fMin2, fInt1, fSet0, fRev, fSl, ySl, yPart, yNoPart, yMt, yMs, mAppend, mPopAt, mSAdd, isLst, isSet, yRm, isTup, fIndexT, iSq, iEn, iR1, itemsD, gN, gT, gsCons, gsNil, zFor, zBreak, zCont, zRaise, yCall, yCall0, yMake, yCallN, fixM, agsOf, PV.putAll, put1, noRefs, anyP, yYes, fIsi, tyN, isiT, truD, fBits, endsOf, refPos, refsAt, notLoc, okI, okB, okN, eqvI, zForF, fgM, fgS, yTDisp, fStep, zAsg2, zFz, fz, sizeLine_eq, sb, -List.getD_eq_getElem?_getD, -List.filter_eq_nil_iff]
      refine ⟨found, .inl rfl, ?_⟩
      rw [hg rfl]
      simpa [zSeq, zIf, yT, yB, yVar, yC, yU, yNot, yAnd, yOr, yAndV, yOrV, yNotV, yTru, yIf, yCh, yF, yNil, yCons, yLst, yTup, yDNew, conts, fixs, cont, hold, asB, fGt, fLt, fLe, fGe, fEq, fNe, fI0, fI, fIn, fIsN, fNotN, zSet, zRet, zRetN, zPut, zDrop, zAsg, zAug, zAugS, getA, getL, asgn, give, fix, fMod, fFdiv, fAdd, fAddI, fSub, fMul, fNeg, fPow, fShl, fShr, fAnd, fOr, fXor, setAt, mutAt, Sl.put, zNext, isRef_eq, rfa, rff, rfo, fLen, fList, fTuple, fMax2, fMin2, fInt1, fSet0, fRev, fSl, ySl, yPart, yNoPart, yMt, yMs, mAppend, mPopAt, mSAdd, isLst, isSet, yRm, isTup, fIndexT, iSq, iEn, iR1, itemsD, gN, gT, gsCons, gsNil, zFor, zBreak, zCont, zRaise, yCall, yCall0, yMake, yCallN, fixM, agsOf, PV.putAll, put1, noRefs, anyP, yYes, fIsi, tyN, isiT, truD, fBits, endsOf, refPos, refsAt, notLoc, okI, okB, okN, eqvI, zForF, fgM, fgS, yTDisp, fStep, zAsg2, zFz, fz, sizeLine_eq, sb, -List.getD_eq_getElem?_getD, -List.filter_eq_nil_iff] using k
    | true =>
      simp [zSeq, zIf, yT, yB, yVar, yC, yU, yNot, yAnd, yOr, yAndV, yOrV, yNotV, yTru, yIf, yCh, yF, yNil, yCons, yLst, yTup, yDNew, conts, fixs, cont, hold, asB, fGt, fLt, fLe, fGe, fEq, fNe, fI0, fI, fIn, fIsN, fNotN, zSet, zRet, zRetN, zPut, zDrop, zAsg, zAug, zAugS, getA, getL, asgn, give, fix, fMod, fFdiv, fAdd, fAddI, fSub, fMul, fNeg, fPow, fShl, fShr, fAnd, fOr, fXor, setAt, mutAt, Sl.put, zNext, isRef_eq, rfa, rff, rfo, fLen, fList, fTuple, fMax2, fMin2, fInt1, fSet0, fRev, fSl, ySl, yPart, yNoPart, yMt, yMs, mAppend, mPopAt, mSAdd, isLst, isSet, yRm, isTup, fIndexT, iSq, iEn, iR1, itemsD, gN, gT, gsCons, gsNil, zFor, zBreak, zCont, zRaise, yCall, yCall0, yMake, yCallN, fixM, agsOf, PV.putAll, put1, noRefs, anyP, yYes, fIsi, tyN, isiT, truD, fBits, endsOf, refPos, refsAt, notLoc, okI, okB, okN, eqvI, zForF, fgM, fgS, yTDisp, fStep, zAsg2, zFz, fz, sizeLine_eq, sb, -List.getD_eq_getElem?_getD, -List.filter_eq_nil_iff]
      refine forF_inv (fun j ρ => ρ = [.any, .frz (.lst (rows.map rowL)), .frz (.tup (tt.map D.int)), .any, .own (.lst (found.map D.int)), .any, .own (.lst ((growF rows tt found j).map D.int)), .any, .any]) rfl ?_ ?_
      · rintro j x ρ hx rfl M hM
        obtain ⟨s, hs, rfl⟩ := get_enumM hx
        have lj : j < rows.length := by rw [← tl]; exact (List.getElem?_eq_some_iff.mp hs).1
        have es := get_getD hs
        have gl : (growF rows tt found j).length < 16777216 := by
          have := (grow_nodup tk (found := found) (k := j) (by omega)).length_le_of_subset (l₂ := tt) fun s hs => by
            obtain ⟨a, h1, e, _⟩ := grow_mem.mp hs
            exact e ▸ getD_mem (by omega)
          omega
        simp [zSeq, zIf, yT, yB, yVar, yC, yU, yNot, yAnd, yOr, yAndV, yOrV, yNotV, yTru, yIf, yCh, yF, yNil, yCons, yLst, yTup, yDNew, conts, fixs, cont, hold, asB, fGt, fLt, fLe, fGe, fEq, fI0, fI, fIsN, fNotN, zSet, zRet, zRetN, zPut, zDrop, zAsg, zAug, zAugS, getA, getL, asgn, give, fix, fMod, fFdiv, fAdd, fAddI, fSub, fMul, fNeg, fPow, fShl, fShr, fAnd, fOr, fXor, setAt, mutAt, Sl.put, zNext, isRef_eq, rfa, rff, rfo, fLen, fList, fTuple, fMax2, fMin2, fInt1, fSet0, fRev, fSl, ySl, yPart, yNoPart, yMt, yMs, mAppend, mPopAt, mSAdd, isLst, isSet, yRm, isTup, fIndexT, iSq, iEn, iR1, itemsD, gN, gT, gsCons, gsNil, zFor, zBreak, zCont, zRaise, yCall, yCall0, yMake, yCallN, fixM, agsOf, PV.putAll, put1, noRefs, anyP, yYes, fIsi, tyN, isiT, truD, fBits, endsOf, refPos, refsAt, notLoc, okI, okB, okN, eqvI, zForF, fgM, fgS, yTDisp, fStep, zAsg2, zFz, fz, sizeLine_eq, sb, -List.getD_eq_getElem?_getD, -List.filter_eq_nil_iff, inL]
        by_cases c : s ∈ found
        · have gb : grB rows tt found j = false := by unfold grB; rw [es]; simp [c]
          simp [zSeq, zIf, yT, yB, yVar, yC, yU, yNot, yAnd, yOr, yAndV, yOrV, yNotV, yTru, yIf, yCh, yF, yNil, yCons, yLst, yTup, yDNew, conts, fixs, cont, hold, asB, fGt, fLt, fLe, fGe, fEq, fNe, fI0, fI, fIn, fIsN, fNotN, zSet, zRet, zRetN, zPut, zDrop, zAsg, zAug, zAugS, getA, getL, asgn, give, fix, fMod, fFdiv, fAdd, fAddI, fSub, fMul, fNeg, fPow, fShl, fShr, fAnd, fOr, fXor, setAt, mutAt, Sl.put, zNext, isRef_eq, rfa, rff, rfo, fLen, fList, fTuple, fMax2, fMin2, fInt1, fSet0, fRev, fSl, ySl, yPart, yNoPart, yMt, yMs, mAppend, mPopAt, mSAdd, isLst, isSet, yRm, isTup, fIndexT, iSq, iEn, iR1, itemsD, gN, gT, gsCons, gsNil, zFor, zBreak, zCont, zRaise, yCall, yCall0, yMake, yCallN, fixM, agsOf, PV.putAll, put1, noRefs, anyP, yYes, fIsi, tyN, isiT, truD, fBits, endsOf, refPos, refsAt, notLoc, okI, okB, okN, eqvI, zForF, fgM, fgS, yTDisp, fStep, zAsg2, zFz, fz, sizeLine_eq, sb, -List.getD_eq_getElem?_getD, -List.filter_eq_nil_iff, c]
          refine hM _ ?_
          rw [grow_succ, gb]
          simp
        · simp [zSeq, zIf, yT, yB, yVar, yC, yU, yNot, yAnd, yOr, yAndV, yOrV, yNotV, yTru, yIf, yCh, yF, yNil, yCons, yLst, yTup, yDNew, conts, fixs, cont, hold, asB, fGt, fLt, fLe, fGe, fEq, fI0, fI, fIsN, fNotN, zSet, zRet, zRetN, zPut, zDrop, zAsg, zAug, zAugS, getA, getL, asgn, give, fix, fMod, fFdiv, fAdd, fAddI, fSub, fMul, fNeg, fPow, fShl, fShr, fAnd, fOr, fXor, setAt, mutAt, Sl.put, zNext, isRef_eq, rfa, rff, rfo, fLen, fList, fTuple, fMax2, fMin2, fInt1, fSet0, fRev, fSl, ySl, yPart, yNoPart, yMt, yMs, mAppend, mPopAt, mSAdd, isLst, isSet, yRm, isTup, fIndexT, iSq, iEn, iR1, itemsD, gN, gT, gsCons, gsNil, zFor, zBreak, zCont, zRaise, yCall, yCall0, yMake, yCallN, fixM, agsOf, PV.putAll, put1, noRefs, anyP, yYes, fIsi, tyN, isiT, truD, fBits, endsOf, refPos, refsAt, notLoc, okI, okB, okN, eqvI, zForF, fgM, fgS, yTDisp, fStep, zAsg2, zFz, fz, sizeLine_eq, sb, -List.getD_eq_getElem?_getD, -List.filter_eq_nil_iff, c, ixL lj [], yLc, rowL]
          refine lc_of (fun t => decide (t ∈ found)) D.int rfl ?_ (fun x hx K L kT kF => ?_) ?_
          · have := row_len ok j
            omega
          · by_cases c : x ∈ found
            · simp [zSeq, zIf, yT, yB, yVar, yC, yU, yNot, yAnd, yOr, yAndV, yOrV, yNotV, yTru, yIf, yCh, yF, yNil, yCons, yLst, yTup, yDNew, conts, fixs, cont, hold, asB, fGt, fLt, fLe, fGe, fEq, fNe, fI0, fI, fIsN, fNotN, zSet, zRet, zRetN, zPut, zDrop, zAsg, zAug, zAugS, getA, getL, asgn, give, fix, fMod, fFdiv, fAdd, fAddI, fSub, fMul, fNeg, fPow, fShl, fShr, fAnd, fOr, fXor, setAt, mutAt, Sl.put, zNext, isRef_eq, rfa, rff, rfo, fLen, fList, fTuple, fMax2, fMin2, fInt1, fSet0, fRev, fSl, ySl, yPart, yNoPart, yMt, yMs, mAppend, mPopAt, mSAdd, isLst, isSet, yRm, isTup, fIndexT, iSq, iEn, iR1, itemsD, gN, gT, gsCons, gsNil, zFor, zBreak, zCont, zRaise, yCall, yCall0, yMake, yCallN, fixM, agsOf, PV.putAll, put1, noRefs, anyP, yYes, fIsi, tyN, isiT, truD, fBits, endsOf, refPos, refsAt, notLoc, okI, okB, okN, eqvI, zForF, fgM, fgS, yTDisp, fStep, zAsg2, zFz, fz, sizeLine_eq, sb, -List.getD_eq_getElem?_getD, -List.filter_eq_nil_iff, inL, c]
              exact kT (by simp [c]) _ (by simp [zSeq, zIf, yT, yB, yVar, yC, yU, yNot, yAnd, yOr, yAndV, yOrV, yNotV, yTru, yIf, yCh, yF, yNil, yCons, yLst, yTup, yDNew, conts, fixs, cont, hold, asB, fGt, fLt, fLe, fGe, fEq, fNe, fI0, fI, fIn, fIsN, fNotN, zSet, zRet, zRetN, zPut, zDrop, zAsg, zAug, zAugS, getA, getL, asgn, give, fix, fMod, fFdiv, fAdd, fAddI, fSub, fMul, fNeg, fPow, fShl, fShr, fAnd, fOr, fXor, setAt, mutAt, Sl.put, zNext, isRef_eq, rfa, rff, rfo, fLen, fList, fTuple, fMax2, fMin2, fInt1, fSet0, fRev, fSl, ySl, yPart, yNoPart, yMt, yMs, mAppend, mPopAt, mSAdd, isLst, isSet, yRm, isTup, fIndexT, iSq, iEn, iR1, itemsD, gN, gT, gsCons, gsNil, zFor, zBreak, zCont, zRaise, yCall, yCall0, yMake, yCallN, fixM, agsOf, PV.putAll, put1, noRefs, anyP, yYes, fIsi, tyN, isiT, truD, fBits, endsOf, refPos, refsAt, notLoc, okI, okB, okN, eqvI, zForF, fgM, fgS, yTDisp, fStep, zAsg2, zFz, fz, sizeLine_eq, sb, -List.getD_eq_getElem?_getD, -List.filter_eq_nil_iff]) (by simp [zSeq, zIf, yT, yB, yVar, yC, yU, yNot, yAnd, yOr, yAndV, yOrV, yNotV, yTru, yIf, yCh, yF, yNil, yCons, yLst, yTup, yDNew, conts, fixs, cont, hold, asB, fGt, fLt, fLe, fGe, fEq, fNe, fI0, fI, fIn, fIsN, fNotN, zSet, zRet, zRetN, zPut, zDrop, zAsg, zAug, zAugS, getA, getL, asgn, give, fix, fMod, fFdiv, fAdd, fAddI, fSub, fMul, fNeg, fPow, fShl, fShr, fAnd, fOr, fXor, setAt, mutAt, Sl.put, zNext, isRef_eq, rfa, rff, rfo, fLen, fList, fTuple, fMax2, fMin2, fInt1, fSet0, fRev, fSl, ySl, yPart, yNoPart, yMt, yMs, mAppend, mPopAt, mSAdd, isLst, isSet, yRm, isTup, fIndexT, iSq, iEn, iR1, itemsD, gN, gT, gsCons, gsNil, zFor, zBreak, zCont, zRaise, yCall, yCall0, yMake, yCallN, fixM, agsOf, PV.putAll, put1, noRefs, anyP, yYes, fIsi, tyN, isiT, truD, fBits, endsOf, refPos, refsAt, notLoc, okI, okB, okN, eqvI, zForF, fgM, fgS, yTDisp, fStep, zAsg2, zFz, fz, sizeLine_eq, sb, -List.getD_eq_getElem?_getD, -List.filter_eq_nil_iff])
            · simp [zSeq, zIf, yT, yB, yVar, yC, yU, yNot, yAnd, yOr, yAndV, yOrV, yNotV, yTru, yIf, yCh, yF, yNil, yCons, yLst, yTup, yDNew, conts, fixs, cont, hold, asB, fGt, fLt, fLe, fGe, fEq, fNe, fI0, fI, fIsN, fNotN, zSet, zRet, zRetN, zPut, zDrop, zAsg, zAug, zAugS, getA, getL, asgn, give, fix, fMod, fFdiv, fAdd, fAddI, fSub, fMul, fNeg, fPow, fShl, fShr, fAnd, fOr, fXor, setAt, mutAt, Sl.put, zNext, isRef_eq, rfa, rff, rfo, fLen, fList, fTuple, fMax2, fMin2, fInt1, fSet0, fRev, fSl, ySl, yPart, yNoPart, yMt, yMs, mAppend, mPopAt, mSAdd, isLst, isSet, yRm, isTup, fIndexT, iSq, iEn, iR1, itemsD, gN, gT, gsCons, gsNil, zFor, zBreak, zCont, zRaise, yCall, yCall0, yMake, yCallN, fixM, agsOf, PV.putAll, put1, noRefs, anyP, yYes, fIsi, tyN, isiT, truD, fBits, endsOf, refPos, refsAt, notLoc, okI, okB, okN, eqvI, zForF, fgM, fgS, yTDisp, fStep, zAsg2, zFz, fz, sizeLine_eq, sb, -List.getD_eq_getElem?_getD, -List.filter_eq_nil_iff, inL, c]
              exact kF (by simp [c]) _ (by simp [zSeq, zIf, yT, yB, yVar, yC, yU, yNot, yAnd, yOr, yAndV, yOrV, yNotV, yTru, yIf, yCh, yF, yNil, yCons, yLst, yTup, yDNew, conts, fixs, cont, hold, asB, fGt, fLt, fLe, fGe, fEq, fNe, fI0, fI, fIn, fIsN, fNotN, zSet, zRet, zRetN, zPut, zDrop, zAsg, zAug, zAugS, getA, getL, asgn, give, fix, fMod, fFdiv, fAdd, fAddI, fSub, fMul, fNeg, fPow, fShl, fShr, fAnd, fOr, fXor, setAt, mutAt, Sl.put, zNext, isRef_eq, rfa, rff, rfo, fLen, fList, fTuple, fMax2, fMin2, fInt1, fSet0, fRev, fSl, ySl, yPart, yNoPart, yMt, yMs, mAppend, mPopAt, mSAdd, isLst, isSet, yRm, isTup, fIndexT, iSq, iEn, iR1, itemsD, gN, gT, gsCons, gsNil, zFor, zBreak, zCont, zRaise, yCall, yCall0, yMake, yCallN, fixM, agsOf, PV.putAll, put1, noRefs, anyP, yYes, fIsi, tyN, isiT, truD, fBits, endsOf, refPos, refsAt, notLoc, okI, okB, okN, eqvI, zForF, fgM, fgS, yTDisp, fStep, zAsg2, zFz, fz, sizeLine_eq, sb, -List.getD_eq_getElem?_getD, -List.filter_eq_nil_iff]) (by simp [zSeq, zIf, yT, yB, yVar, yC, yU, yNot, yAnd, yOr, yAndV, yOrV, yNotV, yTru, yIf, yCh, yF, yNil, yCons, yLst, yTup, yDNew, conts, fixs, cont, hold, asB, fGt, fLt, fLe, fGe, fEq, fNe, fI0, fI, fIn, fIsN, fNotN, zSet, zRet, zRetN, zPut, zDrop, zAsg, zAug, zAugS, getA, getL, asgn, give, fix, fMod, fFdiv, fAdd, fAddI, fSub, fMul, fNeg, fPow, fShl, fShr, fAnd, fOr, fXor, setAt, mutAt, Sl.put, zNext, isRef_eq, rfa, rff, rfo, fLen, fList, fTuple, fMax2, fMin2, fInt1, fSet0, fRev, fSl, ySl, yPart, yNoPart, yMt, yMs, mAppend, mPopAt, mSAdd, isLst, isSet, yRm, isTup, fIndexT, iSq, iEn, iR1, itemsD, gN, gT, gsCons, gsNil, zFor, zBreak, zCont, zRaise, yCall, yCall0, yMake, yCallN, fixM, agsOf, PV.putAll, put1, noRefs, anyP, yYes, fIsi, tyN, isiT, truD, fBits, endsOf, refPos, refsAt, notLoc, okI, okB, okN, eqvI, zForF, fgM, fgS, yTDisp, fStep, zAsg2, zFz, fz, sizeLine_eq, sb, -List.getD_eq_getElem?_getD, -List.filter_eq_nil_iff])
          · simp only [neL0]
            by_cases c2 : (rows.getD j []).filter (fun t => decide (t ∈ found)) = []
            · have gb : grB rows tt found j = false := by unfold grB; rw [decide_eq_true c2]; simp
              simp [zSeq, zIf, yT, yB, yVar, yC, yU, yNot, yAnd, yOr, yAndV, yOrV, yNotV, yTru, yIf, yCh, yF, yNil, yCons, yLst, yTup, yDNew, conts, fixs, cont, hold, asB, fGt, fLt, fLe, fGe, fEq, fI0, fI, fIsN, fNotN, zSet, zRet, zRetN, zPut, zDrop, zAsg, zAug, zAugS, getA, getL, asgn, give, fix, fMod, fFdiv, fAdd, fAddI, fSub, fMul, fNeg, fPow, fShl, fShr, fAnd, fOr, fXor, setAt, mutAt, Sl.put, zNext, isRef_eq, rfa, rff, rfo, fLen, fList, fTuple, fMax2, fMin2, fInt1, fSet0, fRev, fSl, ySl, yPart, yNoPart, yMt, yMs, mAppend, mPopAt, mSAdd, isLst, isSet, yRm, isTup, fIndexT, iSq, iEn, iR1, itemsD, gN, gT, gsCons, gsNil, zFor, zBreak, zCont, zRaise, yCall, yCall0, yMake, yCallN, fixM, agsOf, PV.putAll, put1, noRefs, anyP, yYes, fIsi, tyN, isiT, truD, fBits, endsOf, refPos, refsAt, notLoc, okI, okB, okN, eqvI, zForF, fgM, fgS, yTDisp, fStep, zAsg2, zFz, fz, sizeLine_eq, sb, -List.getD_eq_getElem?_getD, -List.filter_eq_nil_iff, c2]
              refine hM _ ?_
              rw [grow_succ, gb]
              simp
            · have gb : grB rows tt found j = true := by unfold grB; rw [decide_eq_false c2, es]; simp [c]
              simp [zSeq, zIf, yT, yB, yVar, yC, yU, yNot, yAnd, yOr, yAndV, yOrV, yNotV, yTru, yIf, yCh, yF, yNil, yCons, yLst, yTup, yDNew, conts, fixs, cont, hold, asB, fGt, fLt, fLe, fGe, fEq, fI0, fI, fIsN, fNotN, zSet, zRet, zRetN, zPut, zDrop, zAsg, zAug, zAugS, getA, getL, asgn, give, fix, fMod, fFdiv, fAdd, fAddI, fSub, fMul, fNeg, fPow, fShl, fShr, fAnd, fOr, fXor, setAt, mutAt, Sl.put, zNext, isRef_eq, rfa, rff, rfo, fLen, fList, fTuple, fMax2, fMin2, fInt1, fSet0, fRev, fSl, ySl, yPart, yNoPart, yMt, yMs, mAppend, mPopAt, mSAdd, isLst, isSet, yRm, isTup, fIndexT, iSq, iEn, iR1, itemsD, gN, gT, gsCons, gsNil, zFor, zBreak, zCont, zRaise, yCall, yCall0, yMake, yCallN, fixM, agsOf, PV.putAll, put1, noRefs, anyP, yYes, fIsi, tyN, isiT, truD, fBits, endsOf, refPos, refsAt, notLoc, okI, okB, okN, eqvI, zForF, fgM, fgS, yTDisp, fStep, zAsg2, zFz, fz, sizeLine_eq, sb, -List.getD_eq_getElem?_getD, -List.filter_eq_nil_iff, neL0, gl, c2]
              refine hM _ ?_
              rw [grow_succ, gb, es]
              simp
      · rintro ρ rfl
        have hf' := hf.grow ok tk
        have hl := hf'.len
        rw [List.length_append] at hl
        simp [zSeq, zIf, yT, yB, yVar, yC, yU, yNot, yAnd, yOr, yAndV, yOrV, yNotV, yTru, yIf, yCh, yF, yNil, yCons, yLst, yTup, yDNew, conts, fixs, cont, hold, asB, fGt, fLt, fLe, fGe, fEq, fI0, fI, fIn, fIsN, fNotN, zSet, zRet, zRetN, zPut, zDrop, zAsg, zAug, zAugS, getA, getL, asgn, give, fix, fMod, fFdiv, fAdd, fAddI, fSub, fMul, fNeg, fPow, fShl, fShr, fAnd, fOr, fXor, setAt, mutAt, Sl.put, zNext, isRef_eq, rfa, rff, rfo, fLen, fList, fTuple, fMax2, fMin2, fInt1, fSet0, fRev, fSl, ySl, yPart, yNoPart, yMt, yMs, mAppend, mPopAt, mSAdd, isLst, isSet, yRm, isTup, fIndexT, iSq, iEn, iR1, itemsD, gN, gT, gsCons, gsNil, zFor, zBreak, zCont, zRaise, yCall, yCall0, yMake, yCallN, fixM, agsOf, PV.putAll, put1, noRefs, anyP, yYes, fIsi, tyN, isiT, truD, fBits, endsOf, refPos, refsAt, notLoc, okI, okB, okN, eqvI, zForF, fgM, fgS, yTDisp, fStep, zAsg2, zFz, fz, sizeLine_eq, sb, -List.getD_eq_getElem?_getD, -List.filter_eq_nil_iff, len_enumD, neL0]
        refine ⟨by omega, hN (n.toNat + (if growF rows tt found tt.length = [] then 0 else 1) - (found ++ growF rows tt found tt.length).length) _ ?_ ⟨found ++ growF rows tt found tt.length, !decide (growF rows tt found tt.length = []), by simp, hf', fun z => ?_, ?_⟩⟩
        · rw [List.length_append]
          by_cases c : growF rows tt found tt.length = []
          · simp [c] at hm ⊢
            omega
          · have := List.length_pos_iff.mpr c
            simp [c] at hm ⊢
            omega
        · have c : growF rows tt found tt.length = [] := by simpa using z
          rw [c, List.append_nil]
          exact hf.all tk c
        · rw [List.length_append]
          by_cases c : growF rows tt found tt.length = []
          · simp [c]
            omega
          · simp [c]
            omega
end Law
namespace Law
open PySem PySem.Spec PyProof.Rows L2 PV
theorem idx_get {tt : List Int} {s : Int} (h : s ∈ tt) : tt[tt.idxOf s]? = some s := by
  have := List.idxOf_lt_length_of_mem h
  rw [List.getElem?_eq_getElem this, List.getElem_idxOf]
theorem idx_first {tt : List Int} {s : Int} (m : Nat) (h : m < tt.idxOf s) : tt[m]? ≠ some s := by
  intro e
  induction tt generalizing m with
  | nil => cases e
  | cons a r ih =>
    rw [List.idxOf_cons] at h
    cases c : a == s with
    | true => rw [c] at h; exact absurd h (Nat.not_lt_zero _)
    | false =>
      rw [c] at h
      cases m with
      | zero =>
        have : a = s := by simpa using e
        rw [this] at c
        simp at c
      | succ m => exact ih m (by simpa using h) (by simpa using e)
/-- t.index(s) -/
theorem indexT {tt : List Int} {s : Int} (h : s ∈ tt) {q : R → Prop} (k : q (.dat (.int (tt.idxOf s : Nat)))) : fIndexT (.tup (tt.map D.int)) [.int s] q := ⟨tt, tt.idxOf s, rfl, idx_get h, idx_first, k⟩
/-! ### _law_asked -/
theorem tt_none {n : Int} {rows : List (List Int)} {tt : List Int} (ok : BookOk n rows) (tk : TtOk n rows tt) : ttFault n rows (ttD tt) = none := by
  unfold ttFault ttD
  simp only [List.length_map, tk.len, if_true]
  have key : ∀ (l seen : List Int), seen ++ l = tt → ttFrom n rows seen.length seen (l.map D.int) = none := by
    intro l
    induction l with
    | nil => intros; rfl
    | cons s l ih =>
      intro seen e
      have nd := tk.nd
      rw [← e] at nd
      obtain ⟨_, _, dj⟩ := List.nodup_append.mp nd
      have hg : tt[seen.length]? = some s := by rw [← e]; simp
      have hlt : seen.length < rows.length := by rw [← tk.len, ← e]; simp
      have hm : s ∈ rows.getD seen.length [] := by
        have := tk.at hlt
        rwa [get_getD hg] at this
      obtain ⟨r0, r1⟩ := row_of ok hm
      rw [List.map_cons, ttFrom, if_pos ⟨r0, r1, fun z => dj s z s List.mem_cons_self rfl, hm⟩]
      have := ih (seen ++ [s]) (by simp [e])
      simpa using this
  exact key tt [] rfl
theorem ofTt_ok {n : Int} {rows : List (List Int)} {tt : List Int} (ok : BookOk n rows) (tk : TtOk n rows tt) {e : Exn → List D → Prop} {k : List Int → Prop} (h : k tt) : ofTt n rows (ttD tt) e k := by
  unfold ofTt
  rw [tt_none ok tk]
  exact ⟨tt, rfl, tk, h⟩
theorem plainT_tt {tt : List Int} : plainT (ttD tt) := ⟨⟨_, rfl⟩, fun ds e x hx => by
  cases e
  obtain ⟨y, _, rfl⟩ := List.mem_map.mp hx
  exact plain_int⟩
end Law
/-! typed operators: dicts with tuple keys -/
namespace Law
open PySem PySem.Spec PyProof.Rows L2 PV
section
variable {n : Int} {rows : List (List Int)} {tt : List Int}
structure BI (n : Int) (rows : List (List Int)) (tt : List Int) (W : List (List Int)) (ds : List Nat) (pos : Nat) : Prop where
  nd : W.Nodup
  len : ds.length = W.length
  st : W[0]? = some tt
  mn : ∀ (i : Nat) (t : List Int) (d : Nat), W[i]? = some t → ds[i]? = some d → MinN n rows tt d t
  asc : ∀ (i j d e : Nat), i ≤ j → ds[i]? = some d → ds[j]? = some e → d ≤ e
  up : ∀ D, ds[pos]? = some D → ∀ (j e : Nat), ds[j]? = some e → e ≤ D + 1
  lvl : ∀ D, ds[pos]? = some D → ∀ (d : Nat) (t : List Int), d ≤ D → RN n rows tt d t → t ∈ W
  done : ∀ (j : Nat) (t : List Int), j < pos → W[j]? = some t → ∀ (a : Nat) (s : Int), Move n rows t a s → t.set a s ∈ W
  pl : pos ≤ W.length
theorem BI.tk (tk : TtOk n rows tt) {W : List (List Int)} {ds : List Nat} {pos : Nat} (h : BI n rows tt W ds pos) {t : List Int} (ht : t ∈ W) : TtOk n rows t := by
  obtain ⟨i, hi⟩ := List.mem_iff_getElem?.mp ht
  have hl : i < ds.length := by rw [h.len]; exact (List.getElem?_eq_some_iff.mp hi).1
  obtain ⟨l, _, m⟩ := (h.mn i t _ hi (List.getElem?_eq_getElem hl)).1
  exact m.ok tk
theorem BI.start : BI n rows tt [tt] [0] 0 := by
  refine ⟨by simp, rfl, rfl, fun i t d h1 h2 => ?_, fun i j d e hij h1 h2 => ?_, fun D h j e h2 => ?_, fun D h d t hd hr => ?_, fun j t h => by omega, by simp⟩
  · cases i with
    | zero =>
      simp at h1 h2
      subst h1 h2
      exact ⟨RN.zero.mpr rfl, fun e he => by omega⟩
    | succ i => simp at h1
  · cases i with
    | zero => simp at h1; omega
    | succ i => simp at h1
  · cases j with
    | zero => simp at h2; omega
    | succ i => simp at h2
  · simp at h
    have : d = 0 := by omega
    subst this
    rw [RN.zero.mp hr]
    simp
/-- one timetable is looked at: P of its moves -/
structure BJ (n : Int) (rows : List (List Int)) (here : List Int) (D : Nat) (W : List (List Int)) (ds : List Nat) (P : Nat → Int → Prop) (W' : List (List Int)) (ds' : List Nat) : Prop where
  ex : ∃ new, W' = W ++ new ∧ ds' = ds ++ List.replicate new.length (D + 1) ∧ ∀ t ∈ new, ∃ a s, Move n rows here a s ∧ t = here.set a s
  nd : W'.Nodup
  all : ∀ a s, P a s → Move n rows here a s → here.set a s ∈ W'
theorem BI.next {W W' : List (List Int)} {ds ds' : List Nat} {pos D : Nat} {here : List Int} (h : BI n rows tt W ds pos) (hh : W[pos]? = some here) (hD : ds[pos]? = some D) (k : BJ n rows here D W ds (fun _ _ => True) W' ds') : BI n rows tt W' ds' (pos + 1) := by
  obtain ⟨⟨new, rfl, rfl, hn⟩, nd, all⟩ := k
  have hlt : pos < W.length := (List.getElem?_eq_some_iff.mp hh).1
  have hm := h.mn pos here D hh hD
  have dlt : ∀ {i e : Nat}, (ds ++ List.replicate new.length (D + 1))[i]? = some e → (i < W.length ∧ ds[i]? = some e) ∨ (W.length ≤ i ∧ e = D + 1) := fun {i e} he => by
    rcases Nat.lt_or_ge i W.length with z | z
    · rw [List.getElem?_append_left (by rw [h.len]; exact z)] at he
      exact .inl ⟨z, he⟩
    · rw [List.getElem?_append_right (by rw [h.len]; exact z)] at he
      exact .inr ⟨z, (List.mem_replicate.mp (List.mem_of_getElem? he)).2⟩
  refine ⟨nd, by simp [h.len], ?_, fun i t d h1 h2 => ?_, fun i j d e hij h1 h2 => ?_, fun D' h1 j e h2 => ?_, fun D' h1 d t hd hr => ?_, fun j t hj h1 a s m => ?_, by simp; omega⟩
  · rw [List.getElem?_append_left (by omega)]; exact h.st
  · rcases dlt h2 with ⟨z, h2⟩ | ⟨z, rfl⟩
    · rw [List.getElem?_append_left z] at h1
      exact h.mn i t d h1 h2
    · rw [List.getElem?_append_right z] at h1
      have ht := List.mem_of_getElem? h1
      obtain ⟨a, s, m, rfl⟩ := hn _ ht
      refine ⟨RN.succ.mpr ⟨here, a, s, hm.1, m, rfl⟩, fun e he hr => ?_⟩
      have := h.lvl D hD e _ (by omega) hr
      exact (List.nodup_append.mp nd).2.2 _ this _ ht rfl
  · rcases dlt h1 with ⟨z1, h1⟩ | ⟨z1, rfl⟩
    · rcases dlt h2 with ⟨z2, h2⟩ | ⟨z2, rfl⟩
      · exact h.asc i j d e hij h1 h2
      · exact h.up D hD i d h1
    · rcases dlt h2 with ⟨z2, h2⟩ | ⟨z2, rfl⟩
      · omega
      · exact Nat.le_refl _
  · have hDD : D ≤ D' := by
      rcases dlt h1 with ⟨_, h1⟩ | ⟨_, rfl⟩
      · exact h.asc pos (pos + 1) D D' (by omega) hD h1
      · omega
    rcases dlt h2 with ⟨_, h2⟩ | ⟨_, rfl⟩
    · have := h.up D hD j e h2
      omega
    · omega
  · rcases Nat.lt_or_ge D d with z | z
    · have hD' : D' ≤ D + 1 := by
        rcases dlt h1 with ⟨_, h1⟩ | ⟨_, rfl⟩
        · exact h.up D hD _ D' h1
        · omega
      have e1 : d = D + 1 := by omega
      have e2 : D' = D + 1 := by omega
      subst e1 e2
      obtain ⟨u, a, s, hu, m, rfl⟩ := RN.succ.mp hr
      have hin := h.lvl D hD D u (Nat.le_refl _) hu
      obtain ⟨j, hj⟩ := List.mem_iff_getElem?.mp hin
      have hjl : j < ds.length := by rw [h.len]; exact (List.getElem?_eq_some_iff.mp hj).1
      have hmj := h.mn j u _ hj (List.getElem?_eq_getElem hjl)
      rcases Nat.lt_or_ge j pos with y | y
      · exact List.mem_append_left _ (h.done j u y hj a s m)
      · rcases Nat.lt_or_ge pos j with y2 | y2
        · -- further on: its distance is D + 1
          have h3 := h.asc
          have : D + 1 ≤ ds[j] := by
            rcases dlt h1 with ⟨z1, h1⟩ | ⟨z1, _⟩
            · exact h.asc (pos + 1) j _ _ (by omega) h1 (List.getElem?_eq_getElem hjl)
            · have := (List.getElem?_eq_some_iff.mp hj).1; omega
          exact absurd hu (hmj.2 D (by omega))
        · have : j = pos := by omega
          subst this
          rw [hh] at hj
          cases hj
          exact all a s trivial m
    · exact List.mem_append_left _ (h.lvl D hD d t z hr)
  · rcases Nat.lt_or_ge j pos with y | y
    · rw [List.getElem?_append_left (by omega)] at h1
      exact List.mem_append_left _ (h.done j t y h1 a s m)
    · have : j = pos := by omega
      subst this
      rw [List.getElem?_append_left hlt, hh] at h1
      cases h1
      exact all a s trivial m
theorem BJ.start {W : List (List Int)} {ds : List Nat} {here : List Int} {D : Nat} (nd : W.Nodup) {P : Nat → Int → Prop} (hP : ∀ a s, ¬ P a s) : BJ n rows here D W ds P W ds := ⟨⟨[], by simp, by simp, by simp⟩, nd, fun a s h => absurd h (hP a s)⟩
theorem BJ.tk {W W' : List (List Int)} {ds ds' : List Nat} {here : List Int} {D : Nat} {P : Nat → Int → Prop} (h : BJ n rows here D W ds P W' ds') (hk : TtOk n rows here) (hW : ∀ t ∈ W, TtOk n rows t) : ∀ t ∈ W', TtOk n rows t := by
  obtain ⟨⟨new, rfl, _, hn⟩, _, _⟩ := h
  intro t ht
  rcases List.mem_append.mp ht with ht | ht
  · exact hW t ht
  · obtain ⟨a, s, m, rfl⟩ := hn t ht
    exact m.ok hk
/-- a move more is looked at: its timetable is known, or new -/
theorem BJ.old {W W' : List (List Int)} {ds ds' : List Nat} {here : List Int} {D : Nat} {P Q : Nat → Int → Prop} {a : Nat} {s : Int} (h : BJ n rows here D W ds P W' ds') (hq : ∀ b x, Q b x → P b x ∨ (b = a ∧ x = s)) (hk : Move n rows here a s → here.set a s ∈ W') : BJ n rows here D W ds Q W' ds' :=
  ⟨h.ex, h.nd, fun b x hb m => by
    rcases hq b x hb with z | ⟨rfl, rfl⟩
    · exact h.all b x z m
    · exact hk m⟩
theorem BJ.new {W W' : List (List Int)} {ds ds' : List Nat} {here : List Int} {D : Nat} {P Q : Nat → Int → Prop} {a : Nat} {s : Int} (h : BJ n rows here D W ds P W' ds') (hq : ∀ b x, Q b x → P b x ∨ (b = a ∧ x = s)) (m : Move n rows here a s) (hk : here.set a s ∉ W') :
    BJ n rows here D W ds Q (W' ++ [here.set a s]) (ds' ++ [D + 1]) := by
  obtain ⟨⟨new, rfl, rfl, hn⟩, nd, all⟩ := h
  refine ⟨⟨new ++ [here.set a s], by simp, ?_, fun t ht => ?_⟩, ?_, fun b x hb mm => ?_⟩
  · rw [List.length_append, List.append_assoc]
    congr 1
    exact (List.replicate_succ' (n := new.length)).symm
  · rcases List.mem_append.mp ht with ht | ht
    · exact hn t ht
    · exact ⟨a, s, m, List.mem_singleton.mp ht⟩
  · exact List.nodup_append.mpr ⟨nd, by simp, fun x hx y hy e => hk (by rw [← List.mem_singleton.mp hy, ← e]; exact hx)⟩
  · rcases hq b x hb with z | ⟨rfl, rfl⟩
    · exact List.mem_append_left _ (all b x z mm)
    · simp
end
end Law
/-! typed operators: lists of tuples; numbers of appointments -/
/-! the steps along a way; the fewest moves that bring an appointment -/
namespace Law
open PySem PySem.Spec PyProof.Rows L2 PV
/-- the first step that the ways name -/
def wlk (w : Ways) (s : Int) : Option (Option (Nat × Int)) := (w.find? fun p => decide (p.1 = s)).map (·.2)
def chain (w : Ways) : Nat → Int → List (Nat × Int)
  | 0, _ => []
  | f + 1, s => match wlk w s with
    | some (some (a, t)) => (a, t) :: chain w f t
    | _ => []
def stepsOf (n : Int) (rows : List (List Int)) (tt : List Int) (s : Int) : List (Nat × Int) := (chain (waysOut n rows tt []) 61 s).reverse
/-- the moves of bring -/
def bringOf (n : Int) (rows : List (List Int)) (tt : List Int) (k : Nat) (s : Int) : Option (List (Nat × Int)) :=
  if tt.getD k 0 = s then some [] else if s ∈ openS n rows tt then some (stepsOf n rows tt s ++ [(k, s)]) else none
section
variable {n : Int} {rows : List (List Int)} {tt : List Int}
theorem Way.nodup {s : Int} {l : List (Nat × Int)} (h : Way n rows tt s l) : (l.map (·.1)).Nodup := by
  induction h with
  | nil => exact List.nodup_nil
  | cons _ _ _ h4 ih => exact List.nodup_cons.mpr ⟨h4, ih⟩
theorem Way.lt (tk : TtOk n rows tt) {s : Int} {l : List (Nat × Int)} (h : Way n rows tt s l) : ∀ p ∈ l, p.1 < rows.length := by
  induction h with
  | nil => simp
  | cons h1 _ _ _ ih =>
    intro p hp
    rcases List.mem_cons.mp hp with rfl | hp
    · rw [← tk.len]; exact (List.getElem?_eq_some_iff.mp h1).1
    · exact ih p hp
/-! ### no way is shorter -/
end
end Law
namespace Law
open PySem PySem.Spec PyProof.Rows L2 PV
section
variable {n : Int} {rows : List (List Int)} {tt : List Int}
/-- the closed slots -/
def closedS (n : Int) (rows : List (List Int)) (tt : List Int) : List Int := (irange n).filter fun s => !decide (s ∈ openS n rows tt)
theorem mem_closedS (tk : TtOk n rows tt) {s : Int} : s ∈ closedS n rows tt ↔ 0 ≤ s ∧ s < n ∧ ¬ Opn n rows tt s := by
  unfold closedS
  rw [List.mem_filter, mem_irange, ← mem_openS tk]
  simp [and_assoc]
end
end Law
namespace Law
open PySem PySem.Spec PyProof.Rows L2 PV
/-- a move, as data -/
def mvD (m : Nat × Int) : D := .tup [natD m.1, .int m.2]
end Law
/-! minimal tight sets -/
namespace Law
open PySem PySem.Spec PyProof.Rows L2 PV
section
variable {n : Int} {rows : List (List Int)} {tt : List Int}
/-- a closed slot -/
def Cl (n : Int) (rows : List (List Int)) (tt : List Int) (s : Int) : Prop := s ∈ tt ∧ ¬ Opn n rows tt s
/-- a slot leads to another by allowed slots -/
inductive Fw (rows : List (List Int)) (tt : List Int) : Int → Int → Prop
  | refl (s : Int) : Fw rows tt s s
  | step {a : Nat} {s t u : Int} : tt[a]? = some s → t ∈ rows.getD a [] → Fw rows tt t u → Fw rows tt s u
theorem Fw.trans {s t u : Int} (h : Fw rows tt s t) (k : Fw rows tt t u) : Fw rows tt s u := by
  induction h with
  | refl s => exact k
  | step h1 h2 _ ih => exact .step h1 h2 (ih k)
theorem Fw.one {a : Nat} {s t : Int} (h1 : tt[a]? = some s) (h2 : t ∈ rows.getD a []) : Fw rows tt s t := .step h1 h2 (.refl t)
theorem Cl.next (ok : BookOk n rows) {a : Nat} {s t : Int} (h : Cl n rows tt s) (h1 : tt[a]? = some s) (h2 : t ∈ rows.getD a []) : Cl n rows tt t := by
  obtain ⟨t0, t1⟩ := row_of ok h2
  have no : ¬ Opn n rows tt t := fun o => h.2 (.step h1 h2 o)
  refine ⟨Classical.byContradiction fun c => no (.free t0 t1 c), no⟩
theorem Fw.cl (ok : BookOk n rows) {s t : Int} (h : Fw rows tt s t) : Cl n rows tt s → Cl n rows tt t := by
  induction h with
  | refl s => exact id
  | step h1 h2 _ ih => exact fun c => ih (c.next ok h1 h2)
/-- a tight set: its appointments may use no other slot -/
def Tight (rows : List (List Int)) (tt : List Int) (T : List Int) : Prop := ∀ s ∈ T, ∃ a : Nat, tt[a]? = some s ∧ ∀ t ∈ rows.getD a [], t ∈ T
structure MinTight (rows : List (List Int)) (tt : List Int) (T : List Int) : Prop where
  asc : T.Pairwise (· < ·)
  ne : T ≠ []
  tight : Tight rows tt T
  min : ∀ U, U ≠ [] → Tight rows tt U → (∀ s ∈ U, s ∈ T) → ∀ s ∈ T, s ∈ U
theorem at_inj (tk : TtOk n rows tt) {a b : Nat} {s : Int} (h : tt[a]? = some s) (k : tt[b]? = some s) : a = b := by
  have la := (List.getElem?_eq_some_iff.mp h).1
  have lb := (List.getElem?_eq_some_iff.mp k).1
  exact tt_inj tk (by rw [← tk.len]; exact la) (by rw [← tk.len]; exact lb) ((get_getD h).trans (get_getD k).symm)
theorem Tight.next (tk : TtOk n rows tt) {T : List Int} (h : Tight rows tt T) {a : Nat} {s t : Int} (hs : s ∈ T) (h1 : tt[a]? = some s) (h2 : t ∈ rows.getD a []) : t ∈ T := by
  obtain ⟨b, k1, k2⟩ := h s hs
  rw [at_inj tk h1 k1] at h2
  exact k2 t h2
theorem Tight.fw (tk : TtOk n rows tt) {T : List Int} (h : Tight rows tt T) {s t : Int} (hf : Fw rows tt s t) : s ∈ T → t ∈ T := by
  induction hf with
  | refl s => exact id
  | step h1 h2 _ ih => exact fun hs => ih (h.next tk hs h1 h2)
theorem Tight.cl (tk : TtOk n rows tt) {T : List Int} (h : Tight rows tt T) {s : Int} (hs : s ∈ T) : Cl n rows tt s := by
  obtain ⟨a, k1, _⟩ := h s hs
  refine ⟨List.mem_of_getElem? k1, fun o => ?_⟩
  clear k1
  induction o with
  | free h0 h1 h2 =>
    obtain ⟨b, k1, _⟩ := h _ hs
    exact h2 (List.mem_of_getElem? k1)
  | gone h1 _ => cases h1
  | step h1 h2 _ ih => exact ih (h.next tk hs h1 h2)
/-- what a closed slot leads to is tight -/
theorem reach_tight (ok : BookOk n rows) {r : Int} {U : List Int} (hr : Cl n rows tt r) (h : ∀ s, s ∈ U ↔ Fw rows tt r s) : Tight rows tt U := fun s hs => by
  have hf := (h s).mp hs
  obtain ⟨a, ha⟩ := List.mem_iff_getElem?.mp (hf.cl ok hr).1
  exact ⟨a, ha, fun t ht => (h t).mpr (hf.trans (.one ha ht))⟩
theorem Tight.of {T U : List Int} (h : Tight rows tt T) (e : ∀ s, s ∈ U ↔ s ∈ T) : Tight rows tt U := fun s hs => by
  obtain ⟨a, h1, h2⟩ := h s ((e s).mp hs)
  exact ⟨a, h1, fun t ht => (e t).mpr (h2 t ht)⟩
/-- a tight set has a minimal one inside -/
theorem exists_min : ∀ (N : Nat) (U : List Int), U.length ≤ N → U.Pairwise (· < ·) → U ≠ [] → Tight rows tt U → ∃ T, MinTight rows tt T ∧ ∀ s ∈ T, s ∈ U
  | 0, U, hl, _, ne, _ => absurd (List.eq_nil_of_length_eq_zero (by omega)) ne
  | N + 1, U, hl, asc, ne, ht => by
    by_cases c : ∃ V : List Int, V ≠ [] ∧ Tight rows tt V ∧ (∀ s ∈ V, s ∈ U) ∧ ∃ s ∈ U, s ∉ V
    · obtain ⟨V, v1, v2, v3, s, hs, hn⟩ := c
      have mem : ∀ x, x ∈ U.filter (fun x => decide (x ∈ V)) ↔ x ∈ V := fun x => by
        rw [List.mem_filter, decide_eq_true_eq]
        exact ⟨fun h => h.2, fun h => ⟨v3 x h, h⟩⟩
      have lt : (U.filter fun x => decide (x ∈ V)).length < U.length := by
        refine List.length_filter_lt_length_iff_exists.mpr ⟨s, hs, by simpa using hn⟩
      obtain ⟨y, hy⟩ := List.exists_mem_of_ne_nil V v1
      obtain ⟨T, h1, h2⟩ := exists_min N (U.filter fun x => decide (x ∈ V)) (by omega) (List.Pairwise.filter _ asc) (fun z => by
        have := (mem y).mpr hy
        rw [z] at this
        cases this) (v2.of mem)
      exact ⟨T, h1, fun x hx => v3 x ((mem x).mp (h2 x hx))⟩
    · refine ⟨U, ⟨asc, ne, ht, fun V v1 v2 v3 s hs => Classical.byContradiction fun hn => c ⟨V, v1, v2, v3, s, hs, hn⟩⟩, fun s hs => hs⟩
theorem MinTight.uniq {T U : List Int} (h : MinTight rows tt T) (k : MinTight rows tt U) {s : Int} (tk : TtOk n rows tt) (h1 : s ∈ T) (h2 : s ∈ U) : T = U := by
  have key : ∀ {T U : List Int}, MinTight rows tt T → MinTight rows tt U → s ∈ T → s ∈ U → ∀ x ∈ T, x ∈ U := fun {T U} h k h1 h2 => by
    have mem : ∀ x, x ∈ T.filter (fun x => decide (x ∈ U)) ↔ x ∈ T ∧ x ∈ U := fun x => by rw [List.mem_filter, decide_eq_true_eq]
    have ti : Tight rows tt (T.filter fun x => decide (x ∈ U)) := fun x hx => by
      obtain ⟨a, g1, g2⟩ := h.tight x ((mem x).mp hx).1
      exact ⟨a, g1, fun t ht => (mem t).mpr ⟨g2 t ht, k.tight.next tk ((mem x).mp hx).2 g1 ht⟩⟩
    intro x hx
    exact ((mem x).mp (h.min _ (fun z => by
      have := (mem s).mpr ⟨h1, h2⟩
      rw [z] at this
      cases this) ti (fun y hy => ((mem y).mp hy).1) x hx)).2
  exact ascI_uniq h.asc k.asc fun x => ⟨key h k h1 h2 x, key k h h2 h1 x⟩
/-- every slot of a minimal tight set leads to every other -/
theorem MinTight.conn (ok : BookOk n rows) (tk : TtOk n rows tt) {T : List Int} (h : MinTight rows tt T) {s t : Int} (hs : s ∈ T) (ht : t ∈ T) : Fw rows tt s t := by
  classical
  have mem : ∀ x, x ∈ T.filter (fun x => decide (Fw rows tt s x)) ↔ Fw rows tt s x := fun x => by
    rw [List.mem_filter, decide_eq_true_eq]
    exact ⟨fun h => h.2, fun k => ⟨h.tight.fw tk k hs, k⟩⟩
  have := h.min _ (fun z => by
    have := (mem s).mpr (.refl s)
    rw [z] at this
    cases this) (reach_tight ok (h.tight.cl tk hs) mem) (fun y hy => h.tight.fw tk ((mem y).mp hy) hs) t ht
  exact (mem t).mp this
/-! ### all of them, ascending -/
structure TightL (rows : List (List Int)) (tt : List Int) (L : List (List Int)) : Prop where
  mem : ∀ T, T ∈ L ↔ MinTight rows tt T
  asc : L.Pairwise fun a b => SrtV.lexLt a b = true
theorem lexLt_irr : ∀ {l : List Int}, SrtV.lexLt l l = false
  | [] => rfl
  | a :: l => by unfold SrtV.lexLt; rw [if_pos rfl]; exact lexLt_irr
theorem lexL_uniq : ∀ {l m : List (List Int)}, l.Pairwise (fun a b => SrtV.lexLt a b = true) → m.Pairwise (fun a b => SrtV.lexLt a b = true) → (∀ i, i ∈ l ↔ i ∈ m) → l = m
  | [], [], _, _, _ => rfl
  | [], b :: m, _, _, h => by have := (h b).mpr List.mem_cons_self; cases this
  | a :: l, [], _, _, h => by have := (h a).mp List.mem_cons_self; cases this
  | a :: l, b :: m, h1, h2, h => by
    obtain ⟨a1, a2⟩ := List.pairwise_cons.mp h1
    obtain ⟨b1, b2⟩ := List.pairwise_cons.mp h2
    have no : ∀ {x y : List Int}, SrtV.lexLt x y = true → SrtV.lexLt y x = true → False := fun {x y} p q => by
      rw [SrtV.lex_asymm p] at q
      cases q
    have irr : ∀ {x : List Int}, SrtV.lexLt x x = true → False := fun {x} p => by
      rw [lexLt_irr] at p
      cases p
    have e : a = b := by
      rcases List.mem_cons.mp ((h a).mp List.mem_cons_self) with z | z
      · exact z
      · rcases List.mem_cons.mp ((h b).mpr List.mem_cons_self) with y | y
        · exact y.symm
        · exact (no (b1 a z) (a1 b y)).elim
    subst e
    rw [lexL_uniq a2 b2 fun i => ⟨fun hi => ?_, fun hi => ?_⟩]
    · rcases List.mem_cons.mp ((h i).mp (List.mem_cons_of_mem _ hi)) with z | z
      · subst z; exact (irr (a1 i hi)).elim
      · exact z
    · rcases List.mem_cons.mp ((h i).mpr (List.mem_cons_of_mem _ hi)) with z | z
      · subst z; exact (irr (b1 i hi)).elim
      · exact z
theorem TightL.uniq {L M : List (List Int)} (h : TightL rows tt L) (k : TightL rows tt M) : L = M := lexL_uniq h.asc k.asc fun T => (h.mem T).trans (k.mem T).symm
theorem TightL.of {L M : List (List Int)} (hm : ∀ T, T ∈ L ↔ MinTight rows tt T) (nd : L.Nodup) (hp : M.Perm L) (hs : M.Pairwise fun l m => SrtV.lexLt m l = false) : TightL rows tt M := by
  refine ⟨fun T => (hp.mem_iff).trans (hm T), ?_⟩
  have nd2 : M.Nodup := hp.nodup_iff.mpr nd
  refine (List.Pairwise.and hs nd2).imp fun {a b} h => ?_
  cases c : SrtV.lexLt a b with
  | true => rfl
  | false => exact absurd (SrtV.lex_antisymm c h.1) h.2
theorem TightL.apart (tk : TtOk n rows tt) {L : List (List Int)} (h : TightL rows tt L) {T U : List Int} (hT : T ∈ L) (hU : U ∈ L) {s : Int} (h1 : s ∈ T) (h2 : s ∈ U) : T = U := ((h.mem T).mp hT).uniq ((h.mem U).mp hU) tk h1 h2
/-! ### roots -/
structure RootsOk (n : Int) (rows : List (List Int)) (tt : List Int) (rs : List Int) : Prop where
  cl : ∀ r ∈ rs, Cl n rows tt r
  nd : rs.Nodup
  min : ∀ T, MinTight rows tt T → ∃ pre r post, rs = pre ++ r :: post ∧ r ∈ T ∧ (∀ x ∈ pre, ∀ t ∈ T, ¬ Fw rows tt x t) ∧ ∀ x ∈ pre ++ post, x ∉ T
/-- the roots so far, those that wait as bits, the first j looked at -/
structure RootI (n : Int) (rows : List (List Int)) (tt : List Int) (R : List Int) (W : Nat) (j : Nat) : Prop where
  bits : ∀ a, W.testBit a = true → a < rows.length ∧ Cl n rows tt (tt.getD a 0)
  fw : ∀ a b t, W.testBit a = true → t ∈ rows.getD a [] → tt[b]? = some t → W.testBit b = true
  past : ∀ a, a < j → W.testBit a = false
  cl : ∀ r ∈ R, Cl n rows tt r ∧ ∀ a, tt[a]? = some r → W.testBit a = false
  nd : R.Nodup
  min : ∀ T, MinTight rows tt T → (∀ t ∈ T, ∀ a, tt[a]? = some t → W.testBit a = true) ∨
    ((∀ t ∈ T, ∀ a, tt[a]? = some t → W.testBit a = false) ∧ ∃ pre r post, R = pre ++ r :: post ∧ r ∈ T ∧ (∀ x ∈ post, ∀ t ∈ T, ¬ Fw rows tt x t) ∧ ∀ x ∈ pre ++ post, x ∉ T)
theorem wait_fw (tk : TtOk n rows tt) {W : Nat} (fw : ∀ a b t, W.testBit a = true → t ∈ rows.getD a [] → tt[b]? = some t → W.testBit b = true) (cl : ∀ a, W.testBit a = true → a < rows.length ∧ Cl n rows tt (tt.getD a 0)) (ok : BookOk n rows) {x t : Int} (hf : Fw rows tt x t) : ∀ a b, tt[a]? = some x → W.testBit a = true → tt[b]? = some t → W.testBit b = true := by
  induction hf with
  | refl s => exact fun a b h1 h2 h3 => by rw [← at_inj tk h1 h3]; exact h2
  | @step c s t u h1 h2 _ ih =>
    intro a b k1 k2 k3
    have e := at_inj tk h1 k1
    subst e
    have c1 := cl c k2
    rw [get_getD k1] at c1
    obtain ⟨d, hd⟩ := List.mem_iff_getElem?.mp (c1.2.next ok h1 h2).1
    exact ih d b hd (fw c d t k2 h2 hd) k3
/-- a root: what leads to it waits no more -/
theorem RootI.next (ok : BookOk n rows) (tk : TtOk n rows tt) {R : List Int} {W W' j : Nat} (h : RootI n rows tt R W j) (hj : W.testBit j = true) (hjl : j < rows.length)
    (hW : ∀ a, W'.testBit a = true ↔ W.testBit a = true ∧ ¬ ∃ d, RR rows tt (W - 2 ^ j) [tt.getD j 0] d (tt.getD a 0)) (hb : ∀ a, (W - 2 ^ j).testBit a = true ↔ W.testBit a = true ∧ a ≠ j) : RootI n rows tt (R ++ [tt.getD j 0]) W' (j + 1) := by
  obtain ⟨root, hroot⟩ : ∃ r, r = tt.getD j 0 := ⟨_, rfl⟩
  rw [← hroot] at hW ⊢
  have jt : tt[j]? = some root := by rw [hroot]; exact getD_get (by rw [tk.len]; exact hjl)
  have rootCl : Cl n rows tt root := by rw [hroot]; exact (h.bits j hj).2
  have out : ∀ {a : Nat}, W'.testBit a = false → W.testBit a = true → ∃ d, RR rows tt (W - 2 ^ j) [root] d (tt.getD a 0) := fun {a} h1 h2 => Classical.byContradiction fun c => by
    have := (hW a).mpr ⟨h2, c⟩
    rw [h1] at this
    cases this
  have off : ∀ {a : Nat}, W.testBit a = false → W'.testBit a = false := fun {a} h1 => by
    cases e : W'.testBit a with
    | false => rfl
    | true =>
      have := ((hW a).mp e).1
      rw [h1] at this
      cases this
  have gone : ∀ {a : Nat} {d : Nat}, RR rows tt (W - 2 ^ j) [root] d (tt.getD a 0) → W'.testBit a = false := fun {a d} hr => by
    cases e : W'.testBit a with
    | false => rfl
    | true => exact (((hW a).mp e).2 ⟨d, hr⟩).elim
  have rootIn : RR rows tt (W - 2 ^ j) [root] 0 root := List.mem_singleton.mpr rfl
  have jOff : W'.testBit j = false := gone (d := 0) (by rw [← hroot]; exact rootIn)
  have rootNew : root ∉ R := fun z => by
    have := (h.cl root z).2 j jt
    rw [hj] at this
    cases this
  refine ⟨fun a ha => h.bits a ((hW a).mp ha).1, fun a b t h1 h2 h3 => ?_, fun a ha => ?_, fun r hr => ?_, ?_, fun T hT => ?_⟩
  · obtain ⟨k1, k2⟩ := (hW a).mp h1
    refine (hW b).mpr ⟨h.fw a b t k1 h2 h3, fun ⟨d, hd⟩ => k2 ⟨d + 1, a, (hb a).mpr ⟨k1, fun e => ?_⟩, rfl, t, h2, ?_⟩⟩
    · subst e
      rw [jOff] at h1
      cases h1
    · rw [get_getD h3] at hd
      exact hd
  · rcases Nat.lt_or_ge a j with z | z
    · exact off (h.past a z)
    · rw [show a = j by omega]; exact jOff
  · rcases List.mem_append.mp hr with hr | hr
    · exact ⟨(h.cl r hr).1, fun a ha => off ((h.cl r hr).2 a ha)⟩
    · rw [List.mem_singleton.mp hr]
      exact ⟨rootCl, fun a ha => by rw [at_inj tk ha jt]; exact jOff⟩
  · exact List.nodup_append.mpr ⟨h.nd, by simp, fun x hx y hy e => rootNew (by rw [← List.mem_singleton.mp hy, ← e]; exact hx)⟩
  · have bitsAt : ∀ {t : Int}, t ∈ T → ∃ a, tt[a]? = some t ∧ a < rows.length := fun {t} ht => by
      obtain ⟨a, ha, _⟩ := hT.tight t ht
      exact ⟨a, ha, by rw [← tk.len]; exact (List.getElem?_eq_some_iff.mp ha).1⟩
    rcases h.min T hT with hw | ⟨hw, pre, r, post, e1, e2, e3, e4⟩
    · by_cases c : root ∈ T
      · right
        -- each slot of T leads to the root
        have all : ∀ t ∈ T, ∃ d, RR rows tt (W - 2 ^ j) [root] d t := fun t ht => by
          have key : ∀ {t u : Int}, Fw rows tt t u → u = root → t ∈ T → ∃ d, RR rows tt (W - 2 ^ j) [root] d t := fun {t u} hf => by
            induction hf with
            | refl s => exact fun e _ => ⟨0, List.mem_singleton.mpr e⟩
            | @step a s t u h1 h2 _ ih =>
              intro e ht
              by_cases z : a = j
              · subst z
                rw [jt] at h1
                cases h1
                exact ⟨0, rootIn⟩
              · obtain ⟨d, hd⟩ := ih e (hT.tight.next tk ht h1 h2)
                exact ⟨d + 1, a, (hb a).mpr ⟨hw s ht a h1, z⟩, get_getD h1, t, h2, hd⟩
          exact key (hT.conn ok tk ht c) rfl ht
        refine ⟨fun t ht a ha => ?_, R, root, [], rfl, c, by simp, fun x hx => ?_⟩
        · obtain ⟨d, hd⟩ := all t ht
          exact gone (d := d) (by rw [get_getD ha]; exact hd)
        · rw [List.append_nil] at hx
          intro hxT
          obtain ⟨a, ha, _⟩ := bitsAt hxT
          have := (h.cl x hx).2 a ha
          rw [hw x hxT a ha] at this
          cases this
      · left
        intro t ht a ha
        refine (hW a).mpr ⟨hw t ht a ha, fun ⟨d, hd⟩ => c ?_⟩
        rw [get_getD ha] at hd
        clear ha
        induction d generalizing t with
        | zero =>
          have : t = root := List.mem_singleton.mp hd
          rw [← this]
          exact ht
        | succ d ih =>
          obtain ⟨b, h1, h2, u, h3, h4⟩ := hd
          have hb1 : tt[b]? = some t := by
            have lb := (h.bits b ((hb b).mp h1).1).1
            rw [← h2]
            exact getD_get (by rw [tk.len]; exact lb)
          exact ih u (hT.tight.next tk ht hb1 h3) h4
    · right
      refine ⟨fun t ht a ha => off (hw t ht a ha), pre, r, post ++ [root], by rw [e1]; simp, e2, fun x hx t ht hf => ?_, fun x hx hxT => ?_⟩
      · rcases List.mem_append.mp hx with hx | hx
        · exact e3 x hx t ht hf
        · rw [List.mem_singleton.mp hx] at hf
          obtain ⟨a, ha, _⟩ := bitsAt ht
          have := wait_fw tk h.fw h.bits ok hf j a jt hj ha
          rw [hw t ht a ha] at this
          cases this
      · rw [← List.append_assoc] at hx
        rcases List.mem_append.mp hx with hx | hx
        · exact e4 x hx hxT
        · rw [List.mem_singleton.mp hx] at hxT
          have := hw root hxT j jt
          rw [hj] at this
          cases this
theorem RootI.done (tk : TtOk n rows tt) {R : List Int} {W j : Nat} (h : RootI n rows tt R W j) (hj : rows.length ≤ j) : RootsOk n rows tt R.reverse := by
  refine ⟨fun r hr => (h.cl r (List.mem_reverse.mp hr)).1, (List.reverse_perm R).nodup_iff.mpr h.nd, fun T hT => ?_⟩
  rcases h.min T hT with hw | ⟨_, pre, r, post, e1, e2, e3, e4⟩
  · obtain ⟨t, ht⟩ := List.exists_mem_of_ne_nil T hT.ne
    obtain ⟨a, ha, _⟩ := hT.tight t ht
    have la : a < rows.length := by rw [← tk.len]; exact (List.getElem?_eq_some_iff.mp ha).1
    have := h.past a (by omega)
    rw [hw t ht a ha] at this
    cases this
  · refine ⟨post.reverse, r, pre.reverse, by rw [e1]; simp, e2, fun x hx => e3 x (List.mem_reverse.mp hx), fun x hx => e4 x ?_⟩
    rcases List.mem_append.mp hx with hx | hx
    · exact List.mem_append_right _ (List.mem_reverse.mp hx)
    · exact List.mem_append_left _ (List.mem_reverse.mp hx)
end
end Law
/-! the search from each root -/
namespace Law
open PySem PySem.Spec PyProof.Rows L2 PV
abbrev Kno := Int → Option Int
structure OnwSome (rows : List (List Int)) (tt : List Int) (m : Kno) (root : Int) (inside : List Int) (m' : Kno) : Prop where
  nd : inside.Nodup
  mem : ∀ s, s ∈ inside ↔ Fw rows tt root s
  new : ∀ s ∈ inside, s ≠ root → m s = none
  kn : ∀ s, m' s = if s ∈ inside then some root else m s
structure OnwNone (rows : List (List Int)) (tt : List Int) (m : Kno) (root : Int) (m' : Kno) : Prop where
  met : ∃ s v, Fw rows tt root s ∧ s ≠ root ∧ m s = some v
  back : ∀ s v, m' s = some v → m s = some v ∨ (v = root ∧ Fw rows tt root s)
  keep : ∀ s v, s ≠ root → m s = some v → m' s = some v
theorem split_uniq {r : Int} : ∀ {p q p' q' : List Int}, (p ++ r :: q).Nodup → p ++ r :: q = p' ++ r :: q' → p = p'
  | [], q, [], q', _, _ => rfl
  | [], q, x :: p', q', nd, e => by
    injection e with e1 e2
    subst e1
    rw [e2] at nd
    exact absurd (List.mem_append_right _ List.mem_cons_self) (List.nodup_cons.mp nd).1
  | x :: p, q, [], q', nd, e => by
    injection e with e1 e2
    subst e1
    exact absurd (List.mem_append_right _ List.mem_cons_self) (List.nodup_cons.mp nd).1
  | x :: p, q, y :: p', q', nd, e => by
    injection e with e1 e2
    rw [e1, split_uniq (List.nodup_cons.mp nd).2 e2]
section
variable {n : Int} {rows : List (List Int)} {tt : List Int} {rs pre rest : List Int} {r : Int} {m m' : Kno} {F : List (List Int)}
structure TI (rows : List (List Int)) (tt : List Int) (pre : List Int) (m : Kno) (F : List (List Int)) : Prop where
  k1 : ∀ s v, m s = some v → v ∈ pre ∧ Fw rows tt v s
  k2 : ∀ T, MinTight rows tt T → ∀ x ∈ pre, x ∈ T → T ∈ F ∧ ∀ t ∈ T, m t = some x
  k3 : ∀ T ∈ F, MinTight rows tt T ∧ ∃ x ∈ pre, x ∈ T
  k4 : F.Nodup
theorem TI.start : TI rows tt [] (fun _ => Option.none) [] := ⟨fun s v h => (by cases h), fun T _ x h => (by cases h), fun T h => (by cases h), List.nodup_nil⟩
theorem RootsOk.only (h : RootsOk n rows tt rs) {T : List Int} (hT : MinTight rows tt T) {x y : Int} (hx : x ∈ rs) (hy : y ∈ rs) (h1 : x ∈ T) (h2 : y ∈ T) : x = y := by
  obtain ⟨p, r, q, e, _, _, e4⟩ := h.min T hT
  have key : ∀ {z : Int}, z ∈ rs → z ∈ T → z = r := fun {z} hz h => by
    rw [e] at hz
    rcases List.mem_append.mp hz with hz | hz
    · exact absurd h (e4 z (List.mem_append_left _ hz))
    · rcases List.mem_cons.mp hz with hz | hz
      · exact hz
      · exact absurd h (e4 z (List.mem_append_right _ hz))
  rw [key hx h1, key hy h2]
theorem RootsOk.notin (h : RootsOk n rows tt rs) (e : rs = pre ++ r :: rest) : r ∉ pre ∧ r ∈ rs ∧ ∀ x ∈ pre, x ∈ rs := by
  have nd := h.nd
  rw [e] at nd
  refine ⟨fun z => (List.nodup_append.mp nd).2.2 r z r List.mem_cons_self rfl, by rw [e]; simp, fun x hx => by rw [e]; simp [hx]⟩
/-- nothing before met a minimal tight set of this root -/
theorem RootsOk.before (h : RootsOk n rows tt rs) (e : rs = pre ++ r :: rest) {T : List Int} (hT : MinTight rows tt T) (hr : r ∈ T) {x t : Int} (hx : x ∈ pre) (ht : t ∈ T) : ¬ Fw rows tt x t := by
  obtain ⟨p, r', q, e1, e2, e3, e4⟩ := h.min T hT
  have hin := h.notin e
  have er : r = r' := h.only hT hin.2.1 (by rw [e1]; simp) hr e2
  subst er
  have nd := h.nd
  rw [e] at nd
  have : pre = p := split_uniq nd (by rw [← e, ← e1])
  rw [this] at hx
  exact e3 x hx t ht
theorem TI.some (ok : BookOk n rows) (tk : TtOk n rows tt) (hR : RootsOk n rows tt rs) (e : rs = pre ++ r :: rest) (h : TI rows tt pre m F) {inside : List Int} (k : OnwSome rows tt m r inside m') : TI rows tt (pre ++ [r]) m' (F ++ [isort inside]) := by
  obtain ⟨rn, rin, prs⟩ := hR.notin e
  have rcl := hR.cl r rin
  have mem : ∀ s, s ∈ isort inside ↔ Fw rows tt r s := fun s => mem_isort.trans (k.mem s)
  have ti : Tight rows tt (isort inside) := reach_tight ok rcl mem
  have rI : r ∈ isort inside := (mem r).mpr (.refl r)
  have asc := isort_asc k.nd
  have mt : MinTight rows tt (isort inside) := by
    obtain ⟨T, hT, sub⟩ := exists_min _ _ (Nat.le_refl _) asc (fun z => by rw [z] at rI; cases rI) ti
    obtain ⟨p, x, q, e1, e2, e3, e4⟩ := hR.min T hT
    have fx : Fw rows tt r x := (mem x).mp (sub x e2)
    have hx : r = x ∨ r ∈ q := by
      have := rin
      rw [e1] at this
      rcases List.mem_append.mp this with z | z
      · exact absurd fx (e3 r z x e2)
      · exact List.mem_cons.mp z
    rcases hx with rfl | hq
    · have : T = isort inside := ascI_uniq hT.asc asc fun s => ⟨sub s, fun hs => hT.tight.fw tk ((mem s).mp hs) e2⟩
      rw [← this]
      exact hT
    · obtain ⟨q1, q2, rfl⟩ := List.append_of_mem hq
      have nd := hR.nd
      rw [e] at nd
      have : pre = p ++ x :: q1 := split_uniq (q' := q2) nd (by rw [← e, e1]; simp)
      have xp : x ∈ pre := by rw [this]; simp
      have := (h.k2 T hT x xp e2).2 x e2
      have xr : x ≠ r := fun z => rn (z ▸ xp)
      rw [k.new x (mem_isort.mp (sub x e2)) xr] at this
      cases this
  have only : ∀ {T : List Int}, MinTight rows tt T → ∀ {x : Int}, x ∈ pre → x ∈ T → r ∉ T := fun hT x hx hxT hr => rn (hR.only hT (prs x hx) rin hxT hr ▸ hx)
  refine ⟨fun s v hv => ?_, fun T hT x hx hxT => ?_, fun T hT => ?_, ?_⟩
  · rw [k.kn] at hv
    by_cases c : s ∈ inside
    · rw [if_pos c] at hv
      cases hv
      exact ⟨by simp, (k.mem s).mp c⟩
    · rw [if_neg c] at hv
      obtain ⟨h1, h2⟩ := h.k1 s v hv
      exact ⟨List.mem_append_left _ h1, h2⟩
  · rcases List.mem_append.mp hx with hx | hx
    · obtain ⟨h1, h2⟩ := h.k2 T hT x hx hxT
      refine ⟨List.mem_append_left _ h1, fun t ht => ?_⟩
      have tr : t ≠ r := fun z => only hT hx hxT (z ▸ ht)
      have : t ∉ inside := fun z => by
        have := h2 t ht
        rw [k.new t z tr] at this
        cases this
      rw [k.kn, if_neg this]
      exact h2 t ht
    · have := List.mem_singleton.mp hx
      subst this
      have eT : T = isort inside := hT.uniq mt tk hxT rI
      refine ⟨List.mem_append_right _ (by rw [eT]; simp), fun t ht => ?_⟩
      rw [eT] at ht
      rw [k.kn, if_pos (mem_isort.mp ht)]
  · rcases List.mem_append.mp hT with hT | hT
    · obtain ⟨h1, x, h2, h3⟩ := h.k3 T hT
      exact ⟨h1, x, List.mem_append_left _ h2, h3⟩
    · rw [List.mem_singleton.mp hT]
      exact ⟨mt, r, by simp, rI⟩
  · refine List.nodup_append.mpr ⟨h.k4, by simp, fun T hT U hU e => ?_⟩
    rw [List.mem_singleton.mp hU] at e
    subst e
    obtain ⟨_, x, h2, h3⟩ := h.k3 _ hT
    exact only mt h2 h3 rI
theorem TI.none (tk : TtOk n rows tt) (hR : RootsOk n rows tt rs) (e : rs = pre ++ r :: rest) (h : TI rows tt pre m F) (k : OnwNone rows tt m r m') : TI rows tt (pre ++ [r]) m' F := by
  obtain ⟨rn, rin, prs⟩ := hR.notin e
  refine ⟨fun s v hv => ?_, fun T hT x hx hxT => ?_, fun T hT => ?_, h.k4⟩
  · rcases k.back s v hv with z | ⟨rfl, z⟩
    · obtain ⟨h1, h2⟩ := h.k1 s v z
      exact ⟨List.mem_append_left _ h1, h2⟩
    · exact ⟨by simp, z⟩
  · rcases List.mem_append.mp hx with hx | hx
    · obtain ⟨h1, h2⟩ := h.k2 T hT x hx hxT
      refine ⟨h1, fun t ht => k.keep t x (fun z => ?_) (h2 t ht)⟩
      rw [z] at ht
      exact rn (hR.only hT (prs x hx) rin hxT ht ▸ hx)
    · have := List.mem_singleton.mp hx
      subst this
      obtain ⟨s, v, h1, _, h3⟩ := k.met
      obtain ⟨h4, h5⟩ := h.k1 s v h3
      exact absurd h5 (hR.before e hT hxT h4 (hT.tight.fw tk h1 hxT))
  · obtain ⟨h1, x, h2, h3⟩ := h.k3 T hT
    exact ⟨h1, x, List.mem_append_left _ h2, h3⟩
theorem TI.done (hR : RootsOk n rows tt rs) (h : TI rows tt rs m F) {M : List (List Int)} (hp : M.Perm F) (hs : M.Pairwise fun l m => SrtV.lexLt m l = false) : TightL rows tt M :=
  TightL.of (fun T => ⟨fun hT => (h.k3 T hT).1, fun hT => by
    obtain ⟨p, x, q, e1, e2, _⟩ := hR.min T hT
    exact (h.k2 T hT x (by rw [e1]; simp) e2).1⟩) h.k4 hp hs
/-! ### the search -/
structure OI (rows : List (List Int)) (tt : List Int) (m : Kno) (root : Int) (Ins Wt : List Int) (skip : Int → Prop) : Prop where
  nd : Ins.Nodup
  rt : root ∈ Ins
  fw : ∀ s ∈ Ins, Fw rows tt root s
  sub : ∀ s ∈ Wt, s ∈ Ins
  new : ∀ s ∈ Ins, s ≠ root → m s = Option.none
  done : ∀ s ∈ Ins, s ∉ Wt → ¬ skip s → ∀ a : Nat, tt[a]? = Option.some s → ∀ t ∈ rows.getD a [], t ∈ Ins
theorem OI.start {root : Int} : OI rows tt m root [root] [root] (fun _ => False) :=
  ⟨by simp, by simp, fun s h => by rw [List.mem_singleton.mp h]; exact .refl _, fun s h => h, fun s h ne => absurd (List.mem_singleton.mp h) ne, fun s h ne => absurd h ne⟩
theorem OI.len (ok : BookOk n rows) (tk : TtOk n rows tt) {root : Int} {Ins W : List Int} {sk : Int → Prop} (h : OI rows tt m root Ins W sk) (hc : Cl n rows tt root) : Ins.length ≤ 60 := by
  have := List.Nodup.length_le_of_subset h.nd (l₂ := tt) fun s hs => ((h.fw s hs).cl ok hc).1
  rw [tk.len] at this
  have := ok.len
  omega
end
end Law
namespace Law
open PySem PySem.Spec PyProof.Rows L2 PV
/-- the slot of a new appointment -/
def insOf (n : Int) (rows : List (List Int)) (tt row : List Int) : Option Int := (keysOf (waysOut n rows tt [])).find? fun s => decide (s ∈ row)
def insD (n : Int) (rows : List (List Int)) (tt row : List Int) : D := match insOf n rows tt row with
  | some s => .tup [.str "placed", .lst ((stepsOf n rows tt s).map mvD), .int s]
  | none => .tup [.str "full", ttD (closedS n rows tt)]
def hd0 (T : List Int) : Int := T.headD 0
/-- an appointment of each minimal tight set -/
def goneL (tt : List Int) (L : List (List Int)) : List Int := isort (L.map fun T => ((tt.idxOf (hd0 T) : Nat) : Int))
/-- the answer to a question -/
def Ans (n : Int) (rows : List (List Int)) (tt : List Int) (way one : Int) (row : List Int) (A : D) : Prop :=
  if way = 0 then A = insD n rows tt row else if way = 1 ∨ rows = [] then ∃ L, TightL rows tt L ∧ A = .tup [.lst (L.map tuD), .tup [.tup ((goneL tt L).map D.int), .lst (L.map tuD)]] else
    A = .tup [.lst ((optL n rows tt one.toNat).map D.int), .lst ((optL n rows tt one.toNat).map fun s => .lst (((bringOf n rows tt one.toNat s).getD []).map mvD))]
end Law
/-! dicts from ints to numbers -/
namespace Law
open PySem PySem.Spec PyProof.Rows L2 PV
def lkD (ks : List Int) (ds : List Nat) (s : Int) : Option Nat := ((ks.zip ds).find? fun p => decide (p.1 = s)).map (·.2)
theorem lkD_some : ∀ {ks : List Int} {ds : List Nat} {s : Int} {i d : Nat}, ks.Nodup → ks[i]? = some s → ds[i]? = some d → lkD ks ds s = some d
  | [], _, _, _, _, _, h, _ => by simp at h
  | k :: ks, [], _, _, _, _, _, h => by simp at h
  | k :: ks, e :: ds, s, 0, d, nd, h1, h2 => by
    simp at h1 h2
    subst h1 h2
    simp [lkD]
  | k :: ks, e :: ds, s, i + 1, d, nd, h1, h2 => by
    have ih := lkD_some (List.nodup_cons.mp nd).2 (by simpa using h1) (by simpa using h2)
    have ne : k ≠ s := fun z => (List.nodup_cons.mp nd).1 (z ▸ List.mem_of_getElem? (by simpa using h1))
    unfold lkD at ih ⊢
    simp only [List.zip_cons_cons, List.find?_cons, decide_eq_false ne]
    exact ih
/-! ### the open slots, turn by turn -/
section
variable {n : Int} {rows : List (List Int)} {tt : List Int}
structure OL (n : Int) (rows : List (List Int)) (tt : List Int) (T : Nat) (ks : List Int) (ds : List Nat) : Prop where
  nd : ks.Nodup
  len : ds.length = ks.length
  mem : ∀ s, s ∈ ks ↔ ∃ d, d ≤ T ∧ DistS n rows tt d s
  dist : ∀ (i : Nat) (s : Int) (d : Nat), ks[i]? = some s → ds[i]? = some d → DistS n rows tt d s
theorem dist_zero {s : Int} : DistS n rows tt 0 s ↔ s ∈ freeS n tt := ⟨fun h => h.1, fun h => ⟨h, fun e he => by omega⟩⟩
theorem OL.start : OL n rows tt 0 (freeS n tt) ((freeS n tt).map fun _ => 0) := by
  refine ⟨freeS_nodup, by simp, fun s => ⟨fun h => ⟨0, Nat.le_refl _, dist_zero.mpr h⟩, fun ⟨d, h1, h2⟩ => ?_⟩, fun i s d h1 h2 => ?_⟩
  · have : d = 0 := by omega
    subst this
    exact dist_zero.mp h2
  · rw [List.getElem?_map, h1] at h2
    simp at h2
    subst h2
    exact dist_zero.mpr (List.mem_of_getElem? h1)
/-- in a turn: the first j appointments are looked at -/
structure OT (n : Int) (rows : List (List Int)) (tt : List Int) (T : Nat) (ks : List Int) (ds : List Nat) (j : Nat) (ks' : List Int) (ds' : List Nat) : Prop where
  ex : ∃ new : List Int, ks' = ks ++ new ∧ ds' = ds ++ new.map (fun _ => T + 1) ∧ new.Nodup ∧ ∀ s ∈ new, DistS n rows tt (T + 1) s ∧ s ∈ tt.take j
  all : ∀ a, a < j → a < tt.length → DistS n rows tt (T + 1) (tt.getD a 0) → tt.getD a 0 ∈ ks'
theorem OT.start {T : Nat} {ks : List Int} {ds : List Nat} : OT n rows tt T ks ds 0 ks ds := ⟨⟨[], by simp, by simp, by simp, by simp⟩, fun a h => by omega⟩
theorem OT.nd {T j : Nat} {ks ks' : List Int} {ds ds' : List Nat} (h : OL n rows tt T ks ds) (k : OT n rows tt T ks ds j ks' ds') : ks'.Nodup := by
  obtain ⟨new, rfl, rfl, nd, hn⟩ := k.ex
  refine List.nodup_append.mpr ⟨h.nd, nd, fun s h1 t h2 e => ?_⟩
  subst e
  obtain ⟨d, h3, h4⟩ := (h.mem s).mp h1
  have := h4.uniq (hn s h2).1
  omega
theorem OL.done {T : Nat} {ks : List Int} {ds : List Nat} (tk : TtOk n rows tt) (h : OL n rows tt T ks ds) (hT : ∀ s, ¬ DistS n rows tt T s) : Opened n rows tt ks ds := by
  refine ⟨h.nd, h.len, fun s => ?_, h.dist⟩
  rw [mem_openS tk, opn_dist tk, h.mem]
  constructor
  · rintro ⟨d, _, e⟩; exact ⟨d, e⟩
  · rintro ⟨d, e⟩
    obtain ⟨f, h1, h2⟩ := no_more hT d s e.1
    obtain ⟨g, h3, h4⟩ := h2.min
    exact ⟨g, by omega, h4⟩
end
end Law
namespace Law
open PySem PySem.Spec PyProof.Rows L2 PV
section
variable {n : Int} {rows : List (List Int)} {gs tt : List Int}
theorem PreOk.snoc (pk : PreOk rows gs) (h : gs.length < rows.length) {y : Int} (hy : y ∈ rows.getD gs.length []) (hn : y ∉ gs) : PreOk rows (gs ++ [y]) := by
  refine ⟨by simp; omega, fun a s r h1 h2 => ?_, List.nodup_append.mpr ⟨pk.nd, by simp, fun x hx z hz e => hn (by rw [← List.mem_singleton.mp hz, ← e]; exact hx)⟩⟩
  rcases Nat.lt_or_ge a gs.length with z | z
  · rw [List.getElem?_append_left z] at h1
    exact pk.mem a s r h1 h2
  · rw [List.getElem?_append_right z] at h1
    have ha : a = gs.length := by
      have := (List.getElem?_eq_some_iff.mp h1).1
      simp at this
      omega
    subst ha
    simp at h1
    subst h1
    rw [List.getD_eq_getElem?_getD, h2] at hy
    exact hy
end
/-! ### _law_case -/
end Law
namespace Law
open PySem PySem.Spec PyProof.Rows L2 PV
theorem Opened.lk {n : Int} {rows : List (List Int)} {tt ks : List Int} {ds : List Nat} (h : Opened n rows tt ks ds) {s : Int} (hs : s ∈ ks) : ∃ d, lkD ks ds s = some d ∧ DistS n rows tt d s := by
  obtain ⟨i, hi⟩ := List.mem_iff_getElem?.mp hs
  have hl : i < ds.length := by rw [h.len]; exact (List.getElem?_eq_some_iff.mp hi).1
  exact ⟨_, lkD_some h.nd hi (List.getElem?_eq_getElem hl), h.dist i s _ hi (List.getElem?_eq_getElem hl)⟩
end Law
/-! appointments cancelled -/
namespace Law
open PySem PySem.Spec PyProof.Rows L2 PV
section
variable {n : Int} {rows : List (List Int)} {tt : List Int} {gone : List Nat}
theorem row_get {a : Nat} (h : a < rows.length) : rows[a]? = some (rows.getD a []) := by rw [List.getD_eq_getElem?_getD, List.getElem?_eq_getElem h]; rfl
end
end Law
/-! rings and tails -/
namespace Law
open PySem PySem.Spec PyProof.Rows L2 PV
/-- i leads to j: each row names its own slot and one other -/
inductive Lead (rws : List (List Int)) : Nat → Nat → Prop
  | refl (i : Nat) : Lead rws i i
  | step {i x j : Nat} : rws[i]? = some [(i : Int), (x : Int)] → Lead rws x j → Lead rws i j
theorem Lead.trans {rws : List (List Int)} {i j k : Nat} (h : Lead rws i j) (h2 : Lead rws j k) : Lead rws i k := by
  induction h with
  | refl => exact h2
  | step a _ ih => exact .step a (ih h2)
theorem Lead.app {rws new : List (List Int)} {i j : Nat} (h : Lead rws i j) : Lead (rws ++ new) i j := by
  induction h with
  | refl i => exact .refl i
  | step a _ ih => exact .step (by rw [List.getElem?_append_left (List.getElem?_eq_some_iff.mp a).1]; exact a) ih
/-- a ring among rows -/
structure RingOk (rws : List (List Int)) (r : List Nat) : Prop where
  ne : r ≠ []
  lt : ∀ i ∈ r, i < rws.length
  nd : r.Nodup
  cl : ∀ i ∈ r, ∃ x ∈ r, rws[i]? = some [(i : Int), (x : Int)]
  cn : ∀ i ∈ r, ∀ j ∈ r, Lead rws i j
theorem RingOk.app {rws new : List (List Int)} {r : List Nat} (h : RingOk rws r) : RingOk (rws ++ new) r :=
  ⟨h.ne, fun i hi => by rw [List.length_append]; have := h.lt i hi; omega, h.nd, fun i hi => by
    obtain ⟨x, h1, h2⟩ := h.cl i hi
    exact ⟨x, h1, by rw [List.getElem?_append_left (h.lt i hi)]; exact h2⟩, fun i hi j hj => (h.cn i hi j hj).app⟩
end Law
/-! rings and tails under other names, in another order -/
namespace Law
open PySem PySem.Spec PyProof.Rows L2 PV
abbrev nmI (names : List Int) (i : Nat) : Int := names.getD i 0
section
variable {rws : List (List Int)} {rgs : List (List Nat)} {names : List Int} {places : List Nat} {N : Nat}
structure Ren (rws : List (List Int)) (names : List Int) (places : List Nat) (N : Nat) : Prop where
  len : rws.length = N
  nm : names.Perm (irange N)
  pl : places.Perm (List.range N)
theorem Ren.nlen (h : Ren rws names places N) : names.length = N := by
  have := h.nm.length_eq
  rw [irange_len] at this
  simpa using this
theorem Ren.inj (h : Ren rws names places N) {i j : Nat} (hi : i < N) (hj : j < N) (e : nmI names i = nmI names j) : i = j := by
  have nd : names.Nodup := h.nm.nodup_iff.mpr (irange_asc.imp fun {a b} h => by omega)
  have l := h.nlen
  unfold nmI at e
  rw [List.getD_eq_getElem?_getD, List.getD_eq_getElem?_getD, List.getElem?_eq_getElem (by omega), List.getElem?_eq_getElem (by omega)] at e
  exact (List.getElem_inj nd).mp (by simpa using e)
theorem Ren.of (h : Ren rws names places N) {s : Int} (h0 : 0 ≤ s) (h1 : s < (N : Int)) : ∃ i, i < N ∧ s = nmI names i := by
  obtain ⟨i, hi⟩ := List.mem_iff_getElem?.mp (h.nm.mem_iff.mpr (mem_irange.mpr ⟨h0, h1⟩))
  exact ⟨i, by rw [← h.nlen]; exact (List.getElem?_eq_some_iff.mp hi).1, (get_getD hi).symm⟩
theorem Ren.at (h : Ren rws names places N) {i : Nat} (hi : i < N) : ∃ j : Nat, places[j]? = some i := List.mem_iff_getElem?.mp (h.pl.mem_iff.mpr (List.mem_range.mpr hi))
end
end Law
/-! from one timetable to another: chains, cycles -/
namespace Law
open PySem PySem.Spec PyProof.Rows L2 PV
/-- x -> l -> y -/
def Pth (R : Nat → Nat → Prop) : Nat → List Nat → Nat → Prop
  | x, [], y => R x y
  | x, z :: l, y => R x z ∧ Pth R z l y
theorem Pth.app {R : Nat → Nat → Prop} {z y : Nat} {m : List Nat} : ∀ {l : List Nat} {x : Nat}, Pth R x (l ++ z :: m) y ↔ Pth R x l z ∧ Pth R z m y
  | [], x => Iff.rfl
  | u :: l, x => by
    show R x u ∧ Pth R u (l ++ z :: m) y ↔ (R x u ∧ Pth R u l z) ∧ Pth R z m y
    rw [Pth.app (l := l), and_assoc]
theorem Pth.succ {R : Nat → Nat → Prop} {y : Nat} : ∀ {l : List Nat} {x : Nat}, Pth R x l y → ∀ u ∈ x :: l, ∃ v, (v ∈ l ∨ v = y) ∧ R u v
  | [], x, h, u, hu => ⟨y, .inr rfl, by have e : u = x := by simpa using hu
                                        rw [e]; exact h⟩
  | z :: l, x, h, u, hu => by
    rcases List.mem_cons.mp hu with rfl | hu
    · exact ⟨z, .inl List.mem_cons_self, h.1⟩
    · obtain ⟨v, h1, h2⟩ := Pth.succ h.2 u hu
      exact ⟨v, h1.imp (List.mem_cons_of_mem _) id, h2⟩
theorem Pth.pred {R : Nat → Nat → Prop} {y : Nat} : ∀ {l : List Nat} {x : Nat}, Pth R x l y → ∀ v, (v ∈ l ∨ v = y) → ∃ u ∈ x :: l, R u v
  | [], x, h, v, hv => ⟨x, List.mem_cons_self, by have e : v = y := by simpa using hv
                                                  rw [e]; exact h⟩
  | z :: l, x, h, v, hv => by
    by_cases e : v = z
    · exact ⟨x, List.mem_cons_self, e ▸ h.1⟩
    · have hv' : v ∈ l ∨ v = y := by
        rcases hv with hv | hv
        · rcases List.mem_cons.mp hv with hv | hv
          · exact absurd hv e
          · exact .inl hv
        · exact .inr hv
      obtain ⟨u, h1, h2⟩ := Pth.pred h.2 v hv'
      exact ⟨u, List.mem_cons_of_mem _ h1, h2⟩
/-- what is closed under R goes on along the path -/
theorem Pth.all {R : Nat → Nat → Prop} {X : Nat → Prop} {y : Nat} : ∀ {l : List Nat} {x : Nat}, Pth R x l y → (∀ u v, (v ∈ l ∨ v = y) → R u v → X u → X v) → X x → (∀ v ∈ l, X v) ∧ X y
  | [], x, h, hc, hx => ⟨by simp, hc x y (.inr rfl) h hx⟩
  | z :: l, x, h, hc, hx => by
    have hz := hc x z (.inl List.mem_cons_self) h.1 hx
    obtain ⟨a, b⟩ := Pth.all h.2 (fun u v hv => hc u v (hv.imp (List.mem_cons_of_mem _) id)) hz
    exact ⟨fun v hv => by
      rcases List.mem_cons.mp hv with rfl | hv
      · exact hz
      · exact a v hv, b⟩
section
variable {n : Int} {rows : List (List Int)} {one other tt t : List Int}
/-- a goes where b stands -/
def Nxt (one other : List Int) (a b : Nat) : Prop := other.getD a 0 = one.getD b 0
structure Cyc (one other : List Int) (a : Nat) (t : List Nat) : Prop where
  ne : t ≠ []
  nd : (a :: t).Nodup
  lt : ∀ b ∈ a :: t, b < one.length
  pt : Pth (Nxt one other) a t a
theorem Cyc.rot {a z : Nat} {l m : List Nat} (h : Cyc one other a (l ++ z :: m)) : Cyc one other z (m ++ a :: l) := by
  have pm : (z :: (m ++ a :: l)).Perm (a :: (l ++ z :: m)) := by
    have := List.perm_append_comm (l₁ := z :: m) (l₂ := a :: l)
    simpa using this
  obtain ⟨p1, p2⟩ := Pth.app.mp h.pt
  exact ⟨by simp, pm.nodup_iff.mpr h.nd, fun b hb => h.lt b (pm.mem_iff.mp hb), Pth.app.mpr ⟨p2, p1⟩⟩
theorem Cyc.at {a b : Nat} {u : List Nat} (h : Cyc one other a u) (hb : b ∈ a :: u) : ∃ v, Cyc one other b v ∧ ∀ x, x ∈ b :: v ↔ x ∈ a :: u := by
  rcases List.mem_cons.mp hb with rfl | hb
  · exact ⟨u, h, fun _ => Iff.rfl⟩
  · obtain ⟨l, m, rfl⟩ := List.append_of_mem hb
    refine ⟨_, h.rot, fun x => ?_⟩
    simp only [List.mem_cons, List.mem_append]
    constructor
    · rintro (h | h | h | h) <;> simp [h]
    · rintro (h | h | h | h) <;> simp [h]
theorem nxt_inj (nd : one.Nodup) {a b c : Nat} (hb : b < one.length) (hc : c < one.length) (h : Nxt one other a b) (k : Nxt one other a c) : b = c := by
  have e : one.getD b 0 = one.getD c 0 := h.symm.trans k
  simp only [List.getD_eq_getElem?_getD, List.getElem?_eq_getElem hb, List.getElem?_eq_getElem hc, Option.getD_some] at e
  exact (List.getElem_inj nd).mp e
theorem getD_inj (nd : one.Nodup) {b c : Nat} (hb : b < one.length) (hc : c < one.length) (e : one.getD b 0 = one.getD c 0) : b = c := by
  simp only [List.getD_eq_getElem?_getD, List.getElem?_eq_getElem hb, List.getElem?_eq_getElem hc, Option.getD_some] at e
  exact (List.getElem_inj nd).mp e
/-- a cycle is closed, both ways -/
theorem Cyc.next (nd : one.Nodup) {a : Nat} {u : List Nat} (h : Cyc one other a u) {x y : Nat} (hx : x ∈ a :: u) (hy : y < one.length) (e : Nxt one other x y) : y ∈ a :: u := by
  obtain ⟨v, hv, e2⟩ := h.pt.succ x hx
  have hv' : v ∈ a :: u := by
    rcases hv with hv | rfl
    · exact List.mem_cons_of_mem _ hv
    · exact List.mem_cons_self
  rw [nxt_inj nd hy (h.lt v hv') e e2]
  exact hv'
theorem Cyc.prev (nd : other.Nodup) (hl : other.length = one.length) {a : Nat} {u : List Nat} (h : Cyc one other a u) {x y : Nat} (hy : y ∈ a :: u) (hx : x < one.length) (e : Nxt one other x y) : x ∈ a :: u := by
  have hy' : y ∈ u ∨ y = a := by
    rcases List.mem_cons.mp hy with h | h
    · exact .inr h
    · exact .inl h
  obtain ⟨v, hv, e2⟩ := h.pt.pred y hy'
  have : x = v := getD_inj nd (by omega) (by have := h.lt v hv; omega) (Eq.trans (show other.getD x 0 = _ from e) (show other.getD v 0 = _ from e2).symm)
  rw [this]
  exact hv
/-- what is closed under the next and meets a cycle holds it all -/
theorem Cyc.all {X : Nat → Prop} {a : Nat} {u : List Nat} (h : Cyc one other a u) (hc : ∀ x y, y < one.length → Nxt one other x y → X x → X y) {b : Nat} (hb : b ∈ a :: u) (hx : X b) : ∀ x ∈ a :: u, X x := by
  obtain ⟨v, hv, e⟩ := h.at hb
  have := hv.pt.all (X := X) (fun p q hq r hp => hc p q (hv.lt q (by
    rcases hq with hq | rfl
    · exact List.mem_cons_of_mem _ hq
    · exact List.mem_cons_self)) r hp) hx
  intro x hx'
  rcases List.mem_cons.mp ((e x).mpr hx') with rfl | hx'
  · exact hx
  · exact this.1 x hx'
theorem Cyc.differs (nd : one.Nodup) {a : Nat} {u : List Nat} (h : Cyc one other a u) {x : Nat} (hx : x ∈ a :: u) : other.getD x 0 ≠ one.getD x 0 := by
  intro e
  obtain ⟨v, hv, k⟩ := h.at hx
  obtain ⟨y, w, rfl⟩ : ∃ y w, v = y :: w := by
    cases v with
    | nil => exact absurd rfl hv.ne
    | cons y w => exact ⟨y, w, rfl⟩
  have e2 : Nxt one other x y := hv.pt.1
  have := nxt_inj nd (hv.lt x List.mem_cons_self) (hv.lt y (by simp)) (show Nxt one other x x from e) e2
  have n2 := hv.nd
  rw [this] at n2
  simp at n2
/-- it ends in a free slot -/
inductive Ends (one other : List Int) : Nat → Prop
  | free {a : Nat} : a < one.length → other.getD a 0 ∉ one → Ends one other a
  | step {a b : Nat} : a < one.length → b < one.length → Nxt one other a b → Ends one other b → Ends one other a
theorem Ends.lt {a : Nat} (h : Ends one other a) : a < one.length := by cases h <;> assumption
theorem Ends.not_cyc (nd : one.Nodup) {a : Nat} (h : Ends one other a) : ∀ {c : Nat} {u : List Nat}, Cyc one other c u → a ∉ c :: u := by
  induction h with
  | @free a h1 h2 =>
    intro c u k hm
    obtain ⟨v, hv, e⟩ := k.pt.succ a hm
    have hv' : v ∈ c :: u := by
      rcases hv with hv | rfl
      · exact List.mem_cons_of_mem _ hv
      · exact List.mem_cons_self
    exact h2 ((show other.getD a 0 = one.getD v 0 from e) ▸ getD_mem (k.lt v hv'))
  | step h1 h2 h3 h4 ih =>
    intro c u k hm
    exact ih k (k.next nd hm h2 h3)
theorem Ends.next (nd : one.Nodup) {a b : Nat} (h : Ends one other a) (hb : b < one.length) (e : Nxt one other a b) : Ends one other b := by
  cases h with
  | free h1 h2 => exact absurd ((show other.getD a 0 = one.getD b 0 from e) ▸ getD_mem hb) h2
  | step h1 h2 h3 h4 => rw [nxt_inj nd hb h2 e h3]; exact h4
/-- the smallest of its cycle -/
def MinCyc (one other : List Int) (a : Nat) : Prop := ∃ u, Cyc one other a u ∧ ∀ b ∈ u, a < b
open Classical in
noncomputable def nCycT (one other : List Int) (k : Nat) : Nat := ((List.range k).filter fun a => decide (MinCyc one other a)).length
theorem nCycT_yes {k : Nat} (h : MinCyc one other k) : nCycT one other (k + 1) = nCycT one other k + 1 := by
  unfold nCycT
  rw [List.range_succ, List.filter_append, List.length_append]
  simp [h]
theorem nCycT_no {k : Nat} (h : ¬ MinCyc one other k) : nCycT one other (k + 1) = nCycT one other k := by
  unfold nCycT
  rw [List.range_succ, List.filter_append, List.length_append]
  simp [h]
/-- the appointments that change -/
def diffL (one other : List Int) : List Nat := (List.range one.length).filter fun a => decide (one.getD a 0 ≠ other.getD a 0)
theorem mem_diffL {a : Nat} : a ∈ diffL one other ↔ a < one.length ∧ one.getD a 0 ≠ other.getD a 0 := by
  unfold diffL
  rw [List.mem_filter, List.mem_range]
  simp
/-! ### the moves -/
theorem set_getD {a b : Nat} {s : Int} : (tt.set a s).getD b 0 = if a = b ∧ a < tt.length then s else tt.getD b 0 := by
  rw [List.getD_eq_getElem?_getD, List.getElem?_set]
  by_cases c : a = b
  · subst c
    by_cases d : a < tt.length
    · simp [d]
    · simp [d, List.getD_eq_getElem?_getD]
  · simp [c, List.getD_eq_getElem?_getD]
theorem Mv.stayD {l : List (Nat × Int)} {b : Nat} (h : Mv n rows tt l t) (hb : b ∉ l.map (·.1)) : t.getD b 0 = tt.getD b 0 := by
  rw [List.getD_eq_getElem?_getD, List.getD_eq_getElem?_getD, h.stay fun p hp e => hb (List.mem_map.mpr ⟨p, hp, e⟩)]
theorem Mv.val (tk : TtOk n rows tt) {l : List (Nat × Int)} (h : Mv n rows tt l t) (nd : (l.map (·.1)).Nodup) : ∀ p ∈ l, t.getD p.1 0 = p.2 := by
  induction h with
  | nil => simp
  | @cons tt t a s l m k ih =>
    rw [List.map_cons] at nd
    obtain ⟨n1, n2⟩ := List.nodup_cons.mp nd
    intro p hp
    rcases List.mem_cons.mp hp with rfl | hp
    · rw [k.stayD n1, set_getD, if_pos ⟨rfl, by rw [tk.len]; exact m.la⟩]
    · exact ih (m.ok tk) n2 p hp
theorem not_in_set (nd : tt.Nodup) {a : Nat} {s : Int} (ha : a < tt.length) (hs : s ∉ tt) : tt.getD a 0 ∉ tt.set a s := not_mem_set nd (getD_get ha) fun e => hs (e ▸ getD_mem ha)
/-- those of the list stand as in other -/
def setAll (tt other : List Int) (c : List Nat) : List Int := c.foldl (fun p a => p.set a (other.getD a 0)) tt
end
end Law
namespace PV
open PySem PySem.Spec PyProof.Rows L2
/-! ## a tuple with a new list; blocks at whose entry the frozen heap is told anew; such a list is changed -/
/-! ## a new list that is not changed any more, known as new -/
end PV
namespace PV
open PySem PySem.Spec PyProof.Rows L2
/-! ## blocks: what follows is told from the block's entry on -/
section
variable {T : Tx} {F : Fm} {pd : List (Addr × D)} {G G1 H : Hp} {ρ : Rho} {σ : L2.St}
abbrev Fm.base (F : Fm) (G : Hp) : Fm := { F with G0 := G }
end
end PV
namespace PV
open PySem PySem.Spec PyProof.Rows L2
/-! ## name[c].append(None): a list that was not frozen at the block's entry is changed; what may hold it is forgotten -/
mutual
/-- no list, dict, set, object in it -/
def D.fl : D → Bool
  | .non => true
  | .bl _ => true
  | .int _ => true
  | .str _ => true
  | .tup ds => flAll ds
  | .lst _ => false
  | .tupU _ => false
  | .dic _ _ => false
  | .dicT _ _ => false
  | .set _ => false
  | .obj _ _ _ => false
def flAll : List D → Bool
  | [] => true
  | d :: ds => d.fl && flAll ds
end
/-- nothing of that kind in it but itself -/
def D.flO : D → Bool
  | .lst ds => flAll ds
  | .dic _ ds => flAll ds
  | .set _ => true
  | .obj _ _ ds => flAll ds
  | _ => false
theorem DatAll.of {T : Tx} {G : Hp} : ∀ {vs : List V} {ds : List D}, vs.length = ds.length → (∀ (i : Nat) v d, vs[i]? = some v → ds[i]? = some d → Dat T G v d) → DatAll T G vs ds
  | [], [], _, _ => .nil
  | [], _ :: _, e, _ => by cases e
  | _ :: _, [], e, _ => by cases e
  | v :: vs, d :: ds, e, h => .cons (h 0 v d rfl rfl) (DatAll.of (by simpa using e) fun i v d a b => h (i + 1) v d (by simpa using a) (by simpa using b))
/-- what is known of a slot behind the change -/
inductive Pg : Sl → Sl → Prop
  | par (d : D) : Pg (.par d) (.par d)
  | frz {d : D} (h : d.fl = true) : Pg (.frz d) (.frz d)
  | own {d : D} (h : d.flO = true) : Pg (.own d) (.own d)
  | ref {d : D} (h : d.flO = true) : Pg (.ref d) (.ref d)
  | any {s : Sl} (h : ∀ d, s ≠ .ref d) : Pg s .any
inductive PgAll : Rho → Rho → Prop
  | nil : PgAll [] []
  | cons {s t : Sl} {ρ ρ' : Rho} : Pg s t → PgAll ρ ρ' → PgAll (s :: ρ) (t :: ρ')
theorem PgAll.len : ∀ {ρ ρ' : Rho}, PgAll ρ ρ' → ρ'.length = ρ.length
  | _, _, .nil => rfl
  | _, _, .cons _ t => congrArg (· + 1) t.len
theorem PgAll.get : ∀ {ρ ρ' : Rho} {i : Nat} {t : Sl}, PgAll ρ ρ' → ρ'[i]? = some t → ∃ s, ρ[i]? = some s ∧ Pg s t
  | _, _, i, _, .nil, e => by simp at e
  | _, _, 0, _, .cons h _, e => by simp at e; subst e; exact ⟨_, rfl, h⟩
  | _, _, i + 1, _, .cons _ t, e => by
    obtain ⟨s, a, b⟩ := t.get (i := i) (by simpa using e)
    exact ⟨s, by simpa using a, b⟩
theorem PgAll.at : ∀ {ρ ρ' : Rho} {i : Nat} {s : Sl}, PgAll ρ ρ' → ρ[i]? = some s → ∃ t, ρ'[i]? = some t ∧ Pg s t
  | _, _, i, _, .nil, e => by simp at e
  | _, _, 0, _, .cons h _, e => by simp at e; subst e; exact ⟨_, rfl, h⟩
  | _, _, i + 1, _, .cons _ t, e => by
    obtain ⟨s, a, b⟩ := t.at (i := i) (by simpa using e)
    exact ⟨s, by simpa using a, b⟩
theorem Pg.mut {s t : Sl} (h : Pg s t) (m : t.mut = true) : s = t := by cases h <;> first | rfl | cases m
end PV
namespace PV
open PySem PySem.Spec PyProof.Rows L2
/-! ## len(set(a)), a list of different ints -/
end PV
namespace PV
open PySem PySem.Spec PyProof.Rows L2
/-! ## i in range(n), i not in range(n) -/
end PV
namespace PV
open PySem PySem.Spec PyProof.Rows L2
/-! ## x, y = z, z a tuple with a new list: y is this list; y.append(None) -/
end PV
namespace PV
open PySem PySem.Spec PyProof.Rows L2
/-! ## comprehensions with two generators -/
def canI (T : Tx) (ex : Ex) (t : TPi) : TI := fun σ H R => ∃ F pd G ρ q, F.ex = ex ∧ Rel T F pd G ρ σ H ∧ t ρ q (fun _ _ => False) ∧ (∀ ds ρ' G' H' J, Le G G' → Rel T F pd G' ρ' σ H' → WalkD T J G' ds → q ds ρ' → R J H')
theorem VI.can {X : Cx} {ex : Ex} {tg e : Expr} {t : TPi} (h : VI X W0 ex tg e t) : PI X tg e (canI X.tx ex t) := by
  obtain ⟨te, pa, wa⟩ := h
  refine ⟨fun pins s σ H R I ⟨F, pd, G, ρ, q, hF, rl, t, k⟩ => pa.run pins s σ H R I ((wa F hF).ok pd G ρ σ H R q _ rl t k fun _ _ _ _ _ _ _ _ _ z => z)⟩
end PV
/-! list(zip(a, b)): the zip's tuple is held by the list, so every later draw makes its own. -/
namespace PySem
open Sem (wp)
abbrev IsZipO (h : Heap) (z TI TO T : Addr) (b : Bool) : Prop :=
  h.get? z = some { cls := .type "zip", dict := none, data := .fields #[rawInt T, .bool b, .bool false, .ref TI, .ref TO], slots := #[] }
/-- the zip's state before its i-th draw -/
def ZSt (z TI TO i1 i2 : Addr) (St1 St2 : Nat → Heap → Prop) (i : Nat) (h : Heap) : Prop :=
  ((i = 0 ∧ IsZip h z TI TO .none) ∨ ∃ T b o, IsZipO h z TI TO T b ∧ h.get? T = some o ∧ T ∉ [z, TI, TO, i1, i2]) ∧ IsTupOf2 h TI (.ref i1) (.ref i2) ∧ (∃ a1 a2, IsTupOf2 h TO a1 a2) ∧ St1 i h ∧ St2 i h
/-- what was drawn so far -/
def AccZ (P1 P2 : Nat → Value → Prop) (base : Nat) (h : Heap) (i : Nat) (acc : Array Value) : Prop :=
  ∃ Ts : List Addr, acc.toList = Ts.map Value.ref ∧ Ts.length = i ∧ (∀ T ∈ Ts, base ≤ T) ∧ Ts.Pairwise (· < ·) ∧ ∀ j T, Ts[j]? = some T → ∃ x y, P1 j x ∧ P2 j y ∧ IsTupOf2 h T x y
section
variable {prog : Program} {w : World} {A : Around} {E : Value → Shared → Prop} {s : Shared} {z TI TO i1 i2 : Addr} {fp1 fp2 : List Addr} {n i : Nat} {P1 P2 : Nat → Value → Prop} {St1 St2 : Nat → Heap → Prop}
theorem ZSt.ty (h : ZSt z TI TO i1 i2 St1 St2 i s.heap) : s.TypeIs (.ref z) "zip" := by
  rcases h.1 with ⟨_, hz⟩ | ⟨_, _, _, hz, _⟩
  · exact ⟨_, hz, rfl⟩
  · exact ⟨_, hz, rfl⟩
theorem ZSt.ex {h : Heap} (hh : ZSt z TI TO i1 i2 St1 St2 i h) : ∃ o, h.get? z = some o := by
  rcases hh.1 with ⟨_, hz⟩ | ⟨_, _, _, hz, _⟩
  · exact ⟨_, hz⟩
  · exact ⟨_, hz⟩
theorem ZSt.iter {Q : Value → Shared → Prop} (st : ZSt z TI TO i1 i2 St1 St2 0 s.heap) (h : Q (.ref z) s) : wpAny (model prog w) A (pyIter (.ref z)) Q E s := by
  have hT := st.ty
  refine wpAny_pyIter_slot hT F.slot_zip_iter (wpAny_call_entry F.slot_zip_iter hT F.entry_zip_iter ?_ (F.args_zip_iter_1 _))
  show wpAny _ _ (ret (.ref z)) _ _ s
  exact wpAny_pure ⟨_, rfl, "zip", _, hT, F.slot_zip_next.lookup, h⟩
theorem ZSt.frame (S : ZipSep2 z TI TO i1 i2 fp1 fp2) (D1 : Draws prog w A i1 fp1 n P1 St1) (D2 : Draws prog w A i2 fp2 n P2 St2) {h h' : Heap} {L : Addr} (st : ZSt z TI TO i1 i2 St1 St2 i h) (hL : L ∉ [z, TI, TO]) (h1 : L ∉ fp1) (h2 : L ∉ fp2) (hT : ∀ o, h.get? L = some o → ∃ o', h'.get? L = some o')
    (hk : ∀ c o, c ≠ L → h.get? c = some o → h'.get? c = some o) : ZSt z TI TO i1 i2 St1 St2 i h' := by
  obtain ⟨hz0, hTI, ⟨a1, a2, hTO⟩, st1, st2⟩ := st
  have n1 : z ≠ L := fun x => hL (by simp [x])
  have n2 : TI ≠ L := fun x => hL (by simp [x])
  have n3 : TO ≠ L := fun x => hL (by simp [x])
  refine ⟨?_, hk _ _ n2 hTI, ⟨a1, a2, hk _ _ n3 hTO⟩, D1.frame _ _ _ st1 fun b hb o e => hk b o (fun x => h1 (x ▸ hb)) e, D2.frame _ _ _ st2 fun b hb o e => hk b o (fun x => h2 (x ▸ hb)) e⟩
  rcases hz0 with ⟨e, hz⟩ | ⟨T, b, o, hz, hT', hTn⟩
  · exact .inl ⟨e, hk _ _ n1 hz⟩
  · by_cases hTL : T = L
    · subst hTL
      obtain ⟨o', e'⟩ := hT o hT'
      exact .inr ⟨T, b, o', hk _ _ n1 hz, e', hTn⟩
    · exact .inr ⟨T, b, o, hk _ _ n1 hz, hk _ _ hTL hT', hTn⟩
theorem AccZ.keep {base : Nat} {h h' : Heap} {acc : Array Value} (a : AccZ P1 P2 base h i acc) (hk : ∀ c o, base ≤ c → h.get? c = Option.some o → h'.get? c = Option.some o) : AccZ P1 P2 base h' i acc := by
  obtain ⟨Ts, e1, e2, e3, e4, e5⟩ := a
  refine ⟨Ts, e1, e2, e3, e4, fun j T hj => ?_⟩
  obtain ⟨x, y, p1, p2, ht⟩ := e5 j T hj
  exact ⟨x, y, p1, p2, hk _ _ (e3 T (List.mem_of_getElem? hj)) ht⟩
theorem AccZ.lt {h : Heap} {Ts : List Addr} (e5 : ∀ (j : Nat) T, Ts[j]? = Option.some T → ∃ x y, P1 j x ∧ P2 j y ∧ IsTupOf2 h T x y) {T : Addr} (hT : T ∈ Ts) : T < h.objs.size := by
  obtain ⟨j, hj⟩ := List.mem_iff_getElem?.mp hT
  obtain ⟨x, y, _, _, ht⟩ := e5 j T hj
  exact Heap.lt_size ht
theorem AccZ.push {base : Nat} {h h' : Heap} {acc : Array Value} {x y : Value} (a : AccZ P1 P2 base h i acc) (hb : base ≤ h.objs.size) (hk : ∀ c o, base ≤ c → h.get? c = Option.some o → h'.get? c = Option.some o)
    (p1 : P1 i x) (p2 : P2 i y) (hT : IsTupOf2 h' h.objs.size x y) : AccZ P1 P2 base h' (i + 1) (acc.push (.ref h.objs.size)) := by
  have a' := a.keep hk
  obtain ⟨Ts, e1, e2, e3, e4, e5⟩ := a
  have e5' : ∀ (j : Nat) T, Ts[j]? = Option.some T → ∃ x y, P1 j x ∧ P2 j y ∧ IsTupOf2 h' T x y := fun j T hj => by
    obtain ⟨x, y, q1, q2, ht⟩ := e5 j T hj
    exact ⟨x, y, q1, q2, hk _ _ (e3 T (List.mem_of_getElem? hj)) ht⟩
  refine ⟨Ts ++ [h.objs.size], by simp [e1], by simp [e2], fun T hm => ?_, ?_, fun j T hj => ?_⟩
  · rcases List.mem_append.mp hm with q | q
    · exact e3 T q
    · rw [List.mem_singleton.mp q]; exact hb
  · refine List.pairwise_append.mpr ⟨e4, List.pairwise_singleton _ _, fun T hm U hu => ?_⟩
    rw [List.mem_singleton.mp hu]
    exact AccZ.lt e5 hm
  · rw [List.getElem?_append] at hj
    split at hj
    · exact e5' j T hj
    · rename_i hlt
      have : j = i := by
        have := (List.getElem?_eq_some_iff.mp hj).1
        simp at this
        omega
      subst this
      rw [e2] at hj
      simp at hj
      subst hj
      exact ⟨x, y, p1, p2, hT⟩
end
end PySem
namespace PV
open PySem PySem.Spec PyProof.Rows L2
open PySem.Sem (wp)
end PV
/-! t[::-1], t a tuple. -/
namespace HT
open PySem PySem.Spec PyProof.Rows
section
variable {prog : Program} {w : World} {A : Around} {E : Value → Shared → Prop} {s : Shared}
theorem sliceApplied_rev {sl : Addr} {vl vu vs : Value} {n : Nat} {Q : Int × Int × Nat → Shared → Prop} (hs : s.heap.IsSliceOf sl vl vu vs) (pl : IsPart vl none) (pu : IsPart vu none) (ps : IsPart vs (some (-1)))
    (h : Q ((n : Int) - 1, -1, n) s) : wpAny (model prog w) A (Builtin.Slice.sliceApplied (.ref sl) (pure (n : Int))) Q E s := by
  obtain ⟨os, hos, hcs, hds⟩ := id hs
  unfold Builtin.Slice.sliceApplied Builtin.Slice.sliceFields
  refine wpAny_bind (wpAny_bind (wpAny_field hos hds (x := vl) rfl (wpAny_bind (wpAny_field hos hds (x := vu) rfl (wpAny_bind (wpAny_field hos hds (x := vs) rfl (wpAny_pure ?_)))))))
  refine wpAny_bind (slicePart_ ps ?_)
  show wpAny _ _ (if ((-1 : Int) == 0) = true then _ else _) _ _ s
  rw [if_neg (by decide)]
  refine wpAny_bind (slicePart_ pl (wpAny_bind (slicePart_ pu (wpAny_bind (wpAny_pure ?_)))))
  show wpAny _ _ (pure ((n : Int) - 1, (-1 : Int), Builtin.Slice.slicePlaces ((n : Int) - 1) (-1) (-1))) _ _ s
  have e : Builtin.Slice.slicePlaces ((n : Int) - 1) (-1) (-1) = n := by
    unfold Builtin.Slice.slicePlaces
    rw [if_neg (by omega)]
    split
    · simp
    · omega
  rw [e]
  exact wpAny_pure h
theorem fm_all {α β : Type} {f : α → Option β} {g : α → β} : ∀ {l : List α}, (∀ k ∈ l, f k = some (g k)) → l.filterMap f = l.map g
  | [], _ => rfl
  | a :: l, h => by
    rw [List.filterMap_cons, h a List.mem_cons_self, List.map_cons, fm_all fun k hk => h k (List.mem_cons_of_mem _ hk)]
theorem pick_rev (xs : Array Value) : ((List.range xs.size).filterMap fun (k : Nat) => xs[((xs.size : Int) - 1 + (k : Int) * (-1)).toNat]?).toArray = xs.toList.reverse.toArray := by
  have e : ∀ k ∈ List.range xs.size, xs[((xs.size : Int) - 1 + (k : Int) * (-1)).toNat]? = some (xs.toList.reverse.getD k .none) := fun k hk => by
    have lk : k < xs.size := List.mem_range.mp hk
    have e1 : ((xs.size : Int) - 1 + (k : Int) * (-1)).toNat = xs.size - 1 - k := by omega
    rw [e1, List.getD_eq_getElem?_getD, List.getElem?_reverse (by simpa using lk), Array.length_toList, Array.getElem?_toList]
    rw [Array.getElem?_eq_getElem (by omega)]
    rfl
  have e2 : (List.range xs.size).filterMap (fun (k : Nat) => xs[((xs.size : Int) - 1 + (k : Int) * (-1)).toNat]?) = (List.range xs.size).map fun k => xs.toList.reverse.getD k .none := by
    exact fm_all e
  rw [e2]
  congr 1
  refine List.ext_getElem (by simp) fun i h1 h2 => ?_
  rw [List.getElem_map, List.getElem_range, List.getD_eq_getElem?_getD, List.getElem?_eq_getElem h2]
  rfl
theorem getItem_tuple_rev {t sl : Addr} {items : Array Value} {vl vu vs : Value} {Q : Value → Shared → Prop} (ht : IsTup s.heap t items) (hs : s.heap.IsSliceOf sl vl vu vs) (pl : IsPart vl none) (pu : IsPart vu none) (ps : IsPart vs (some (-1)))
    (h : Q (.ref s.heap.objs.size) { s with heap := s.heap.push { cls := .type "tuple", data := .seq items.toList.reverse.toArray } })
    (hsz : items.size ≤ sizeLine) : wpAny (model prog w) A (getItem (.ref t) (.ref sl)) Q E s := by
  have htake : sizeOk (.seq items.toList.reverse.toArray) := by
    show items.toList.reverse.toArray.size ≤ sizeLine
    simpa using hsz
  obtain ⟨os, hos, hcs, hds⟩ := id hs
  have hTs : s.TypeIs (.ref sl) "slice" := ⟨os, hos, hcs⟩
  unfold getItem
  try with_reducible refine wpAny_holding ?_
  first | refine wpAny_bind (wpAny_pure ?_) | skip
  refine wpAny_bind (wpAny_sequenceKey ht.typeIs (by decide) ?_)
  refine wpAny_bind (wpAny_callSpecial?_slot (name := Str.ofString "__getitem__") ht.typeIs PyProof.Rows.slot_tuple_getitem
    (wpAny_call_entry PyProof.Rows.slot_tuple_getitem ht.typeIs entry_tuple_getitem ?_ (args_tuple_getitem _ _)))
  show wpAny _ _ (Builtin.Tuple.tupleItemsOf (.ref t) >>= _) _ _ s
  refine wpAny_bind (tupleItemsOf_ ht ?_)
  refine wpAny_bind (wpAny_typeOf hTs ?_)
  rw [if_pos (by decide)]
  refine wpAny_bind (sliceApplied_rev hs pl pu ps ?_)
  show wpAny _ _ (if (((items.size : Int) - 1) == 0 && (-1 : Int) == 1 && items.size == items.size) = true then _ else _) _ _ s
  rw [if_neg (by simp), pick_rev]
  first
    | exact wpAny_bind (m := Builtin.Tuple.tupleExact _) (wpAny_newObj_type (wpAny_pure ⟨_, rfl, wpAny_pure h⟩) htake)
    | exact wpAny_bind (m := Builtin.Tuple.tupleExact _) (wpAny_newObj_type (wpAny_bind (wpAny_pure (wpAny_pure ⟨_, rfl, wpAny_pure h⟩))) htake)
    | exact wpAny_bind (wpAny_bind (m := Builtin.Tuple.tupleExact _) (wpAny_newObj_type (wpAny_pure (wpAny_pure ⟨_, rfl, wpAny_pure h⟩)) htake))
    | exact wpAny_bind (wpAny_bind (m := Builtin.Tuple.tupleExact _) (wpAny_newObj_type (wpAny_pure ⟨_, rfl, wpAny_pure h⟩) htake))
end
end HT
namespace L2
open PySem PySem.Spec PyProof.Rows
def tRevT (K : PySem.W.Frag) (te : TE) : TE := fun σ H Q => te σ H fun x H1 => ∃ a xs, x = .ref a ∧ SqT K H1 a xs ∧ ∀ p o, Nt o xs.reverse → H1 p = none → Q (.ref p) (upd H1 p o)
theorem pe_revT {X : Cx} {te : TE} {e : Expr} {k : Nat} {p1 p2 p3 pos : Pos} (he : PE X e te) : PE X (.Subscript e (.Slice none none (some (.UnaryOp .USub (.Constant (.int 1) k p1) p2)) p3) pos) (tRevT X.K te) := by
  refine ⟨fun pins s σ H Q I h => ?_⟩
  refine Subscript_ (thn (he.run pins s σ H _ I h) fun v s1 ⟨x, H1, I1, r1, q1⟩ => ?_)
  obtain ⟨a, xs, ex, hx, q⟩ := q1
  subst ex
  cases r1
  have hst : PO X (some (.UnaryOp .USub (.Constant (.int 1) k p1) p2)) (tPart (tUn (rU fun i => .int (-i)) (tC (.int 1)))) := po_some (pe_un un_neg pe_int)
  refine wpAny_Slice (thn (po_none.run pins s1 σ H1 (fun o H2 => o = none ∧ H2 = H1) I1 ⟨rfl, rfl⟩) fun vl s2 ⟨l, H2, I2, pl, el, e2⟩ => ?_)
  subst el e2
  refine thn (po_none.run pins s2 σ H2 (fun o H3 => o = none ∧ H3 = H2) I2 ⟨rfl, rfl⟩) fun vu s3 ⟨u, H3, I3, pu, eu, e3⟩ => ?_
  subst eu e3
  refine thn (hst.run pins s3 σ H3 (fun o H4 => o = some (-1) ∧ H4 = H3) I3 ⟨1, rfl, -1, rfl, rfl, rfl⟩) fun vs s4 ⟨o, H4, I4, ps, eo, e4⟩ => ?_
  subst eo e4
  have I5 : Inv X pins σ H4 { s4 with heap := s4.heap.push { cls := .type "slice", data := .fields #[vl, vu, vs] } } := I4.kept (t' := s4.toks) fun b ob q => Heap.get?_push_of_some _ q
  obtain ⟨its, r, ht, hz⟩ := I5.tuple hx
  have hlen := r.length
  show wpAny (model X.prog X.w) X.A (subscriptTail e (.Slice none none (some (.UnaryOp .USub (.Constant (.int 1) k p1) p2)) p3) (.ref a) (.ref s4.heap.objs.size)) (EP X pins σ Q) X.xe { s4 with heap := s4.heap.push { cls := .type "slice", data := .fields #[vl, vu, vs] } }
  refine tail_any (ops := [.ref a, .ref s4.heap.objs.size]) ht.typeIs (PyProof.Rows.slot_tuple_getitem.lookup) ?_ (by with_unfolding_all rfl)
  refine HT.getItem_tuple_rev ht (Heap.IsSliceOf.new _ vl vu vs) pl pu ps ?_ (by rw [List.size_toArray]; omega)
  obtain ⟨J, n⟩ := lay_nt (h' := s4.heap.push { cls := .type "slice", data := .fields #[vl, vu, vs] }) (t := s4.toks) I5 (xs := xs.reverse) (items := its.reverse.toArray) rfl (fun b u e => e) (by rw [List.length_reverse]; exact hz) r.reverse
  exact ⟨.ref _, _, by simpa using J, rfl, q _ _ Nt.mk n⟩
end L2
namespace PV
open PySem PySem.Spec PyProof.Rows L2
def fRevT : D → (R → Prop) → Prop := fun d q => match d with
  | .tup ds => q (.dat (.tup ds.reverse))
  | _ => False
theorem ve_revT {X : Cx} {W : WX} {ex : Ex} {e : Expr} {ta : TPe} {k : Nat} {p1 p2 p3 pos : Pos} (ha : VE X W ex e ta) : VE X W ex (.Subscript e (.Slice none none (some (.UnaryOp .USub (.Constant (.int 1) k p1) p2)) p3) pos) (yU fRevT ta) :=
  ve_u (r := fun x H Q => ∃ a xs, x = .ref a ∧ SqT X.K H a xs ∧ ∀ p o, Nt o xs.reverse → H p = none → Q (.ref p) (upd H p o)) (fun te h => pe_revT h) ⟨fun G H v d Q q s h1 f k => by
    cases d with
    | tup ds =>
      cases h1 with
      | tup g1 d1 =>
        rename_i a xs
        refine ⟨a, xs, rfl, (s.seqN g1).t, fun p o nt hp => ?_⟩
        refine k (.dat (.tup ds.reverse)) (.ref p) (upd G p o) (upd H p o) (Grow.laidF s hp) ?_ f
        exact .tup (.inl ⟨o, upd_same, nt⟩) (d1.rev.mono (Le.upd (s.none hp)))
    | _ => exact f.elim⟩ ha
end PV
/-! {e for x in xs ..}, e an int: as for truth values (PpSet), over the sets of ints. -/
namespace L2
open PySem PySem.Spec PyProof.Rows PpSet
end L2
namespace L2
open PySem PySem.Spec PyProof.Rows PpSet
end L2
namespace PV
open PySem PySem.Spec PyProof.Rows L2
end PV
namespace PV
open PySem PySem.Spec PyProof.Rows L2
/-! ## f(e, ..): own lists are lent; the answer is a new list of tuples that hold nothing -/
/-! ## for x in y: y is an own list that the loop reads alone -/
section
variable {T : Tx} {F : Fm} {pd : List (Addr × D)} {G G' H H' : Hp} {ρ : Rho} {σ : L2.St} {i : Nat} {a : Addr} {ds : List D}
abbrev Fm.with (F : Fm) (i : Nat) (a : Addr) : Fm := { F with refs := (i, a) :: F.refs }
end
end PV
namespace PV
open PySem PySem.Spec PyProof.Rows L2
end PV
namespace PV
open PySem PySem.Spec PyProof.Rows L2
end PV
namespace PV
open PySem PySem.Spec PyProof.Rows L2
/-! ## a, b, c, d = [], [], [], []: a tuple of four new lists, taken apart at once -/
end PV
namespace PV
open PySem PySem.Spec PyProof.Rows L2
/-! ## f(b = .., a = ..): all by name -/
def VK (X : Cx) (W : WX) (ex : Ex) (kws : List Keyword) (t : TPa) : Prop := ∃ tk, PK X kws tk ∧ ∀ F, F.ex = ex → VAw X W F tk t
/-! ## range(a, b, -1) -/
end PV
/-! ## != of two tuples (an own instance, a tuple of integers) that are equal -/
namespace L2
open PySem PySem.Spec PyProof.Rows
end L2
namespace PV
open PySem PySem.Spec PyProof.Rows L2
end PV
/-! a law's end over data -/
namespace PV
open PySem PySem.Spec PyProof.Rows L2 He
theorem datAll_ints {T : Tx} {G : Hp} : ∀ ns : List Int, DatAll T G (ns.map V.int) (ns.map D.int)
  | [] => .nil
  | n :: r => .cons (.int n) (datAll_ints r)
/-- the law's own call -/
theorem sp_start {T : Tx} {sp : PSp} {H : Hp} {a : Addr} {ns : List Int} (hS : SqL T.K H a (ns.map V.int)) (h : ∀ q : R → List D → Prop, ∀ e, q (.dat (.bl true)) [] → sp [.dat (.lst (ns.map D.int))] q e) : spOf T sp [.ref a] H (fun v _ => v = .bl true) fun _ _ _ => False := by
  refine ⟨H, _, [], fun r ds => r = .dat (.bl true), fun _ _ => False, fun a o e => .inl e, .dat (.lst hS (datAll_ints ns)) .nil, h _ _ rfl, fun r ds v G' H' cp ro e => ?_, fun e ds cls dd G' H' _ _ z => z.elim⟩
  subst e
  cases (show Dat T G' v (.bl true) from ro)
  rfl
end PV
/-! ## defs that may ask for the repr of a list or a tuple: nothing is being shown where they are called -/
namespace L2
open PySem PySem.Spec PyProof.Rows
structure FnOkR (P : Program) (w : World) (K : PySem.W.Frag) (mg : Str → Option Value) (base : Heap) (CX : CXT) (k : Nat) (f : Addr) (fd : FuncData) (ps : List Str) (sp : Sp) : Prop where
  len : ∀ vs H Q E, sp vs H Q E → vs.length = ps.length
  run : ∀ (A : Around), A.guards = some [] → ∀ (outer : List Env) (s : Shared) (H : Hp) (args : Args) (us : List Value) (vs : List V) (Q : VK) (E : XK), Room k A → Env0 P w K mg base A outer s H → BindsTo s fd args (ps.zip us) → Vals vs us → sp vs H Q E →
    codeAny (model P w) A (.call (.ref f) args) (CR CX outer P w H s Q E) s
section
variable {P : Program} {w : World} {K : PySem.W.Frag} {mg : Str → Option Value} {base : Heap} {CX : CXT} {k : Nat} {f : Addr} {ps : List Str} {sp : Sp} {qual x : Str} {params : Arguments} {body : List Stmt} {scope : Scope} {dvs : List V} {kws : List (Str × V)} {fd : FuncData} {N : List Str}
theorem FunD.okR (F : FunD K x qual params body scope dvs kws f fd) (S : FnScope N ps scope) (len : ∀ vs H Q E, sp vs H Q E → vs.length = ps.length)
    (hbody : ∀ (cdv : Value) (A : Around) (outer : List Env) (s : Shared) (H : Hp) (vs : List V) (Q : VK) (E : XK), A.guards = some [] → Room k (A.deeper (envOfC qual scope s.heap.objs.size f cdv)) → sp vs H Q E →
      ∃ t, PSs (cxOf CX P w K mg base N qual scope f cdv A outer s H E) body t ∧ t { nx := fun _ H' => Q .non H', rt := Q } (start N vs) H) : FnOkR P w K mg base CX (k + 1) f fd ps sp := by
  obtain ⟨oc, od, dV, kV, doc, pm, an, cdv, ct, osl, rfl, lk, hcd, _, _⟩ := F.ex
  refine ⟨len, fun A hg outer s H args us vs Q E hr e0 hb r hsp => ?_⟩
  have keep := fun b o (e : base.get? b = some o) => (e0.bs b o e).1
  have KX : K.In s.heap := e0.mod.kin.keeps keep
  have lim : s.heap.NoLimit := e0.mod.nolimit.keeps keep
  refine codeAny_call_function hr.depth (KX _ _ lk) rfl S.co S.gen rfl (PySem.W.codeRec_of KX hcd) (hb _ _ _ _ ?_)
  refine wpAny_newFunctionEnv_cells S.kind (fun ⟨n, v⟩ hy => ?_) fun env he s1 x => ?_
  · rcases S.par n (List.of_mem_zip hy).1 with q | q
    · exact .inl q
    · exact .inr ⟨q, PySem.W.cellsFrom_some _ _ _ (.inl q)⟩
  subst he
  refine ⟨lim.keeps x.toInCall.keep, codeAny_func ?_⟩
  obtain ⟨t, ht, hq⟩ := hbody cdv A outer s H vs Q E hg (hr.deeper _) hsp
  have I : Inv (cxOf CX P w K mg base N qual scope f cdv A outer s H E) [] (start N vs) H s1 := inv_start S hr.hd e0 (len _ _ _ _ hsp) r x
  refine wpAny_mono (ht.run [] s1 (start N vs) H _ I hq) (fun fl s' hs => ?_) fun _ _ z => z
  match fl, hs with
  | .ret u, ⟨v, σ', H', J, rv, q⟩ => exact ⟨v, H', J.os, J.bare, J.base, J.hok, rv, q⟩
  | .next, ⟨σ', H', J, q⟩ => exact ⟨.non, H', J.os, J.bare, J.base, J.hok, rfl, q⟩
  | .brk, ⟨_, _, _, q⟩ => exact q.elim
  | .cont, ⟨_, _, _, q⟩ => exact q.elim
end
section
variable {X : Cx} {CX : CXT} {k : Nat} {f : Addr} {fd : FuncData} {ps : List Str} {sp : Sp} {dvs : List V} {ds : List Value} {E : St → XK} {x : Str} {p pos : Pos} {e : Expr} {es : List Expr} {t : TA}
theorem pe_callSDR (F : FnOkR X.prog X.w X.K X.mg X.base CX k f fd ps sp) (hgd : X.A.guards = some []) (hr : Room k X.A) (hg : Gl X x) (hm : X.mg x = some (.ref f)) (hk : PySem.W.keepIn X.K (.ref f) = true) (hb : Binds X.K fd ps ds) (hd : Vals dvs ds) (hx : ∀ σ, PassesAt CX X σ (E σ))
    (ha : PA X (e :: es) t) (hdb : (x == ("__debug__" : Str)) = false := by decide) (he : starEach (e :: es) X.env = (false, eval e X.env) :: starEach es X.env := by rfl) (hpl : (backTo pos (starEach es X.env)).any (·.1) = false := by rfl) :
    PE X (.Call (.Name x p) (e :: es) [] pos) (tCallSD sp dvs E t) := by
  refine ⟨fun pins s σ H Q I h => wpAny_Call_Name_kw (ld_glob I hg hm ?_ hdb)⟩
  refine PySem.W.callWith_K (h₀ := X.base) I.ok.mod.kin hk (thn (ha.run pos pins s σ H _ I h) fun us s1 ⟨vs, H1, I1, r, q⟩ => ⟨I1.kIn, ?_⟩) he hpl
  have r2 : Vals (vs ++ dvs) (us ++ ds) := r.append hd
  refine wpAny_call (codeAny_mono (F.run X.A hgd X.stack s1 H1 ⟨us, []⟩ (us ++ ds) (vs ++ dvs) Q (E σ) hr I1.env0 (hb s1 us I1.kIn (by rw [← r2.length]; exact F.len _ _ _ _ q)) r2 q) fun fl s' hq => ?_)
  match fl, hq with
  | .error e, hq => exact hx σ pins H1 s1 e s' I1 hq
  | .ok (.ret u), hq => exact I1.after hq
  | .ok .next, hq => exact False.elim hq
  | .ok .brk, hq => exact False.elim hq
  | .ok .cont, hq => exact False.elim hq
end
end L2
namespace PV
open PySem PySem.Spec PyProof.Rows L2
section
variable {P : Program} {w : World} {K : PySem.W.Frag} {mg : Str → Option Value} {base : Heap} {x qual : Str} {params : Arguments} {body : List Stmt} {scope : Scope} {dvs : List V} {kws : List (Str × V)} {f : Addr} {fd : FuncData}
theorem def_okR {N ps : List Str} {k : Nat} {sp : PSp} {t : TPs} (F : FunD K x qual params body scope dvs kws f fd) (S : FnScope N ps scope) (hl : ps.length ≤ N.length) (len : ∀ as q e, sp as q e → as.length = ps.length)
    (hbody : ∀ (cdv : Value) (A : Around) (outer : List Env) (s : Shared) (H : Hp) (E : XK), A.guards = some [] → Room k (A.deeper (envOfC qual scope s.heap.objs.size f cdv)) →
      VSs (cxOf (L2.CX P w) P w K mg base N qual scope f cdv A outer s H E) (fun cls d _ H' => E cls d H') none body t)
    (pure : ∀ as q e, sp as q e → t (endsOf (refPos 0 as) q e) (entry N.length as)) : FnOkR P w K mg base (L2.CX P w) (k + 1) f fd ps (spOf ⟨mg, K, w⟩ sp) := by
  refine F.okR S (fun vs H Q E ⟨G, as, qs, q, e, _, ag, h, _⟩ => ag.length.trans (len _ _ _ h)) (fun cdv A outer s H vs Q E hgd hr ⟨G, as, qs, q, e, sub, ag, h, hQ, hE⟩ => ?_)
  obtain ⟨ts, pss, wt⟩ := hbody cdv A outer s H E hgd hr
  have hv : vs.length ≤ N.length := by rw [ag.length, len _ _ _ h]; exact hl
  obtain ⟨r1, r2, r3, r4⟩ := AgAll.refs (n := 0) ag
  refine ⟨ts, pss, (wt ⟨H, G, refsOf 0 as qs, none, []⟩ rfl).ok G (entry N.length as) (L2.start N vs) H _ _ (rel_start sub ag hv) (pure as q e h) ?_⟩
  refine ⟨fun ρ σ G' H' l rl z => ?_, fun ρ σ G' H' l rl z => z.elim, fun ρ σ G' H' l rl z => z.elim, fun r ρ σ v G' H' l p z => ?_, fun σ e' ρ G' H' cls dd l rl xo z => ?_⟩
  · obtain ⟨ds, cp, z⟩ := post_of rl r1 r2 z
    exact hQ (.dat .non) ds .non G' H' cp .non z
  · obtain ⟨nl, z⟩ := z
    obtain ⟨ds, cp, z⟩ := post_of p.rel r1 r2 z
    refine hQ r ds v G' H' cp ?_ z
    match r, p, nl with
    | .dat d, p, _ => exact p.2
    | .new d, ⟨a, e, rl⟩, _ =>
      obtain ⟨g, h0, ob⟩ := rl.pds _ List.mem_cons_self
      exact ⟨a, e, h0, g, ob⟩
    | .loc i, _, nl => exact nl.elim
    | .fre c d, p, _ => exact ⟨p.2.1, p.2.2.frN p.1⟩
  · obtain ⟨ds, cp, z⟩ := post_of rl r1 r2 z
    exact hE e' ds cls dd G' H' cp xo z
end
/-- a def called where nothing is being shown -/
structure FnGR (P : Program) (w : World) (K : PySem.W.Frag) (mg : Str → Option Value) (base : Heap) (x : Str) (f : Addr) (k : Nat) (ps : List Str) (sp : PSp) : Prop where
  g : mg x = some (.ref f)
  kp : PySem.W.keepIn K (.ref f) = true
  ex : ∃ fd, FnOkR P w K mg base (L2.CX P w) k f fd ps (spOf ⟨mg, K, w⟩ sp) ∧ Binds K fd ps []
section
variable {X : Cx} {W : WX} {ex : Ex} {e : Expr} {es : List Expr} {te : TPe} {t : TPa} {sp : PSp} {pos p : Pos} {k : Nat} {f : Addr} {ps : List Str} {x : Str}
theorem vg_callNR (F : FnGR X.prog X.w X.K X.mg X.base x f k ps sp) (hgd : X.A.guards = some []) (hr : Room k X.A) (tk : Takes X W) (he : VE X W ex e te) (hg : Gl X x := by rfl) (hdb : (x == ("__debug__" : Str)) = false := by decide)
    (hs : starEach [e] X.env = (false, eval e X.env) :: starEach [] X.env := by rfl) (hpl : (backTo pos (starEach [] X.env)).any (·.1) = false := by rfl) : VE X W ex (.Call (.Name x p) [e] [] pos) (yCallN sp te) := by
  obtain ⟨fd, F1, b⟩ := F.ex
  obtain ⟨_, pe, we⟩ := he
  refine ⟨_, pe_callSDR (E := WE W) F1 hgd hr hg F.g F.kp b .nil (fun σ => passAt tk σ) (pa_cons pe pa_nil hs) hdb hs hpl, fun Fm hF => ⟨fun pd G ρ σ H Q q x rl t k w => (we Fm hF).ok pd G ρ σ H _ _ _ rl t (fun r1 ρ1 v1 G1 H1 l1 p1 q1 => ?_) w⟩⟩
  cases r1 with
  | new d =>
    obtain ⟨p, rfl, rl1⟩ := p1
    obtain ⟨gp, hp, ob⟩ := rl1.pds (p, d) List.mem_cons_self
    refine ⟨G1, [.ref d], [p], _, _, rl1.sub, .ref gp ob (by simp) .nil, q1, fun r ds v2 G' H' cp ro qr => ?_, fun e2 ds cls dd G' H' cp xo xr => ?_⟩
    · obtain ⟨d', rfl⟩ : ∃ d', ds = [d'] := by
        cases cp.obs with
        | cons _ t => cases t; exact ⟨_, rfl⟩
      have rl2 := rl1.call1 cp
      cases r with
      | dat d => exact k (.dat d) ρ1 v2 G' H' (l1.trans cp.le) ⟨rl2, ro⟩ qr
      | _ => exact qr.elim
    · obtain ⟨d', rfl⟩ : ∃ d', ds = [d'] := by
        cases cp.obs with
        | cons _ t => cases t; exact ⟨_, rfl⟩
      exact w e2 ρ1 G' H' cls dd (l1.trans cp.le) (rl1.call1 cp).nil xo xr
  | _ => exact q1.elim
end
end PV
/-! ## repr(e), of data without dicts, where nothing is being shown -/
namespace L2
open PySem PySem.Spec PyProof.Rows
mutual
theorem noDict : ∀ {d : PyData}, d.canLay0 = true → d.hasDict = false
  | .none, _ => by simp only [PyData.hasDict]
  | .bool _, _ => by simp only [PyData.hasDict]
  | .int _, _ => by simp only [PyData.hasDict]
  | .str _, _ => by simp only [PyData.hasDict]
  | .list xs, h => by
    simp only [PyData.hasDict]
    exact noDicts (by simpa only [PyData.canLay0] using h)
  | .tuple xs, h => by
    simp only [PyData.hasDict]
    exact noDicts (by simpa only [PyData.canLay0] using h)
  | .dict _, h => by simp only [PyData.canLay0] at h; cases h
theorem noDicts : ∀ {l : List PyData}, PyData.canLayAll0 l = true → PyData.hasDictAll l = false
  | [], _ => by simp only [PyData.hasDictAll]
  | x :: xs, h => by
    simp only [PyData.canLayAll0, Bool.and_eq_true] at h
    simp only [PyData.hasDictAll, noDict h.1, noDicts h.2, Bool.or_self]
end
section
variable {X : Cx}
def rRepr (K : PySem.W.Frag) : List V → Hp → VK → Prop := fun xs H Q => ∃ x d, xs = [x] ∧ Dp K H x d ∧ SeqAt.shaped d = true ∧ d.showable = true ∧ d.shown.length ≤ sizeLine ∧ Q (.str d.shown) H
theorem call_repr (hg : X.A.guards = some []) (hu : X.A.units + 65 < cLine) : CallR X (.builtin "repr") (rRepr X.K) := by
  intro pins s σ H xs us Q I r h
  obtain ⟨x, d, rfl, hd, sd, hs, hz, q⟩ := h
  cases r with
  | cons rx r =>
  cases r
  rename_i u
  have hh : d.hasDict = false := noDict (SeqAt.canLay_of_shaped sd)
  have dd := SeqAt.depth_of_shaped sd
  cases id hd with
  | non =>
    cases rx
    exact PySem.P.repr_of_none ⟨.str _, H, I.tok _, ⟨_, rfl⟩, by simpa only [PyData.shown] using q⟩
  | bl b =>
    cases rx
    refine PySem.P.repr_of_bool ⟨.str _, H, I.tok _, ⟨_, rfl⟩, ?_⟩
    simp only [PyData.shown] at q
    cases b
    · exact q
    · exact q
  | int i =>
    obtain ⟨t, rfl⟩ := rx
    exact PySem.P.repr_of_int (by simpa [PyData.showable] using hs) ⟨.str _, H, I.tok _, ⟨_, rfl⟩, by simpa only [PyData.shown] using q⟩
  | str x =>
    obtain ⟨t, rfl⟩ := rx
    simp only [PyData.shown] at q hz
    exact PySem.P.repr_of_str ⟨.str _, H, I.tok _, ⟨_, rfl⟩, q⟩ hz
  | lst h1 h2 =>
    obtain ⟨as, ra⟩ := Dp.reads I _ _ _ hd rx
    cases rx
    exact repr_of_reads' ra hs (fun z => by rw [hh] at z; cases z) hg (by omega) (fun _ _ e => e) (fun h' u tk k => ⟨.str _, H, I.kept k, ⟨_, rfl⟩, q⟩) hz
  | tup h1 h2 =>
    obtain ⟨as, ra⟩ := Dp.reads I _ _ _ hd rx
    cases rx
    exact repr_of_reads' ra hs (fun z => by rw [hh] at z; cases z) hg (by omega) (fun _ _ e => e) (fun h' u tk k => ⟨.str _, H, I.kept k, ⟨_, rfl⟩, q⟩) hz
end
end L2
namespace PV
open PySem PySem.Spec PyProof.Rows L2
def fRepr : List D → (R → Prop) → Prop := fun ds q => ∃ d, ds = [d] ∧ d.ok ∧ d.py.showable = true ∧ d.py.shown.length ≤ sizeLine ∧ q (.dat (.str d.py.shown))
section
variable {X : Cx} {W : WX} {ex : Ex} {e : Expr} {te : TPe} {p pos : Pos}
theorem fok_repr : FOk X (rRepr X.K) fRepr := ⟨fun G H vs ds Q q s h f k => by
  obtain ⟨d, rfl, f1, f2, f3, f4⟩ := f
  obtain ⟨v, rfl, hv⟩ := h.one
  exact ⟨v, _, rfl, hv.dp s f1, f1, f2, f3, ret_s k (.str _) f4⟩⟩
theorem boot_repr' : bootBuiltins "repr" = some (.builtin "repr") := by decide +kernel
theorem ve_repr (hgd : X.A.guards = some []) (hu : X.A.units + 65 < cLine) (hm : X.mg "repr" = none) (ha : VE X W ex e te) (hg : Gl X "repr" := by rfl) (h1 : starEach [e] X.env = (false, eval e X.env) :: starEach [] X.env := by rfl) (hpl : (backTo pos (starEach [] X.env)).any (·.1) = false := by rfl) : VE X W ex (.Call (.Name "repr" p) [e] [] pos) (yF fRepr (yCons te yNil)) :=
  ve_B (call_repr hgd hu) fok_repr hg hm boot_repr' (va_cons ha va_nil h1) (by decide) (by decide) h1 hpl
end
end PV
/-! ## the law's own call, for a law whose defs ask for a repr -/
namespace L2
open PySem PySem.Spec PyProof.Rows
section
variable {P : Program} {w : World} {K : PySem.W.Frag} {mg mb : Str → Option Value} {k : Nat} {fa a : Addr} {fd : FuncData} {x : Str} {sp : Sp} {s₁ : Shared} {vs : List Value} {ns : List Int}
/-- over one abstract heap, in which at most the script is known -/
theorem law_coreR (KX : K.In s₁.heap) (hns : s₁.heap.Ns mainGlobals mg) (hb : s₁.heap.Ns builtinsNs mb) (hbb : ∀ x : Str, x ≠ "__name__" → mb x = bootBuiltins x) (hlim : s₁.heap.NoLimit) (hg : s₁.gens = #[])
    (ha : s₁.heap.get? a = some { cls := .type "list", data := .seq vs.toArray }) (hi : IntsAre vs ns) (hr : Room k callerA)
    (F : ∀ base : Heap, K.In base → base.Ns mainGlobals mg → FnOkR P w K mg base (L2.CX P w) k fa fd [x] sp) (hbind : ∀ (s : Shared) (u : Value), BindsTo s fd ⟨[u], []⟩ [(x, u)])
    (H : Hp) (hO : Only H) (hS : sp [.ref a] H (fun v _ => v = .bl true) fun _ _ _ => False) (hok : HOk P w H s₁.heap) (hA : ∀ b, H b ≠ none → b = a) (hK : H a ≠ none → K.lookup a = none) :
    codeAny (model P w) callerA (.call (.ref fa) ⟨[.ref a], []⟩) (fun r s' => r = .ok (.ret (.bool true)) ∧ OldK s₁.heap s'.heap ∧ s'.os = s₁.os ∧ AllBare s'.gens) s₁ := by
  have dec : ∀ b, H b = none ∨ b = a := fun b => by
    by_cases z : H b = none
    · exact .inl z
    · exact .inr (hA b z)
  have nsK : ∀ {b : Addr} {m : Str → Option Value}, s₁.heap.Ns b m → (hidT s₁.heap H).Ns b m := fun {b m} ⟨o, es, ep, e, d, r⟩ => by
    refine ⟨o, es, ep, hidT_get e ?_, d, r⟩
    rcases dec b with z | rfl
    · exact z
    · rw [ha] at e
      cases e
      cases d
  have hKb : K.In (hidT s₁.heap H) := fun b o e => by
    refine hidT_get (KX b o e) ?_
    rcases dec b with z | rfl
    · exact z
    · by_cases z : H b = none
      · exact z
      · rw [hK z] at e
        cases e
  have hM : Mod K mg (hidT s₁.heap H) := ⟨hKb, nsK hns, ⟨mb, nsK hb, hbb⟩, let ⟨mc, h1, h2⟩ := hlim; ⟨mc, nsK h1, h2⟩⟩
  have e0 : Env0 P w K mg (hidT s₁.heap H) callerA [] s₁ H := ⟨rfl, hM, fun b o e => of_hidT e, Nat.le_of_eq (hidT_size _ _), trivial, fun b hb => (nomatch (show b ∈ ([] : List Addr) from hb)), hok, .of_eq hg⟩
  refine codeAny_mono ((F _ hKb (nsK hns)).run callerA rfl [] s₁ H ⟨[.ref a], []⟩ [.ref a] [.ref a] _ _ hr e0 (hbind s₁ (.ref a)) (.cons rfl .nil) hS) fun r s' h => ?_
  match r, h with
  | .error e, h =>
    obtain ⟨_, _, _, _, _, _, _, _, _, _, _, _, z⟩ := h
    exact z.elim
  | .ok .next, h => exact False.elim h
  | .ok .brk, h => exact False.elim h
  | .ok .cont, h => exact False.elim h
  | .ok (.ret u), ⟨v, H', os, bare, un, hok', r', q⟩ =>
    cases (show v = .bl true from q)
    obtain rfl : u = Value.bool true := r'
    refine ⟨rfl, OldK.of_keep fun b o e => ?_, os, bare⟩
    rcases hO b with z | ⟨ob, xs, z⟩
    · exact un.keep b o e z (fun m => nomatch (show b ∈ ([] : List Addr) from m)) (by simp)
    · obtain ⟨e1, _⟩ := hok b _ z
      obtain ⟨e2, _⟩ := hok' b _ (un.frzs b ob _ z)
      rw [e] at e1
      cases e1
      exact e2
theorem law_callR (KX : K.In s₁.heap) (hns : s₁.heap.Ns mainGlobals mg) (hb : s₁.heap.Ns builtinsNs mb) (hbb : ∀ x : Str, x ≠ "__name__" → mb x = bootBuiltins x) (hlim : s₁.heap.NoLimit) (hg : s₁.gens = #[])
    (ha : s₁.heap.get? a = some { cls := .type "list", data := .seq vs.toArray }) (hi : IntsAre vs ns) (hl : ns.length ≤ sizeLine) (hr : Room k callerA)
    (F : ∀ base : Heap, K.In base → base.Ns mainGlobals mg → FnOkR P w K mg base (L2.CX P w) k fa fd [x] sp) (hbind : ∀ (s : Shared) (u : Value), BindsTo s fd ⟨[u], []⟩ [(x, u)])
    (hsp : ∀ H : Hp, Only H → SqL K H a (ns.map V.int) → sp [.ref a] H (fun v _ => v = .bl true) fun _ _ _ => False) :
    codeAny (model P w) callerA (.call (.ref fa) ⟨[.ref a], []⟩) (fun r s' => r = .ok (.ret (.bool true)) ∧ OldK s₁.heap s'.heap ∧ s'.os = s₁.os ∧ AllBare s'.gens) s₁ := by
  have rv := vals_ints hi
  have core := law_coreR (sp := sp) KX hns hb hbb hlim hg ha hi hr F hbind
  cases hk : K.lookup a with
  | some o =>
    have e := (KX a o hk).symm.trans ha
    cases e
    have hO : Only (fun _ => none) := fun _ => .inl rfl
    exact core (fun _ => none) hO (hsp _ hO (.inr ⟨_, vs.toArray, _, hk, rfl, rfl, rfl, by rw [List.size_toArray, hi.length]; exact hl, by simpa using rv⟩)) (fun b u z => nomatch (show (none : Option HO) = some u from z)) (fun b z => absurd rfl z) fun z => absurd rfl z
  | none =>
    obtain ⟨H, hH⟩ : ∃ H : Hp, H = fun b => if b = a then some (.frz { cls := .type "list", data := .seq vs.toArray } (.lst (ns.map V.int))) else none := ⟨_, rfl⟩
    have h1 : H a = some (.frz { cls := .type "list", data := .seq vs.toArray } (.lst (ns.map V.int))) := by rw [hH]; exact if_pos rfl
    have h2 : ∀ b, b ≠ a → H b = none := fun b z => by rw [hH]; exact if_neg z
    have hO : Only H := fun b => by
      by_cases z : b = a
      · exact .inr ⟨_, _, z ▸ h1⟩
      · exact .inl (h2 b z)
    refine core H hO (hsp _ hO (.inl (.inr ⟨_, h1⟩))) (fun b u z => ?_) (fun b z => Classical.byContradiction fun y => z (h2 b y)) fun _ => hk
    by_cases y : b = a
    · subst y
      rw [h1] at z
      cases z
      exact ⟨ha, by rw [List.length_map]; exact hl, vs, _, rv, ha⟩
    · rw [h2 b y] at z
      cases z
end
end L2
namespace PV
open PySem PySem.Spec PyProof.Rows L2 He
theorem walk_ofR {l : PySem.W.OpenLaw} {n k : Nat} {q : Program} {loose : List Str} {XP : (Str → Option Value) → Heap → Prop} {YP : World → Heap → Prop} {d : DefRec} {x : Str}
    (hn : l.most = some n) (hn2 : n ≤ sizeLine) (hdf : d.params.defaults = []) (hr : Room k callerA)
    (F : ∀ (w : World) (mg : Str → Option Value) (fa : Addr) (h : Heap), YP w h → h.Ns mainGlobals mg → mg d.name = some (.ref fa) →
      ∃ (K : PySem.W.Frag) (fd : FuncData) (sp : Sp), K.In h ∧ (∀ (s : Shared) (u : Value), BindsTo s fd ⟨[u], []⟩ [(x, u)]) ∧
        (∀ (H : Hp) (a : Addr) (ns : List Int), ns.length ≤ n → Only H → SqL K H a (ns.map V.int) → sp [.ref a] H (fun v _ => v = .bl true) fun _ _ _ => False) ∧
        ∀ base : Heap, K.In base → base.Ns mainGlobals mg → FnOkR l.prog w K mg base (L2.CX l.prog w) k fa fd [x] sp) :
    PySem.W.WalkO q loose XP YP l.row.toRowW d [] (fun f vs => PySem.call f vs) := by
  refine Att.attach_call hn hdf fun w s₀ s₁ mg mb fa o pm cd doc a vs ns G Y ho hd hcd hmg hobj hints hlen hg => ?_
  obtain ⟨K, fd, sp, KX, hb, hsp, hF⟩ := F w mg fa _ Y G.T.g hmg
  exact law_callR KX G.T.g G.T.b G.T.builtins G.T.nolimit hg hobj hints (Nat.le_trans hlen hn2) hr hF hb fun H hO hS => hsp H a ns hlen hO hS
end PV
namespace Law
open PySem PySem.Spec PyProof.Rows L2 PV
/-- an item of a bent tuple -/
def Itm (d : D) : Prop := (∃ i : Int, d = .int i ∧ -1 ≤ i ∧ i ≤ 60) ∨ (∃ b, d = .bl b) ∨ d = .non ∨ d = .str "0" ∨ d = .lst [.int 0]
def ItmL (ds : List D) : Prop := ∀ d ∈ ds, Itm d
/-- what check_tight is asked of -/
def Askd (d : D) : Prop := (∃ ds, d = .tup ds ∧ ds.length ≤ 100 ∧ ItmL ds) ∨ (∃ l : List Int, d = .lst (l.map D.int) ∧ l.length ≤ 100 ∧ ∀ s ∈ l, -1 ≤ s ∧ s ≤ 60) ∨ d = .non ∨ d = .int 0
def fltD : Option Int → D
  | some i => .int i
  | none => .non
def sp_law_bent_k12 : PSp := fun as q _ => ∃ a b c n : Int, ∃ ds : List D, as = [.ref (wellD a b c), .dat (.tup ds), .dat (.int n)] ∧ 1 ≤ n ∧ n ≤ 60 ∧ ds.length ≤ 90 ∧ ItmL ds ∧ ∀ (es : List D) (a' c' : Int), es.length ≤ ds.length + 1 → ItmL es → q (.dat (.tup es)) [wellD a' b c']
def sp_law_due_k12 : PSp := fun as q _ => ∃ n rows tt d, as = [.dat (.lst (rows.map rowL)), .dat (ttD tt), .dat d] ∧ BookOk n rows ∧ TtOk n rows tt ∧ Askd d ∧ q (.dat (fltD (tightFault n rows tt d))) []
def sp_law_asked_k12 : PSp := fun as q _ => ∃ n rows tt d, as = [.dat (bookOf n rows), .dat (ttD tt), .dat d] ∧ BookOk n rows ∧ TtOk n rows tt ∧ Askd d ∧ q (.dat (fltD (tightFault n rows tt d))) []
def sp_law_right_k12 : PSp := fun as q _ => ∃ a b c, as = [.ref (wellD a b c)] ∧ ∀ a' c' : Int, q (.dat (.bl true)) [wellD a' b c']
def sp_law_k12 : PSp := fun as q _ => ∃ ns : List Int, as = [.dat (.lst (ns.map D.int))] ∧ ns.length ≤ 63 ∧ q (.dat (.bl true)) []
end Law
namespace Law
open PySem PySem.Spec PyProof.Rows L2 PV
def t_law_asked_k12 : TPs :=
    (zSeq (zSet 3 (yC (.str "told")))
    (zSeq (zTryM ["NoTimetable", "NoCertificate"] [("NoCertificate", some 4, fun _ => (zSet 3 (yXf 4 "index")))] (zFz 3 (zSet 3 (yCall sp_check_tight [false, false, false] [] (yCons (yVar 0) (yCons (yVar 1) (yCons (yVar 2) yNil)))))))
    (zRet (yVar 3))))
end Law
namespace Law
open PySem PySem.Spec PyProof.Rows L2 PV
def t_law_bent_k12 : TPs :=
    (zSeq (zFz 3 (zSet 3 (yCall sp_law_draw [true, false] [] (yCons (yVar 0) (yCons (yB fAdd (yF fLen (yCons (yVar 1) yNil)) (yC (.int 1))) yNil)))))
    (zSeq (zSet 4 (yB fIxA (yLst (yCons (yCall sp_law_draw [true, false] [] (yCons (yVar 0) (yCons (yVar 2) yNil))) (yCons (yC (.bl true)) (yCons (yU fNeg (yC (.int 1))) (yCons (yVar 2) (yCons (yC .non) (yCons (yC (.str "0")) (yCons (yLst (yCons (yC (.int 0)) yNil)) (yCons (yC (.bl false)) yNil))))))))) (yCall sp_law_draw [true, false] [] (yCons (yVar 0) (yCons (yC (.int 8)) yNil)))))
    (zSeq (zFz 5 (zSet 5 (yCall sp_law_draw [true, false] [] (yCons (yVar 0) (yCons (yC (.int 4)) yNil)))))
    (zSeq (zIf (yT (yB fEq (yVar 5) (yC (.int 0))))
    (zRet (yB fAdd (ySl (yVar 1) yNoPart (yPart (yVar 3))) (ySl (yVar 1) (yPart (yB fAdd (yVar 3) (yC (.int 1)))) yNoPart))) zNext)
    (zSeq (zIf (yT (yB fEq (yVar 5) (yC (.int 1))))
    (zRet (yB fAdd (yB fAdd (ySl (yVar 1) yNoPart (yPart (yVar 3))) (ySl (yVar 1) (yPart (yVar 3)) (yPart (yB fAdd (yVar 3) (yC (.int 1)))))) (ySl (yVar 1) (yPart (yVar 3)) yNoPart))) zNext)
    (zRet (yB fAdd (yB fAdd (ySl (yVar 1) yNoPart (yPart (yVar 3))) (yTup (yCons (yVar 4) yNil))) (ySl (yVar 1) (yPart (yB fAdd (yVar 3) (yF fInt1 (yCons (yB fEq (yVar 5) (yC (.int 3))) yNil)))) yNoPart))))))))
end Law
namespace Law
open PySem PySem.Spec PyProof.Rows L2 PV
def t_law_due_k12 : TPs :=
    (zSeq (zIf (yNot (yTru (yU (fIsi "tuple" []) (yVar 2))))
    (zRet (yU fNeg (yC (.int 1)))) zNext)
    (zSeq (zForF [false, false, false, true, true, true] (iEn (yVar 2)) (gT 2 (gsCons (gN 3) (gsCons (gN 4) gsNil)))
    (zIf (yOr (yTru (yU (fIsi "bool" []) (yVar 4))) (yOr (yNot (yTru (yU (fIsi "int" []) (yVar 4)))) (yOr (yT (yB (fIn true) (yVar 4) (yVar 1))) (yT (yB (fIn false) (yVar 4) (ySl (yVar 2) yNoPart (yPart (yVar 3))))))))
    (zRet (yVar 3)) zNext))
    (zSeq (zForF [false, false, false, true, true, true] (iEn (yVar 2)) (gT 2 (gsCons (gN 3) (gsCons (gN 4) gsNil)))
    (zIf (yT (yB fNe (yLc (iSq (yB fIxA (yVar 0) (yRm isTup fIndexT (yVar 1) (yCons (yVar 4) yNil)))) (gN 5) (yT (yB (fIn true) (yVar 5) (yVar 2))) (yVar 5) ([5])) (yLst yNil)))
    (zRet (yB fAdd (yF fLen (yCons (yVar 2) yNil)) (yVar 3))) zNext))
    (zRet (yC .non)))))
end Law
namespace Law
open PySem PySem.Spec PyProof.Rows L2 PV
def t_law_k12 : TPs :=
    (zSeq (zForF [true, true, true] (iEn (ySl (yB fAdd (yVar 0) (yLst (yCons (yC (.int 0)) yNil))) yNoPart (yPart (yC (.int 6))))) (gT 2 (gsCons (gN 1) (gsCons (gN 2) gsNil)))
    (zIf (yNot (yTru (yCallN sp_law_right_k12 (yLst (yCons (yB fMul (yVar 2) (yF fInt1 (yCons (yB fGe (yVar 2) (yB fPow (yC (.int 10)) (yC (.int 18)))) yNil))) (yCons (yB fAdd (yB fMod (yVar 2) (yC (.int 2147483647))) (yB fMul (yC (.int 7919)) (yVar 1))) (yCons (yC (.int 0)) yNil)))))))
    (zRet (yC (.bl false))) zNext))
    (zRet (yC (.bl true))))
end Law
namespace Law
open PySem PySem.Spec PyProof.Rows L2 PV
def t_law_right_k12 : TPs :=
    (zSeq (zAsg (yCall sp_law_book [true, false] [] (yCons (yVar 0) (yCons (yB fIxA (yLst (yCons (yC (.int 10)) (yCons (yC (.int 10)) (yCons (yC (.int 10)) (yCons (yC (.int 60)) yNil))))) (yCall sp_law_draw [true, false] [] (yCons (yVar 0) (yCons (yC (.int 4)) yNil)))) yNil))) (gT 3 (gsCons (gN 1) (gsCons (gN 2) (gsCons (gN 3) gsNil)))))
    (zSeq (zFz 4 (zSet 4 (yMake "Book" sp_Book_init [false, false] [] (yCons (yVar 1) (yCons (yVar 2) yNil)))))
    (zSeq (zFz 5 (zSet 5 (yCall sp_law_open [false, false, false] [] (yCons (yVar 1) (yCons (yVar 2) (yCons (yVar 3) yNil))))))
    (zSeq (zSet 6 (yF fTuple (yCons (yLc (iR1 (yVar 1)) (gN 11) (yT (yB (fIn true) (yVar 11) (yVar 5))) (yVar 11) ([11])) yNil)))
    (zSeq (zFz 7 (zSet 7 (yCall sp_law_bent_k12 [true, false, false] [] (yCons (yVar 0) (yCons (yVar 6) (yCons (yVar 1) yNil))))))
    (zSeq (zFz 8 (zSet 8 (yCall sp_law_bent_k12 [true, false, false] [] (yCons (yVar 0) (yCons (yVar 7) (yCons (yVar 1) yNil))))))
    (zSeq (zForF [true, true, false, false, false, true, true, true, true, true, true, true] (iSq (yLst (yCons (yVar 6) (yCons (yU fRevT (yVar 6)) (yCons (yTup yNil) (yCons (yVar 7) (yCons (yVar 8) (yCons (yVar 3) (yCons (yF fList (yCons (yVar 6) yNil)) (yCons (yC .non) (yCons (yC (.int 0)) yNil))))))))))) (gN 9)
    (zSeq (zSet 10 (yF fRepr (yCons (yVar 9) yNil)))
    (zSeq (zFz 5 (zSet 5 (yCall sp_law_due_k12 [false, false, false] [] (yCons (yVar 2) (yCons (yVar 3) (yCons (yVar 9) yNil))))))
    (zIf (yOr (yT (yB fNe (yCall sp_law_asked_k12 [false, false, false] [] (yCons (yVar 4) (yCons (yVar 3) (yCons (yVar 9) yNil)))) (yVar 5))) (yT (yB fNe (yF fRepr (yCons (yVar 9) yNil)) (yVar 10))))
    (zRet (yC (.bl false))) zNext))))
    (zRet (yC (.bl true))))))))))
end Law
namespace Law
open PySem PySem.Spec PyProof.Rows L2 PySem.EsX He Hk PV
section
variable {P : Program} {w : World} {K : PySem.W.Frag} {mg : Str → Option Value} {base : Heap}
theorem sc_Book_len : FnScope ["self"] ["self"] (defScope s_Book_len) := ⟨rfl, rfl, rfl, by decide +kernel, rfl, by decide +kernel, by decide +kernel⟩
theorem der_Book_len {f : Addr} {fd : FuncData} (F : FunD K "__len__" "Book.__len__" (defArgs s_Book_len) (defBody s_Book_len) (defScope s_Book_len) [] [] f fd) (T : Txt P K mg) 
    (len : ∀ as q e, sp_Book_len as q e → as.length = 1) (hpure : ∀ as q e, sp_Book_len as q e → t_Book_len (endsOf (refPos 0 as) q e) (entry 1 as)) : FnOk P w K mg base (L2.CX P w) 1 f fd ["self"] (spOf ⟨mg, K, w⟩ sp_Book_len) := by
  have sc_nd := sc_Book_len.nd
  refine def_ok F sc_Book_len (by decide) len (t := t_Book_len) (fun cdv A outer s H E hr => ?_) hpure
  have hu := hu65 hr
  have tk : Takes (cxOf (L2.CX P w) P w K mg base ["self"] "Book.__len__" (defScope s_Book_len) f cdv A outer s H E) (fun cls d _ H' => E cls d H') := takes_of rfl rfl rfl rfl
  have hp : PassesOwn (model P w) _ _ (cxOf (L2.CX P w) P w K mg base ["self"] "Book.__len__" (defScope s_Book_len) f cdv A outer s H E).xe := passes_of rfl
  exact (vss_one (vs_ret (ve_len T.fr_len (ve_fld T.g_Book T.cl_Book T.noat_Book__allowed (ve_var 0)))))
theorem sc_Book_size : FnScope ["self"] ["self"] (defScope s_Book_size) := ⟨rfl, rfl, rfl, by decide +kernel, rfl, by decide +kernel, by decide +kernel⟩
theorem der_Book_size {f : Addr} {fd : FuncData} (F : FunD K "size" "Book.size" (defArgs s_Book_size) (defBody s_Book_size) (defScope s_Book_size) [] [] f fd) (T : Txt P K mg) 
    (len : ∀ as q e, sp_Book_size as q e → as.length = 1) (hpure : ∀ as q e, sp_Book_size as q e → t_Book_size (endsOf (refPos 0 as) q e) (entry 1 as)) : FnOk P w K mg base (L2.CX P w) 1 f fd ["self"] (spOf ⟨mg, K, w⟩ sp_Book_size) := by
  have sc_nd := sc_Book_size.nd
  refine def_ok F sc_Book_size (by decide) len (t := t_Book_size) (fun cdv A outer s H E hr => ?_) hpure
  have hu := hu65 hr
  have tk : Takes (cxOf (L2.CX P w) P w K mg base ["self"] "Book.size" (defScope s_Book_size) f cdv A outer s H E) (fun cls d _ H' => E cls d H') := takes_of rfl rfl rfl rfl
  have hp : PassesOwn (model P w) _ _ (cxOf (L2.CX P w) P w K mg base ["self"] "Book.size" (defScope s_Book_size) f cdv A outer s H E).xe := passes_of rfl
  exact (vss_one (vs_ret (ve_fld T.g_Book T.cl_Book T.noat_Book__slots (ve_var 0))))
theorem sc_Book_users : FnScope ["self"] ["self"] (defScope s_Book_users) := ⟨rfl, rfl, rfl, by decide +kernel, rfl, by decide +kernel, by decide +kernel⟩
theorem der_Book_users {f : Addr} {fd : FuncData} (F : FunD K "users" "Book.users" (defArgs s_Book_users) (defBody s_Book_users) (defScope s_Book_users) [] [] f fd) (T : Txt P K mg) 
    (len : ∀ as q e, sp_Book_users as q e → as.length = 1) (hpure : ∀ as q e, sp_Book_users as q e → t_Book_users (endsOf (refPos 0 as) q e) (entry 1 as)) : FnOk P w K mg base (L2.CX P w) 1 f fd ["self"] (spOf ⟨mg, K, w⟩ sp_Book_users) := by
  have sc_nd := sc_Book_users.nd
  refine def_ok F sc_Book_users (by decide) len (t := t_Book_users) (fun cdv A outer s H E hr => ?_) hpure
  have hu := hu65 hr
  have tk : Takes (cxOf (L2.CX P w) P w K mg base ["self"] "Book.users" (defScope s_Book_users) f cdv A outer s H E) (fun cls d _ H' => E cls d H') := takes_of rfl rfl rfl rfl
  have hp : PassesOwn (model P w) _ _ (cxOf (L2.CX P w) P w K mg base ["self"] "Book.users" (defScope s_Book_users) f cdv A outer s H E).xe := passes_of rfl
  exact (vss_one (vs_ret (ve_fld T.g_Book T.cl_Book T.noat_Book__users (ve_var 0))))
theorem sc_is_below : FnScope ["value", "limit"] ["value", "limit"] (defScope s_is_below) := ⟨rfl, rfl, rfl, by decide +kernel, rfl, by decide +kernel, by decide +kernel⟩
theorem der_is_below {f : Addr} {fd : FuncData} (F : FunD K "is_below" "is_below" (defArgs s_is_below) (defBody s_is_below) (defScope s_is_below) [] [] f fd) (T : Txt P K mg) 
    (len : ∀ as q e, sp_is_below as q e → as.length = 2) (hpure : ∀ as q e, sp_is_below as q e → t_is_below (endsOf (refPos 0 as) q e) (entry 2 as)) : FnOk P w K mg base (L2.CX P w) 1 f fd ["value", "limit"] (spOf ⟨mg, K, w⟩ sp_is_below) := by
  have sc_nd := sc_is_below.nd
  refine def_ok F sc_is_below (by decide) len (t := t_is_below) (fun cdv A outer s H E hr => ?_) hpure
  have hu := hu65 hr
  have tk : Takes (cxOf (L2.CX P w) P w K mg base ["value", "limit"] "is_below" (defScope s_is_below) f cdv A outer s H E) (fun cls d _ H' => E cls d H') := takes_of rfl rfl rfl rfl
  have hp : PassesOwn (model P w) _ _ (cxOf (L2.CX P w) P w K mg base ["value", "limit"] "is_below" (defScope s_is_below) f cdv A outer s H E).xe := passes_of rfl
  exact (vss_one (vs_ret (ve_and (ve_isi kit_int ownNot_nil (by rfl) T.fr_isinstance (by rfl) T.fr_int boot_int' (ve_var 0)) (ve_and (ve_not (ve_isi kit_bool ownNot_nil (by rfl) T.fr_isinstance (by rfl) T.fr_bool boot_bool' (ve_var 0))) (ve_one (ve_ch op_le bok_le op_lt bok_lt ve_int (ve_var 0) (ve_var 1)))))))
theorem sc_is_slot_list : FnScope ["value", "size", "before", "slot"] ["value", "size"] (defScope s_is_slot_list) := ⟨rfl, rfl, rfl, by decide +kernel, rfl, by decide +kernel, by decide +kernel⟩
theorem der_is_slot_list {f : Addr} {fd : FuncData} (F : FunD K "is_slot_list" "is_slot_list" (defArgs s_is_slot_list) (defBody s_is_slot_list) (defScope s_is_slot_list) [] [] f fd) (T : Txt P K mg) 
    (len : ∀ as q e, sp_is_slot_list as q e → as.length = 2) (hpure : ∀ as q e, sp_is_slot_list as q e → t_is_slot_list (endsOf (refPos 0 as) q e) (entry 4 as)) : FnOk P w K mg base (L2.CX P w) 1 f fd ["value", "size"] (spOf ⟨mg, K, w⟩ sp_is_slot_list) := by
  have sc_nd := sc_is_slot_list.nd
  refine def_ok F sc_is_slot_list (by decide) len (t := t_is_slot_list) (fun cdv A outer s H E hr => ?_) hpure
  have hu := hu65 hr
  have tk : Takes (cxOf (L2.CX P w) P w K mg base ["value", "size", "before", "slot"] "is_slot_list" (defScope s_is_slot_list) f cdv A outer s H E) (fun cls d _ H' => E cls d H') := takes_of rfl rfl rfl rfl
  have hp : PassesOwn (model P w) _ _ (cxOf (L2.CX P w) P w K mg base ["value", "size", "before", "slot"] "is_slot_list" (defScope s_is_slot_list) f cdv A outer s H E).xe := passes_of rfl
  exact (vss_cons (vs_if (vt_bool (vw_or (vt_not (vt_tru (ve_isi kit_list ownNot_nil (by rfl) T.fr_isinstance (by rfl) T.fr_list boot_list' (ve_var 0)))) (vw_or1 (vt_cmp (opEq hu) bok_eq (ve_len T.fr_len (ve_var 0)) ve_int))))
      (vss_one (vs_ret ve_bl)) vss_nil)
      (vss_cons (vs_set (i := 2) sc_nd rfl (by first | exact Or.inl rfl | exact Or.inr rfl) (ve_neg ve_int))
      (vss_cons (vs_for hp rfl (vi_seq (ve_var 0)) (vg_n (i := 3) sc_nd rfl (by first | exact Or.inl rfl | exact Or.inr rfl))
      (vss_cons (vs_if (vt_bool (vw_or (vt_not (vt_tru (ve_isi kit_int ownNot_nil (by rfl) T.fr_isinstance (by rfl) T.fr_int boot_int' (ve_var 3)))) (vw_or (vt_tru (ve_isi kit_bool ownNot_nil (by rfl) T.fr_isinstance (by rfl) T.fr_bool boot_bool' (ve_var 3))) (vw_or1 (vt_not (vt_ch op_lt bok_lt op_lt bok_lt (ve_var 2) (ve_var 3) (ve_var 1)))))))
      (vss_one (vs_ret ve_bl)) vss_nil)
      (vss_one (vs_set (i := 2) sc_nd rfl (by first | exact Or.inl rfl | exact Or.inr rfl) (ve_var 3)))))
      (vss_one (vs_ret ve_bl)))))
theorem sc_is_whole : FnScope ["value"] ["value"] (defScope s_is_whole) := ⟨rfl, rfl, rfl, by decide +kernel, rfl, by decide +kernel, by decide +kernel⟩
theorem der_is_whole {f : Addr} {fd : FuncData} (F : FunD K "is_whole" "is_whole" (defArgs s_is_whole) (defBody s_is_whole) (defScope s_is_whole) [] [] f fd) (T : Txt P K mg) 
    (len : ∀ as q e, sp_is_whole as q e → as.length = 1) (hpure : ∀ as q e, sp_is_whole as q e → t_is_whole (endsOf (refPos 0 as) q e) (entry 1 as)) : FnOk P w K mg base (L2.CX P w) 1 f fd ["value"] (spOf ⟨mg, K, w⟩ sp_is_whole) := by
  have sc_nd := sc_is_whole.nd
  refine def_ok F sc_is_whole (by decide) len (t := t_is_whole) (fun cdv A outer s H E hr => ?_) hpure
  have hu := hu65 hr
  have tk : Takes (cxOf (L2.CX P w) P w K mg base ["value"] "is_whole" (defScope s_is_whole) f cdv A outer s H E) (fun cls d _ H' => E cls d H') := takes_of rfl rfl rfl rfl
  have hp : PassesOwn (model P w) _ _ (cxOf (L2.CX P w) P w K mg base ["value"] "is_whole" (defScope s_is_whole) f cdv A outer s H E).xe := passes_of rfl
  exact (vss_one (vs_ret (ve_and (ve_isi kit_int ownNot_nil (by rfl) T.fr_isinstance (by rfl) T.fr_int boot_int' (ve_var 0)) (ve_one (ve_not (ve_isi kit_bool ownNot_nil (by rfl) T.fr_isinstance (by rfl) T.fr_bool boot_bool' (ve_var 0)))))))
theorem sc_law_draw : FnScope ["well", "many", "found", "number"] ["well", "many"] (defScope s_law_draw) := ⟨rfl, rfl, rfl, by decide +kernel, rfl, by decide +kernel, by decide +kernel⟩
theorem der_law_draw {f : Addr} {fd : FuncData} (F : FunD K "_law_draw" "_law_draw" (defArgs s_law_draw) (defBody s_law_draw) (defScope s_law_draw) [] [] f fd) (T : Txt P K mg) 
    (len : ∀ as q e, sp_law_draw as q e → as.length = 2) (hpure : ∀ as q e, sp_law_draw as q e → t_law_draw (endsOf (refPos 0 as) q e) (entry 4 as)) : FnOk P w K mg base (L2.CX P w) 1 f fd ["well", "many"] (spOf ⟨mg, K, w⟩ sp_law_draw) := by
  have sc_nd := sc_law_draw.nd
  refine def_ok F sc_law_draw (by decide) len (t := t_law_draw) (fun cdv A outer s H E hr => ?_) hpure
  have hu := hu65 hr
  have tk : Takes (cxOf (L2.CX P w) P w K mg base ["well", "many", "found", "number"] "_law_draw" (defScope s_law_draw) f cdv A outer s H E) (fun cls d _ H' => E cls d H') := takes_of rfl rfl rfl rfl
  have hp : PassesOwn (model P w) _ _ (cxOf (L2.CX P w) P w K mg base ["well", "many", "found", "number"] "_law_draw" (defScope s_law_draw) f cdv A outer s H E).xe := passes_of rfl
  exact (vss_cons (vs_if (vt_cmp op_gt bok_gt (ve_ix hu (ve_var 0) ve_int) ve_int)
      (vss_cons (vs_set (i := 2) sc_nd rfl (by first | exact Or.inl rfl | exact Or.inr rfl) (ve_mod (ve_ix hu (ve_var 0) ve_int) (ve_var 1)))
      (vss_cons (vs_setI hu (ve_var 0) ve_int (ve_fdiv (ve_ix hu (ve_var 0) ve_int) (ve_var 1)))
      (vss_one (vs_ret (ve_var 2))))) vss_nil)
      (vss_cons (vs_setI hu (ve_var 0) ve_int (ve_add (ve_ix hu (ve_var 0) ve_int) ve_int))
      (vss_cons (vs_set (i := 3) sc_nd rfl (by first | exact Or.inl rfl | exact Or.inr rfl) (ve_mod (ve_mul (ve_add (ve_add (ve_ix hu (ve_var 0) ve_int) (ve_mul ve_int (ve_ix hu (ve_var 0) ve_int))) ve_int) ve_int) ve_int))
      (vss_cons (vs_set (i := 3) sc_nd rfl (by first | exact Or.inl rfl | exact Or.inr rfl) (ve_mod (ve_mul (ve_var 3) (ve_add (ve_fdiv (ve_var 3) ve_int) ve_int)) ve_int))
      (vss_one (vs_ret (ve_mod (ve_mod (ve_mul (ve_var 3) (ve_add (ve_fdiv (ve_var 3) ve_int) ve_int)) ve_int) (ve_var 1))))))))
theorem sc_law_due : FnScope ["allowed", "timetable", "slots", "at", "slot", "one"] ["allowed", "timetable", "slots"] (defScope s_law_due) := ⟨rfl, rfl, rfl, by decide +kernel, rfl, by decide +kernel, by decide +kernel⟩
theorem der_law_due {f : Addr} {fd : FuncData} (F : FunD K "_law_due" "_law_due" (defArgs s_law_due) (defBody s_law_due) (defScope s_law_due) [] [] f fd) (T : Txt P K mg) 
    (len : ∀ as q e, sp_law_due_k12 as q e → as.length = 3) (hpure : ∀ as q e, sp_law_due_k12 as q e → t_law_due_k12 (endsOf (refPos 0 as) q e) (entry 6 as)) : FnOk P w K mg base (L2.CX P w) 1 f fd ["allowed", "timetable", "slots"] (spOf ⟨mg, K, w⟩ sp_law_due_k12) := by
  have sc_nd := sc_law_due.nd
  refine def_ok F sc_law_due (by decide) len (t := t_law_due_k12) (fun cdv A outer s H E hr => ?_) hpure
  have hu := hu65 hr
  have tk : Takes (cxOf (L2.CX P w) P w K mg base ["allowed", "timetable", "slots", "at", "slot", "one"] "_law_due" (defScope s_law_due) f cdv A outer s H E) (fun cls d _ H' => E cls d H') := takes_of rfl rfl rfl rfl
  have hp : PassesOwn (model P w) _ _ (cxOf (L2.CX P w) P w K mg base ["allowed", "timetable", "slots", "at", "slot", "one"] "_law_due" (defScope s_law_due) f cdv A outer s H E).xe := passes_of rfl
  exact (vss_cons (vs_if (vt_not (vt_tru (ve_isi kit_tuple ownNot_nil (by rfl) T.fr_isinstance (by rfl) T.fr_tuple boot_tuple' (ve_var 2))))
      (vss_one (vs_ret (ve_neg ve_int))) vss_nil)
      (vss_cons (vs_forF [false, false, false, true, true, true] hp rfl (vi_enum (by rfl) T.fr_enumerate (ve_var 2)) (vg_t rfl (vgs_cons (vg_n (i := 3) sc_nd rfl (by first | exact Or.inl rfl | exact Or.inr rfl)) (vgs_cons (vg_n (i := 4) sc_nd rfl (by first | exact Or.inl rfl | exact Or.inr rfl)) vgs_nil)))
      (vss_one (vs_if (vt_bool (vw_or (vt_tru (ve_isi kit_bool ownNot_nil (by rfl) T.fr_isinstance (by rfl) T.fr_bool boot_bool' (ve_var 4))) (vw_or (vt_not (vt_tru (ve_isi kit_int ownNot_nil (by rfl) T.fr_isinstance (by rfl) T.fr_int boot_int' (ve_var 4)))) (vw_or (vt_cmp (op_notInA hu) bok_notIn (ve_var 4) (ve_var 1)) (vw_or1 (vt_cmp (op_inA hu) bok_in (ve_var 4) (ve_sl (ve_var 2) vo_none (vo_some (ve_var 3)))))))))
      (vss_one (vs_ret (ve_var 3))) vss_nil)))
      (vss_cons (vs_forF [false, false, false, true, true, true] hp rfl (vi_enum (by rfl) T.fr_enumerate (ve_var 2)) (vg_t rfl (vgs_cons (vg_n (i := 3) sc_nd rfl (by first | exact Or.inl rfl | exact Or.inr rfl)) (vgs_cons (vg_n (i := 4) sc_nd rfl (by first | exact Or.inl rfl | exact Or.inr rfl)) vgs_nil)))
      (vss_one (vs_if (vt_cmp (opNe hu) bok_ne (ve_lc (own := [("one", 5)]) rfl sc_nd (vi_seq (ve_ix hu (ve_var 0) (ve_tindex (ve_var 1) (ve_var 4)))) (blkOk_by (N := ["allowed", "timetable", "slots", "at", "slot", "one"]) (sc := defScope s_law_due) (by decide +kernel)) (by decide) (fun _ _ _ _ _ => (vg_n (i := 5) sc_nd rfl (by first | exact Or.inl rfl | exact Or.inr rfl))) (fun _ _ _ _ _ => (vts_one (vt_cmp (op_notInA hu) bok_notIn (ve_var 5) (ve_var 2)))) (fun _ _ _ _ _ => (ve_var 5))) (ve_lst va_nil))
      (vss_one (vs_ret (ve_add (ve_len T.fr_len (ve_var 2)) (ve_var 3)))) vss_nil)))
      (vss_one (vs_ret ve_non)))))
theorem sc_law_open : FnScope ["slots", "allowed", "timetable", "slot", "found", "grown", "more", "index", "one"] ["slots", "allowed", "timetable"] (defScope s_law_open) := ⟨rfl, rfl, rfl, by decide +kernel, rfl, by decide +kernel, by decide +kernel⟩
theorem der_law_open {f : Addr} {fd : FuncData} (F : FunD K "_law_open" "_law_open" (defArgs s_law_open) (defBody s_law_open) (defScope s_law_open) [] [] f fd) (T : Txt P K mg) 
    (len : ∀ as q e, sp_law_open as q e → as.length = 3) (hpure : ∀ as q e, sp_law_open as q e → t_law_open (endsOf (refPos 0 as) q e) (entry 9 as)) : FnOk P w K mg base (L2.CX P w) 1 f fd ["slots", "allowed", "timetable"] (spOf ⟨mg, K, w⟩ sp_law_open) := by
  have sc_nd := sc_law_open.nd
  refine def_ok F sc_law_open (by decide) len (t := t_law_open) (fun cdv A outer s H E hr => ?_) hpure
  have hu := hu65 hr
  have tk : Takes (cxOf (L2.CX P w) P w K mg base ["slots", "allowed", "timetable", "slot", "found", "grown", "more", "index", "one"] "_law_open" (defScope s_law_open) f cdv A outer s H E) (fun cls d _ H' => E cls d H') := takes_of rfl rfl rfl rfl
  have hp : PassesOwn (model P w) _ _ (cxOf (L2.CX P w) P w K mg base ["slots", "allowed", "timetable", "slot", "found", "grown", "more", "index", "one"] "_law_open" (defScope s_law_open) f cdv A outer s H E).xe := passes_of rfl
  exact (vss_cons (vs_set (i := 4) sc_nd rfl (by first | exact Or.inl rfl | exact Or.inr rfl) (ve_lc (own := [("slot", 3)]) rfl sc_nd (vi_range1 (by rfl) T.fr_range (ve_var 0)) (blkOk_by (N := ["slots", "allowed", "timetable", "slot", "found", "grown", "more", "index", "one"]) (sc := defScope s_law_open) (by decide +kernel)) (by decide) (fun _ _ _ _ _ => (vg_n (i := 3) sc_nd rfl (by first | exact Or.inl rfl | exact Or.inr rfl))) (fun _ _ _ _ _ => (vts_one (vt_cmp (op_notInA hu) bok_notIn (ve_var 3) (ve_var 2)))) (fun _ _ _ _ _ => (ve_var 3))))
      (vss_cons (vs_set (i := 5) sc_nd rfl (by first | exact Or.inl rfl | exact Or.inr rfl) ve_bl)
      (vss_cons (vs_whileF [true, false, false, true, false, false, true, true, true] hp (vt_tru (ve_var 5))
      (vss_cons (vs_set (i := 6) sc_nd rfl (by first | exact Or.inl rfl | exact Or.inr rfl) (ve_lst va_nil))
      (vss_cons (vs_forF [true, false, false, true, false, true, false, true, true] hp rfl (vi_enum (by rfl) T.fr_enumerate (ve_var 2)) (vg_t rfl (vgs_cons (vg_n (i := 7) sc_nd rfl (by first | exact Or.inl rfl | exact Or.inr rfl)) (vgs_cons (vg_n (i := 3) sc_nd rfl (by first | exact Or.inl rfl | exact Or.inr rfl)) vgs_nil)))
      (vss_one (vs_if (vt_bool (vw_and (vt_cmp (op_notInA hu) bok_notIn (ve_var 3) (ve_var 4)) (vw_and1 (vt_cmp (opNe hu) bok_ne (ve_lc (own := [("one", 8)]) rfl sc_nd (vi_seq (ve_ix hu (ve_var 1) (ve_var 7))) (blkOk_by (N := ["slots", "allowed", "timetable", "slot", "found", "grown", "more", "index", "one"]) (sc := defScope s_law_open) (by decide +kernel)) (by decide) (fun _ _ _ _ _ => (vg_n (i := 8) sc_nd rfl (by first | exact Or.inl rfl | exact Or.inr rfl))) (fun _ _ _ _ _ => (vts_one (vt_cmp (op_inA hu) bok_in (ve_var 8) (ve_var 4)))) (fun _ _ _ _ _ => (ve_var 8))) (ve_lst va_nil)))))
      (vss_one (vs_expr (ve_append (ve_var 6) (ve_var 3)))) vss_nil)))
      (vss_cons (vs_set (i := 5) sc_nd rfl (by first | exact Or.inl rfl | exact Or.inr rfl) (ve_cmp (opNe hu) bok_ne (ve_var 6) (ve_lst va_nil)))
      (vss_one (vs_set (i := 4) sc_nd rfl (by first | exact Or.inl rfl | exact Or.inr rfl) (ve_add (ve_var 4) (ve_var 6))))))))
      (vss_one (vs_ret (ve_sorted rfl T.fr_sorted (ve_var 4)))))))
theorem sc_users_of_slots : FnScope ["slots", "rows", "users", "appointment", "row", "bit", "slot"] ["slots", "rows"] (defScope s_users_of_slots) := ⟨rfl, rfl, rfl, by decide +kernel, rfl, by decide +kernel, by decide +kernel⟩
theorem der_users_of_slots {f : Addr} {fd : FuncData} (F : FunD K "_users_of_slots" "_users_of_slots" (defArgs s_users_of_slots) (defBody s_users_of_slots) (defScope s_users_of_slots) [] [] f fd) (T : Txt P K mg) 
    (len : ∀ as q e, sp_users_of_slots as q e → as.length = 2) (hpure : ∀ as q e, sp_users_of_slots as q e → t_users_of_slots (endsOf (refPos 0 as) q e) (entry 7 as)) : FnOk P w K mg base (L2.CX P w) 1 f fd ["slots", "rows"] (spOf ⟨mg, K, w⟩ sp_users_of_slots) := by
  have sc_nd := sc_users_of_slots.nd
  refine def_ok F sc_users_of_slots (by decide) len (t := t_users_of_slots) (fun cdv A outer s H E hr => ?_) hpure
  have hu := hu65 hr
  have tk : Takes (cxOf (L2.CX P w) P w K mg base ["slots", "rows", "users", "appointment", "row", "bit", "slot"] "_users_of_slots" (defScope s_users_of_slots) f cdv A outer s H E) (fun cls d _ H' => E cls d H') := takes_of rfl rfl rfl rfl
  have hp : PassesOwn (model P w) _ _ (cxOf (L2.CX P w) P w K mg base ["slots", "rows", "users", "appointment", "row", "bit", "slot"] "_users_of_slots" (defScope s_users_of_slots) f cdv A outer s H E).xe := passes_of rfl
  exact (vss_cons (vs_set (i := 2) sc_nd rfl (by first | exact Or.inl rfl | exact Or.inr rfl) (ve_mul (ve_lst (va_cons ve_int va_nil)) (ve_var 0)))
      (vss_cons (vs_for hp rfl (vi_enum (by rfl) T.fr_enumerate (ve_var 1)) (vg_t rfl (vgs_cons (vg_n (i := 3) sc_nd rfl (by first | exact Or.inl rfl | exact Or.inr rfl)) (vgs_cons (vg_n (i := 4) sc_nd rfl (by first | exact Or.inl rfl | exact Or.inr rfl)) vgs_nil)))
      (vss_cons (vs_set (i := 5) sc_nd rfl (by first | exact Or.inl rfl | exact Or.inr rfl) (ve_shl ve_int (ve_var 3)))
      (vss_one (vs_for hp rfl (vi_seq (ve_var 4)) (vg_n (i := 6) sc_nd rfl (by first | exact Or.inl rfl | exact Or.inr rfl))
      (vss_one (vs_augS hu iop_add bok_addI (ve_var 2) (ve_var 6) (ve_var 5)))))))
      (vss_one (vs_ret (ve_tuple T.fr_tuple (ve_var 2))))))
theorem sc_check_book : FnScope ["slots", "allowed", "index", "row"] ["slots", "allowed"] (defScope s_check_book) := ⟨rfl, rfl, rfl, by decide +kernel, rfl, by decide +kernel, by decide +kernel⟩
theorem der_check_book {f : Addr} {fd : FuncData} (F : FunD K "_check_book" "_check_book" (defArgs s_check_book) (defBody s_check_book) (defScope s_check_book) [] [] f fd) (T : Txt P K mg) (g_is_whole : FnG P w K mg base "is_whole" (ga K "is_whole") 1 ["value"] sp_is_whole [] []) (g_is_slot_list : FnG P w K mg base "is_slot_list" (ga K "is_slot_list") 1 ["value", "size"] sp_is_slot_list [] [])
    (len : ∀ as q e, sp_check_book as q e → as.length = 2) (hpure : ∀ as q e, sp_check_book as q e → t_check_book (endsOf (refPos 0 as) q e) (entry 4 as)) : FnOk P w K mg base (L2.CX P w) 2 f fd ["slots", "allowed"] (spOf ⟨mg, K, w⟩ sp_check_book) := by
  have sc_nd := sc_check_book.nd
  refine def_ok F sc_check_book (by decide) len (t := t_check_book) (fun cdv A outer s H E hr => ?_) hpure
  have hu := hu65 hr
  have tk : Takes (cxOf (L2.CX P w) P w K mg base ["slots", "allowed", "index", "row"] "_check_book" (defScope s_check_book) f cdv A outer s H E) (fun cls d _ H' => E cls d H') := takes_of rfl rfl rfl rfl
  have hp : PassesOwn (model P w) _ _ (cxOf (L2.CX P w) P w K mg base ["slots", "allowed", "index", "row"] "_check_book" (defScope s_check_book) f cdv A outer s H E).xe := passes_of rfl
  exact (vss_cons (vs_if (vt_bool (vw_or (vt_not (vt_tru (vg_call [false] g_is_whole (hr.mono (by decide)) tk (va_cons (ve_var 0) va_nil)))) (vw_or1 (vt_not (vt_ch op_le bok_le op_le bok_le ve_int (ve_var 0) (ve_globI (by rfl) T.i_MOST_SLOTS))))))
      (vss_one (vs_raise rfl T.x_NoBook.t T.x_NoBook.g (hr.mono (Nat.le_refl _)) tk (va_cons (ve_neg ve_int) va_nil))) vss_nil)
      (vss_cons (vs_if (vt_bool (vw_or (vt_not (vt_tru (ve_isi kit_list ownNot_nil (by rfl) T.fr_isinstance (by rfl) T.fr_list boot_list' (ve_var 1)))) (vw_or1 (vt_cmp op_gt bok_gt (ve_len T.fr_len (ve_var 1)) (ve_globI (by rfl) T.i_MOST_APPOINTMENTS)))))
      (vss_one (vs_raise rfl T.x_NoBook.t T.x_NoBook.g (hr.mono (Nat.le_refl _)) tk (va_cons (ve_neg ve_int) va_nil))) vss_nil)
      (vss_one (vs_for hp rfl (vi_enum (by rfl) T.fr_enumerate (ve_var 1)) (vg_t rfl (vgs_cons (vg_n (i := 2) sc_nd rfl (by first | exact Or.inl rfl | exact Or.inr rfl)) (vgs_cons (vg_n (i := 3) sc_nd rfl (by first | exact Or.inl rfl | exact Or.inr rfl)) vgs_nil)))
      (vss_one (vs_if (vt_not (vt_tru (vg_call [false, false] g_is_slot_list (hr.mono (by decide)) tk (va_cons (ve_var 3) (va_cons (ve_var 0) va_nil)))))
      (vss_one (vs_raise rfl T.x_NoBook.t T.x_NoBook.g (hr.mono (Nat.le_refl _)) tk (va_cons (ve_var 2) va_nil))) vss_nil))))))
theorem sc_law_bent : FnScope ["well", "some", "slots", "at", "one", "way"] ["well", "some", "slots"] (defScope s_law_bent) := ⟨rfl, rfl, rfl, by decide +kernel, rfl, by decide +kernel, by decide +kernel⟩
theorem der_law_bent {f : Addr} {fd : FuncData} (F : FunD K "_law_bent" "_law_bent" (defArgs s_law_bent) (defBody s_law_bent) (defScope s_law_bent) [] [] f fd) (T : Txt P K mg) (g_law_draw : FnG P w K mg base "_law_draw" (ga K "_law_draw") 1 ["well", "many"] sp_law_draw [] [])
    (len : ∀ as q e, sp_law_bent_k12 as q e → as.length = 3) (hpure : ∀ as q e, sp_law_bent_k12 as q e → t_law_bent_k12 (endsOf (refPos 0 as) q e) (entry 6 as)) : FnOk P w K mg base (L2.CX P w) 2 f fd ["well", "some", "slots"] (spOf ⟨mg, K, w⟩ sp_law_bent_k12) := by
  have sc_nd := sc_law_bent.nd
  refine def_ok F sc_law_bent (by decide) len (t := t_law_bent_k12) (fun cdv A outer s H E hr => ?_) hpure
  have hu := hu65 hr
  have tk : Takes (cxOf (L2.CX P w) P w K mg base ["well", "some", "slots", "at", "one", "way"] "_law_bent" (defScope s_law_bent) f cdv A outer s H E) (fun cls d _ H' => E cls d H') := takes_of rfl rfl rfl rfl
  have hp : PassesOwn (model P w) _ _ (cxOf (L2.CX P w) P w K mg base ["well", "some", "slots", "at", "one", "way"] "_law_bent" (defScope s_law_bent) f cdv A outer s H E).xe := passes_of rfl
  exact (vss_cons (vs_fz 3 (vs_set (i := 3) sc_nd rfl (by first | exact Or.inl rfl | exact Or.inr rfl) (vg_call [true, false] g_law_draw (hr.mono (by decide)) tk (va_cons (ve_var 0) (va_cons (ve_add (ve_len T.fr_len (ve_var 1)) ve_int) va_nil)))))
      (vss_cons (vs_set (i := 4) sc_nd rfl (by first | exact Or.inl rfl | exact Or.inr rfl) (ve_ix hu (ve_lst (va_cons (vg_call [true, false] g_law_draw (hr.mono (by decide)) tk (va_cons (ve_var 0) (va_cons (ve_var 2) va_nil))) (va_cons ve_bl (va_cons (ve_neg ve_int) (va_cons (ve_var 2) (va_cons ve_non (va_cons ve_str (va_cons (ve_lst (va_cons ve_int va_nil)) (va_cons ve_bl va_nil))))))))) (vg_call [true, false] g_law_draw (hr.mono (by decide)) tk (va_cons (ve_var 0) (va_cons ve_int va_nil)))))
      (vss_cons (vs_fz 5 (vs_set (i := 5) sc_nd rfl (by first | exact Or.inl rfl | exact Or.inr rfl) (vg_call [true, false] g_law_draw (hr.mono (by decide)) tk (va_cons (ve_var 0) (va_cons ve_int va_nil)))))
      (vss_cons (vs_if (vt_cmp (opEq hu) bok_eq (ve_var 5) ve_int)
      (vss_one (vs_ret (ve_add (ve_sl (ve_var 1) vo_none (vo_some (ve_var 3))) (ve_sl (ve_var 1) (vo_some (ve_add (ve_var 3) ve_int)) vo_none)))) vss_nil)
      (vss_cons (vs_if (vt_cmp (opEq hu) bok_eq (ve_var 5) ve_int)
      (vss_one (vs_ret (ve_add (ve_add (ve_sl (ve_var 1) vo_none (vo_some (ve_var 3))) (ve_sl (ve_var 1) (vo_some (ve_var 3)) (vo_some (ve_add (ve_var 3) ve_int)))) (ve_sl (ve_var 1) (vo_some (ve_var 3)) vo_none)))) vss_nil)
      (vss_one (vs_ret (ve_add (ve_add (ve_sl (ve_var 1) vo_none (vo_some (ve_var 3))) (ve_tup (va_cons (ve_var 4) va_nil))) (ve_sl (ve_var 1) (vo_some (ve_add (ve_var 3) (ve_int1 T.fr_int (ve_cmp (opEq hu) bok_eq (ve_var 5) ve_int)))) vo_none)))))))))
theorem sc_law_book : FnScope ["well", "most", "slots", "left", "order", "many", "cut", "extra", "allowed", "index", "some", "k"] ["well", "most"] (defScope s_law_book) := ⟨rfl, rfl, rfl, by decide +kernel, rfl, by decide +kernel, by decide +kernel⟩
theorem der_law_book {f : Addr} {fd : FuncData} (F : FunD K "_law_book" "_law_book" (defArgs s_law_book) (defBody s_law_book) (defScope s_law_book) [] [] f fd) (T : Txt P K mg) (g_law_draw : FnG P w K mg base "_law_draw" (ga K "_law_draw") 1 ["well", "many"] sp_law_draw [] [])
    (len : ∀ as q e, sp_law_book as q e → as.length = 2) (hpure : ∀ as q e, sp_law_book as q e → t_law_book (endsOf (refPos 0 as) q e) (entry 12 as)) : FnOk P w K mg base (L2.CX P w) 2 f fd ["well", "most"] (spOf ⟨mg, K, w⟩ sp_law_book) := by
  have sc_nd := sc_law_book.nd
  refine def_ok F sc_law_book (by decide) len (t := t_law_book) (fun cdv A outer s H E hr => ?_) hpure
  have hu := hu65 hr
  have tk : Takes (cxOf (L2.CX P w) P w K mg base ["well", "most", "slots", "left", "order", "many", "cut", "extra", "allowed", "index", "some", "k"] "_law_book" (defScope s_law_book) f cdv A outer s H E) (fun cls d _ H' => E cls d H') := takes_of rfl rfl rfl rfl
  have hp : PassesOwn (model P w) _ _ (cxOf (L2.CX P w) P w K mg base ["well", "most", "slots", "left", "order", "many", "cut", "extra", "allowed", "index", "some", "k"] "_law_book" (defScope s_law_book) f cdv A outer s H E).xe := passes_of rfl
  exact (vss_cons (vs_set (i := 2) sc_nd rfl (by first | exact Or.inl rfl | exact Or.inr rfl) (ve_sub (ve_var 1) (ve_fdiv (vg_call [true, false] g_law_draw (hr.mono (by decide)) tk (va_cons (ve_var 0) (va_cons (ve_var 1) va_nil))) (ve_ix hu (ve_lst (va_cons ve_int (va_cons ve_int (va_cons ve_int va_nil)))) (vg_call [true, false] g_law_draw (hr.mono (by decide)) tk (va_cons (ve_var 0) (va_cons ve_int va_nil)))))))
      (vss_cons (vs_set (i := 3) sc_nd rfl (by first | exact Or.inl rfl | exact Or.inr rfl) (ve_lstRg rfl (by rfl) T.fr_list (by rfl) T.fr_range (ve_var 2)))
      (vss_cons (vs_set (i := 4) sc_nd rfl (by first | exact Or.inl rfl | exact Or.inr rfl) (ve_lst va_nil))
      (vss_cons (vs_while hp (vt_cmp (opNe hu) bok_ne (ve_var 3) (ve_lst va_nil))
      (vss_one (vs_expr (ve_append (ve_var 4) (ve_popAt (ve_var 3) (vg_call [true, false] g_law_draw (hr.mono (by decide)) tk (va_cons (ve_var 0) (va_cons (ve_len T.fr_len (ve_var 3)) va_nil))))))))
      (vss_cons (vs_set (i := 5) sc_nd rfl (by first | exact Or.inl rfl | exact Or.inr rfl) (ve_max2 rfl T.fr_max ve_int (ve_sub (ve_var 2) (ve_ix hu (ve_lst (va_cons ve_int (va_cons ve_int (va_cons ve_int (va_cons ve_int (va_cons ve_int (va_cons (vg_call [true, false] g_law_draw (hr.mono (by decide)) tk (va_cons (ve_var 0) (va_cons (ve_add (ve_var 2) ve_int) va_nil))) va_nil))))))) (vg_call [true, false] g_law_draw (hr.mono (by decide)) tk (va_cons (ve_var 0) (va_cons ve_int va_nil)))))))
      (vss_cons (vs_set (i := 6) sc_nd rfl (by first | exact Or.inl rfl | exact Or.inr rfl) (ve_ix hu (ve_lst (va_cons ve_int (va_cons ve_int (va_cons (vg_call [true, false] g_law_draw (hr.mono (by decide)) tk (va_cons (ve_var 0) (va_cons (ve_add (ve_var 2) ve_int) va_nil))) va_nil)))) (vg_call [true, false] g_law_draw (hr.mono (by decide)) tk (va_cons (ve_var 0) (va_cons ve_int va_nil)))))
      (vss_cons (vs_set (i := 7) sc_nd rfl (by first | exact Or.inl rfl | exact Or.inr rfl) (ve_ix hu (ve_lst (va_cons ve_int (va_cons ve_int (va_cons ve_int (va_cons ve_int va_nil))))) (vg_call [true, false] g_law_draw (hr.mono (by decide)) tk (va_cons (ve_var 0) (va_cons ve_int va_nil)))))
      (vss_cons (vs_set (i := 8) sc_nd rfl (by first | exact Or.inl rfl | exact Or.inr rfl) (ve_lst va_nil))
      (vss_cons (vs_for hp rfl (vi_range1 (by rfl) T.fr_range (ve_var 5)) (vg_n (i := 9) sc_nd rfl (by first | exact Or.inl rfl | exact Or.inr rfl))
      (vss_cons (vs_set (i := 10) sc_nd rfl (by first | exact Or.inl rfl | exact Or.inr rfl) (ve_lst (va_cons (ve_ix hu (ve_var 4) (ve_var 9)) va_nil)))
      (vss_cons (vs_for hp rfl (vi_range1 (by rfl) T.fr_range (vg_call [true, false] g_law_draw (hr.mono (by decide)) tk (va_cons (ve_var 0) (va_cons (ve_var 7) va_nil)))) (vg_n (i := 11) sc_nd rfl (by first | exact Or.inl rfl | exact Or.inr rfl))
      (vss_one (vs_expr (ve_append (ve_var 10) (ve_ix hu (ve_var 4) (vg_call [true, false] g_law_draw (hr.mono (by decide)) tk (va_cons (ve_var 0) (va_cons (ve_ix hu (ve_lst (va_cons (ve_var 2) (va_cons (ve_max2 rfl T.fr_max ve_int (ve_var 6)) va_nil))) (ve_int1 T.fr_int (ve_cmp op_lt bok_lt (ve_var 9) (ve_var 6)))) va_nil))))))))
      (vss_one (vs_expr (ve_append (ve_var 8) (ve_sorted rfl T.fr_sorted (ve_set1 rfl T.fr_set (ve_var 10)))))))))
      (vss_one (vs_ret (ve_tup (va_cons (ve_var 2) (va_cons (ve_var 8) (va_cons (ve_tuple T.fr_tuple (ve_sl (ve_var 4) vo_none (vo_some (ve_var 5)))) va_nil)))))))))))))))
theorem sc_tight_fault : FnScope ["book", "timetable", "slots", "slot", "owners", "inside", "index", "leaving", "users", "appointment"] ["book", "timetable", "slots"] (defScope s_tight_fault) := ⟨rfl, rfl, rfl, by decide +kernel, rfl, by decide +kernel, by decide +kernel⟩
theorem der_tight_fault {f : Addr} {fd : FuncData} (F : FunD K "tight_fault" "tight_fault" (defArgs s_tight_fault) (defBody s_tight_fault) (defScope s_tight_fault) [] [] f fd) (T : Txt P K mg) (g_is_below : FnG P w K mg base "is_below" (ga K "is_below") 1 ["value", "limit"] sp_is_below [] []) (g_Book_size : FnM P w K mg base "Book" "size" (ga K "Book") (ma K (ga K "Book") "size") 1 ["self"] sp_Book_size) (g_Book_users : FnM P w K mg base "Book" "users" (ga K "Book") (ma K (ga K "Book") "users") 1 ["self"] sp_Book_users)
    (len : ∀ as q e, sp_tight_fault as q e → as.length = 3) (hpure : ∀ as q e, sp_tight_fault as q e → t_tight_fault (endsOf (refPos 0 as) q e) (entry 10 as)) : FnOk P w K mg base (L2.CX P w) 2 f fd ["book", "timetable", "slots"] (spOf ⟨mg, K, w⟩ sp_tight_fault) := by
  have sc_nd := sc_tight_fault.nd
  refine def_ok F sc_tight_fault (by decide) len (t := t_tight_fault) (fun cdv A outer s H E hr => ?_) hpure
  have hu := hu65 hr
  have tk : Takes (cxOf (L2.CX P w) P w K mg base ["book", "timetable", "slots", "slot", "owners", "inside", "index", "leaving", "users", "appointment"] "tight_fault" (defScope s_tight_fault) f cdv A outer s H E) (fun cls d _ H' => E cls d H') := takes_of rfl rfl rfl rfl
  have hp : PassesOwn (model P w) _ _ (cxOf (L2.CX P w) P w K mg base ["book", "timetable", "slots", "slot", "owners", "inside", "index", "leaving", "users", "appointment"] "tight_fault" (defScope s_tight_fault) f cdv A outer s H E).xe := passes_of rfl
  exact (vss_cons (vs_if (vt_not (vt_tru (ve_isi kit_tuple ownNot_nil (by rfl) T.fr_isinstance (by rfl) T.fr_tuple boot_tuple' (ve_var 2))))
      (vss_one (vs_ret (ve_neg ve_int))) vss_nil)
      (vss_cons (vs_setDc (i := 4) rfl sc_nd rfl rfl (sw_trueD rfl rfl rfl (by decide +kernel)) (own := [("appointment", 9), ("slot", 3)]) (vi_enum (by rfl) T.fr_enumerate (ve_var 1)) (blkOk_by (N := ["book", "timetable", "slots", "slot", "owners", "inside", "index", "leaving", "users", "appointment"]) (sc := defScope s_tight_fault) (by decide +kernel)) (by decide) (fun _ _ _ _ _ => (vg_t rfl (vgs_cons (vg_n (i := 9) sc_nd rfl (by first | exact Or.inl rfl | exact Or.inr rfl)) (vgs_cons (vg_n (i := 3) sc_nd rfl (by first | exact Or.inl rfl | exact Or.inr rfl)) vgs_nil)))) (fun _ _ _ _ _ => vts_nil) (fun _ _ _ _ _ => (ve_var 3)) (fun _ _ _ _ _ => (ve_var 9)))
      (vss_cons (vs_set (i := 5) sc_nd rfl (by first | exact Or.inl rfl | exact Or.inr rfl) (ve_set0 T.fr_set))
      (vss_cons (vs_for hp rfl (vi_enum (by rfl) T.fr_enumerate (ve_var 2)) (vg_t rfl (vgs_cons (vg_n (i := 6) sc_nd rfl (by first | exact Or.inl rfl | exact Or.inr rfl)) (vgs_cons (vg_n (i := 3) sc_nd rfl (by first | exact Or.inl rfl | exact Or.inr rfl)) vgs_nil)))
      (vss_cons (vs_if (vt_bool (vw_or (vt_not (vt_tru (vg_call [false, false] g_is_below (hr.mono (by decide)) tk (va_cons (ve_var 3) (va_cons (vg_meth0 g_Book_size (hr.mono (by decide)) tk (ve_var 0)) va_nil))))) (vw_or (vt_cmp (op_notInA hu) bok_notIn (ve_var 3) (ve_var 4)) (vw_or1 (vt_cmp (op_inA hu) bok_in (ve_var 3) (ve_var 5))))))
      (vss_one (vs_ret (ve_var 6))) vss_nil)
      (vss_one (vs_expr (ve_sadd (ve_var 5) (va_cons (ve_var 3) va_nil))))))
      (vss_cons (vs_set (i := 7) sc_nd rfl (by first | exact Or.inl rfl | exact Or.inr rfl) ve_int)
      (vss_cons (vs_for hp rfl (vi_enum (by rfl) T.fr_enumerate (vg_meth0 g_Book_users (hr.mono (by decide)) tk (ve_var 0))) (vg_t rfl (vgs_cons (vg_n (i := 3) sc_nd rfl (by first | exact Or.inl rfl | exact Or.inr rfl)) (vgs_cons (vg_n (i := 8) sc_nd rfl (by first | exact Or.inl rfl | exact Or.inr rfl)) vgs_nil)))
      (vss_one (vs_if (vt_cmp (op_notInA hu) bok_notIn (ve_var 3) (ve_var 5))
      (vss_one (vs_aug (i := 7) iop_or bok_or sc_nd rfl (by first | exact Or.inl rfl | exact Or.inr rfl) (ve_var 8))) vss_nil)))
      (vss_cons (vs_for hp rfl (vi_enum (by rfl) T.fr_enumerate (ve_var 2)) (vg_t rfl (vgs_cons (vg_n (i := 6) sc_nd rfl (by first | exact Or.inl rfl | exact Or.inr rfl)) (vgs_cons (vg_n (i := 3) sc_nd rfl (by first | exact Or.inl rfl | exact Or.inr rfl)) vgs_nil)))
      (vss_one (vs_if (vt_tru (ve_band (ve_shr (ve_var 7) (ve_ix hu (ve_var 4) (ve_var 3))) ve_int))
      (vss_one (vs_ret (ve_add (ve_len T.fr_len (ve_var 2)) (ve_var 6)))) vss_nil)))
      (vss_one (vs_ret ve_non)))))))))
theorem sc_Book_init : FnScope ["self", "slots", "allowed", "row"] ["self", "slots", "allowed"] (defScope s_Book_init) := ⟨rfl, rfl, rfl, by decide +kernel, rfl, by decide +kernel, by decide +kernel⟩
theorem der_Book_init {f : Addr} {fd : FuncData} (F : FunD K "__init__" "Book.__init__" (defArgs s_Book_init) (defBody s_Book_init) (defScope s_Book_init) [] [] f fd) (T : Txt P K mg) (g_check_book : FnG P w K mg base "_check_book" (ga K "_check_book") 2 ["slots", "allowed"] sp_check_book [] []) (g_users_of_slots : FnG P w K mg base "_users_of_slots" (ga K "_users_of_slots") 1 ["slots", "rows"] sp_users_of_slots [] [])
    (len : ∀ as q e, sp_Book_init as q e → as.length = 3) (hpure : ∀ as q e, sp_Book_init as q e → t_Book_init (endsOf (refPos 0 as) q e) (entry 4 as)) : FnOk P w K mg base (L2.CX P w) 3 f fd ["self", "slots", "allowed"] (spOf ⟨mg, K, w⟩ sp_Book_init) := by
  have sc_nd := sc_Book_init.nd
  refine def_ok F sc_Book_init (by decide) len (t := t_Book_init) (fun cdv A outer s H E hr => ?_) hpure
  have hu := hu65 hr
  have tk : Takes (cxOf (L2.CX P w) P w K mg base ["self", "slots", "allowed", "row"] "Book.__init__" (defScope s_Book_init) f cdv A outer s H E) (fun cls d _ H' => E cls d H') := takes_of rfl rfl rfl rfl
  have hp : PassesOwn (model P w) _ _ (cxOf (L2.CX P w) P w K mg base ["self", "slots", "allowed", "row"] "Book.__init__" (defScope s_Book_init) f cdv A outer s H E).xe := passes_of rfl
  exact (vss_cons (vs_expr (vg_call [false, false] g_check_book (hr.mono (by decide)) tk (va_cons (ve_var 1) (va_cons (ve_var 2) va_nil))))
      (vss_cons (vs_fld T.g_Book T.cl_Book T.noat_Book__slots (ve_var 0) (ve_var 1))
      (vss_cons (vs_fld T.g_Book T.cl_Book T.noat_Book__allowed (ve_var 0) (ve_lc (own := [("row", 3)]) rfl sc_nd (vi_seq (ve_var 2)) (blkOk_by (N := ["self", "slots", "allowed", "row"]) (sc := defScope s_Book_init) (by decide +kernel)) (by decide) (fun _ _ _ _ _ => (vg_n (i := 3) sc_nd rfl (by first | exact Or.inl rfl | exact Or.inr rfl))) (fun _ _ _ _ _ => vts_nil) (fun _ _ _ _ _ => (ve_tuple T.fr_tuple (ve_var 3)))))
      (vss_one (vs_fld T.g_Book T.cl_Book T.noat_Book__users (ve_var 0) (vg_call [false, false] g_users_of_slots (hr.mono (by decide)) tk (va_cons (ve_var 1) (va_cons (ve_fld T.g_Book T.cl_Book T.noat_Book__allowed (ve_var 0)) va_nil))))))))
theorem sc_check_timetable : FnScope ["book", "timetable", "users", "seen", "index", "slot"] ["book", "timetable"] (defScope s_check_timetable) := ⟨rfl, rfl, rfl, by decide +kernel, rfl, by decide +kernel, by decide +kernel⟩
theorem der_check_timetable {f : Addr} {fd : FuncData} (F : FunD K "check_timetable" "check_timetable" (defArgs s_check_timetable) (defBody s_check_timetable) (defScope s_check_timetable) [] [] f fd) (T : Txt P K mg) (g_Book_len : FnL P w K mg base "Book" (ga K "Book") (ma K (ga K "Book") "__len__") 1 ["self"] sp_Book_len) (g_Book_users : FnM P w K mg base "Book" "users" (ga K "Book") (ma K (ga K "Book") "users") 1 ["self"] sp_Book_users) (g_is_below : FnG P w K mg base "is_below" (ga K "is_below") 1 ["value", "limit"] sp_is_below [] [])
    (len : ∀ as q e, sp_check_timetable as q e → as.length = 2) (hpure : ∀ as q e, sp_check_timetable as q e → t_check_timetable (endsOf (refPos 0 as) q e) (entry 6 as)) : FnOk P w K mg base (L2.CX P w) 3 f fd ["book", "timetable"] (spOf ⟨mg, K, w⟩ sp_check_timetable) := by
  have sc_nd := sc_check_timetable.nd
  refine def_ok F sc_check_timetable (by decide) len (t := t_check_timetable) (fun cdv A outer s H E hr => ?_) hpure
  have hu := hu65 hr
  have tk : Takes (cxOf (L2.CX P w) P w K mg base ["book", "timetable", "users", "seen", "index", "slot"] "check_timetable" (defScope s_check_timetable) f cdv A outer s H E) (fun cls d _ H' => E cls d H') := takes_of rfl rfl rfl rfl
  have hp : PassesOwn (model P w) _ _ (cxOf (L2.CX P w) P w K mg base ["book", "timetable", "users", "seen", "index", "slot"] "check_timetable" (defScope s_check_timetable) f cdv A outer s H E).xe := passes_of rfl
  exact (vss_cons (vs_if (vt_bool (vw_or (vt_not (vt_tru (ve_isi kit_tuple ownNot_nil (by rfl) T.fr_isinstance (by rfl) T.fr_tuple boot_tuple' (ve_var 1)))) (vw_or1 (vt_cmp (opNe hu) bok_ne (ve_len T.fr_len (ve_var 1)) (vg_lenO g_Book_len (hr.mono (by decide)) T.fr_len (ve_var 0))))))
      (vss_one (vs_raise rfl T.x_NoTimetable.t T.x_NoTimetable.g (hr.mono (Nat.le_refl _)) tk (va_cons (ve_neg ve_int) va_nil))) vss_nil)
      (vss_cons (vs_set (i := 2) sc_nd rfl (by first | exact Or.inl rfl | exact Or.inr rfl) (vg_meth0 g_Book_users (hr.mono (by decide)) tk (ve_var 0)))
      (vss_cons (vs_set (i := 3) sc_nd rfl (by first | exact Or.inl rfl | exact Or.inr rfl) (ve_set0 T.fr_set))
      (vss_one (vs_for hp rfl (vi_enum (by rfl) T.fr_enumerate (ve_var 1)) (vg_t rfl (vgs_cons (vg_n (i := 4) sc_nd rfl (by first | exact Or.inl rfl | exact Or.inr rfl)) (vgs_cons (vg_n (i := 5) sc_nd rfl (by first | exact Or.inl rfl | exact Or.inr rfl)) vgs_nil)))
      (vss_cons (vs_if (vt_bool (vw_or (vt_not (vt_tru (vg_call [false, false] g_is_below (hr.mono (by decide)) tk (va_cons (ve_var 5) (va_cons (ve_len T.fr_len (ve_var 2)) va_nil))))) (vw_or (vt_cmp (op_inA hu) bok_in (ve_var 5) (ve_var 3)) (vw_or1 (vt_not (vt_tru (ve_band (ve_shr (ve_ix hu (ve_var 2) (ve_var 5)) (ve_var 4)) ve_int)))))))
      (vss_one (vs_raise rfl T.x_NoTimetable.t T.x_NoTimetable.g (hr.mono (Nat.le_refl _)) tk (va_cons (ve_var 4) va_nil))) vss_nil)
      (vss_one (vs_expr (ve_sadd (ve_var 3) (va_cons (ve_var 5) va_nil))))))))))
theorem sc_check_tight : FnScope ["book", "timetable", "slots", "fault"] ["book", "timetable", "slots"] (defScope s_check_tight) := ⟨rfl, rfl, rfl, by decide +kernel, rfl, by decide +kernel, by decide +kernel⟩
theorem der_check_tight {f : Addr} {fd : FuncData} (F : FunD K "check_tight" "check_tight" (defArgs s_check_tight) (defBody s_check_tight) (defScope s_check_tight) [] [] f fd) (T : Txt P K mg) (g_check_timetable : FnG P w K mg base "check_timetable" (ga K "check_timetable") 3 ["book", "timetable"] sp_check_timetable [] []) (g_tight_fault : FnG P w K mg base "tight_fault" (ga K "tight_fault") 2 ["book", "timetable", "slots"] sp_tight_fault [] [])
    (len : ∀ as q e, sp_check_tight as q e → as.length = 3) (hpure : ∀ as q e, sp_check_tight as q e → t_check_tight (endsOf (refPos 0 as) q e) (entry 4 as)) : FnOk P w K mg base (L2.CX P w) 4 f fd ["book", "timetable", "slots"] (spOf ⟨mg, K, w⟩ sp_check_tight) := by
  have sc_nd := sc_check_tight.nd
  refine def_ok F sc_check_tight (by decide) len (t := t_check_tight) (fun cdv A outer s H E hr => ?_) hpure
  have hu := hu65 hr
  have tk : Takes (cxOf (L2.CX P w) P w K mg base ["book", "timetable", "slots", "fault"] "check_tight" (defScope s_check_tight) f cdv A outer s H E) (fun cls d _ H' => E cls d H') := takes_of rfl rfl rfl rfl
  have hp : PassesOwn (model P w) _ _ (cxOf (L2.CX P w) P w K mg base ["book", "timetable", "slots", "fault"] "check_tight" (defScope s_check_tight) f cdv A outer s H E).xe := passes_of rfl
  exact (vss_cons (vs_expr (vg_call [false, false] g_check_timetable (hr.mono (by decide)) tk (va_cons (ve_var 0) (va_cons (ve_var 1) va_nil))))
      (vss_cons (vs_set (i := 3) sc_nd rfl (by first | exact Or.inl rfl | exact Or.inr rfl) (vg_call [false, false, false] g_tight_fault (hr.mono (by decide)) tk (va_cons (ve_var 0) (va_cons (ve_var 1) (va_cons (ve_var 2) va_nil)))))
      (vss_one (vs_if (vt_cmp op_notN bok_notN (ve_var 3) ve_non)
      (vss_one (vs_raise rfl T.x_NoCertificate.t T.x_NoCertificate.g (hr.mono (Nat.le_refl _)) tk (va_cons (ve_var 3) va_nil))) vss_nil))))
theorem sc_law_asked : FnScope ["book", "timetable", "slots", "found", "e"] ["book", "timetable", "slots"] (defScope s_law_asked) := ⟨rfl, rfl, rfl, by decide +kernel, rfl, by decide +kernel, by decide +kernel⟩
theorem der_law_asked {f : Addr} {fd : FuncData} (F : FunD K "_law_asked" "_law_asked" (defArgs s_law_asked) (defBody s_law_asked) (defScope s_law_asked) [] [] f fd) (T : Txt P K mg) (g_check_tight : FnG P w K mg base "check_tight" (ga K "check_tight") 4 ["book", "timetable", "slots"] sp_check_tight [] [])
    (len : ∀ as q e, sp_law_asked_k12 as q e → as.length = 3) (hpure : ∀ as q e, sp_law_asked_k12 as q e → t_law_asked_k12 (endsOf (refPos 0 as) q e) (entry 5 as)) : FnOk P w K mg base (L2.CX P w) 5 f fd ["book", "timetable", "slots"] (spOf ⟨mg, K, w⟩ sp_law_asked_k12) := by
  have sc_nd := sc_law_asked.nd
  refine def_ok F sc_law_asked (by decide) len (t := t_law_asked_k12) (fun cdv A outer s H E hr => ?_) hpure
  have hu := hu65 hr
  have tk : Takes (cxOf (L2.CX P w) P w K mg base ["book", "timetable", "slots", "found", "e"] "_law_asked" (defScope s_law_asked) f cdv A outer s H E) (fun cls d _ H' => E cls d H') := takes_of rfl rfl rfl rfl
  have hp : PassesOwn (model P w) _ _ (cxOf (L2.CX P w) P w K mg base ["book", "timetable", "slots", "found", "e"] "_law_asked" (defScope s_law_asked) f cdv A outer s H E).xe := passes_of rfl
  exact (vss_cons (vs_set (i := 3) sc_nd rfl (by first | exact Or.inl rfl | exact Or.inr rfl) ve_str)
      (vss_cons (vs_tryM (known := ["NoTimetable", "NoCertificate"]) rfl rfl sc_nd tk (fun W2 pn xe tk2 hp2 =>
      (vss_one (vs_fz 3 (vs_set (i := 3) sc_nd rfl (by first | exact Or.inl rfl | exact Or.inr rfl) (vg_call [false, false, false] g_check_tight (hr.mono (by decide)) tk2 (va_cons (ve_var 0) (va_cons (ve_var 1) (va_cons (ve_var 2) va_nil))))))))
      (.as (i := 4) ⟨by rfl, by decide, Or.inl T.x_NoCertificate.g⟩ rfl rfl T.kn_law_asked (fun aE oE E dE pnE cn kc mgE zE fE =>
      (vss_one (vs_set (i := 3) sc_nd rfl (by first | exact Or.inl rfl | exact Or.inr rfl) (ve_xf (T.kx_law_asked_index cn E kc.1 kc.2 mgE) zE fE)))) .nil))
      (vss_one (vs_ret (ve_var 3)))))
theorem sc_law_right : FnScope ["well", "slots", "allowed", "timetable", "book", "due", "closed", "bad", "worse", "some", "same", "slot"] ["well"] (defScope s_law_right) := ⟨rfl, rfl, rfl, by decide +kernel, rfl, by decide +kernel, by decide +kernel⟩
theorem der_law_right {f : Addr} {fd : FuncData} (F : FunD K "_law_right" "_law_right" (defArgs s_law_right) (defBody s_law_right) (defScope s_law_right) [] [] f fd) (T : Txt P K mg) (g_law_book : FnG P w K mg base "_law_book" (ga K "_law_book") 2 ["well", "most"] sp_law_book [] []) (g_law_draw : FnG P w K mg base "_law_draw" (ga K "_law_draw") 1 ["well", "many"] sp_law_draw [] []) (g_Book_init : FnI P w K mg base "Book" (ga K "Book") (ma K (ga K "Book") "__init__") 3 ["self", "slots", "allowed"] sp_Book_init) (g_law_open : FnG P w K mg base "_law_open" (ga K "_law_open") 1 ["slots", "allowed", "timetable"] sp_law_open [] []) (g_law_bent : FnG P w K mg base "_law_bent" (ga K "_law_bent") 2 ["well", "some", "slots"] sp_law_bent_k12 [] []) (g_law_due : FnG P w K mg base "_law_due" (ga K "_law_due") 1 ["allowed", "timetable", "slots"] sp_law_due_k12 [] []) (g_law_asked : FnG P w K mg base "_law_asked" (ga K "_law_asked") 5 ["book", "timetable", "slots"] sp_law_asked_k12 [] [])
    (len : ∀ as q e, sp_law_right_k12 as q e → as.length = 1) (hpure : ∀ as q e, sp_law_right_k12 as q e → t_law_right_k12 (endsOf (refPos 0 as) q e) (entry 12 as)) : FnOkR P w K mg base (L2.CX P w) 6 f fd ["well"] (spOf ⟨mg, K, w⟩ sp_law_right_k12) := by
  have sc_nd := sc_law_right.nd
  refine def_okR F sc_law_right (by decide) len (t := t_law_right_k12) (fun cdv A outer s H E hgd hr => ?_) hpure
  have hgd : (cxOf (L2.CX P w) P w K mg base ["well", "slots", "allowed", "timetable", "book", "due", "closed", "bad", "worse", "some", "same", "slot"] "_law_right" (defScope s_law_right) f cdv A outer s H E).A.guards = some [] := hgd
  have hu := hu65 hr
  have tk : Takes (cxOf (L2.CX P w) P w K mg base ["well", "slots", "allowed", "timetable", "book", "due", "closed", "bad", "worse", "some", "same", "slot"] "_law_right" (defScope s_law_right) f cdv A outer s H E) (fun cls d _ H' => E cls d H') := takes_of rfl rfl rfl rfl
  have hp : PassesOwn (model P w) _ _ (cxOf (L2.CX P w) P w K mg base ["well", "slots", "allowed", "timetable", "book", "due", "closed", "bad", "worse", "some", "same", "slot"] "_law_right" (defScope s_law_right) f cdv A outer s H E).xe := passes_of rfl
  exact (vss_cons (vs_asg (vg_call [true, false] g_law_book (hr.mono (by decide)) tk (va_cons (ve_var 0) (va_cons (ve_ix hu (ve_lst (va_cons ve_int (va_cons ve_int (va_cons ve_int (va_cons ve_int va_nil))))) (vg_call [true, false] g_law_draw (hr.mono (by decide)) tk (va_cons (ve_var 0) (va_cons ve_int va_nil)))) va_nil))) (vg_t rfl (vgs_cons (vg_n (i := 1) sc_nd rfl (by first | exact Or.inl rfl | exact Or.inr rfl)) (vgs_cons (vg_n (i := 2) sc_nd rfl (by first | exact Or.inl rfl | exact Or.inr rfl)) (vgs_cons (vg_n (i := 3) sc_nd rfl (by first | exact Or.inl rfl | exact Or.inr rfl)) vgs_nil)))))
      (vss_cons (vs_fz 4 (vs_set (i := 4) sc_nd rfl (by first | exact Or.inl rfl | exact Or.inr rfl) (vg_make [false, false] g_Book_init (hr.mono (by decide)) tk (va_cons (ve_var 1) (va_cons (ve_var 2) va_nil)))))
      (vss_cons (vs_fz 5 (vs_set (i := 5) sc_nd rfl (by first | exact Or.inl rfl | exact Or.inr rfl) (vg_call [false, false, false] g_law_open (hr.mono (by decide)) tk (va_cons (ve_var 1) (va_cons (ve_var 2) (va_cons (ve_var 3) va_nil))))))
      (vss_cons (vs_set (i := 6) sc_nd rfl (by first | exact Or.inl rfl | exact Or.inr rfl) (ve_tuple T.fr_tuple (ve_lc (own := [("slot", 11)]) rfl sc_nd (vi_range1 (by rfl) T.fr_range (ve_var 1)) (blkOk_by (N := ["well", "slots", "allowed", "timetable", "book", "due", "closed", "bad", "worse", "some", "same", "slot"]) (sc := defScope s_law_right) (by decide +kernel)) (by decide) (fun _ _ _ _ _ => (vg_n (i := 11) sc_nd rfl (by first | exact Or.inl rfl | exact Or.inr rfl))) (fun _ _ _ _ _ => (vts_one (vt_cmp (op_notInA hu) bok_notIn (ve_var 11) (ve_var 5)))) (fun _ _ _ _ _ => (ve_var 11)))))
      (vss_cons (vs_fz 7 (vs_set (i := 7) sc_nd rfl (by first | exact Or.inl rfl | exact Or.inr rfl) (vg_call [true, false, false] g_law_bent (hr.mono (by decide)) tk (va_cons (ve_var 0) (va_cons (ve_var 6) (va_cons (ve_var 1) va_nil))))))
      (vss_cons (vs_fz 8 (vs_set (i := 8) sc_nd rfl (by first | exact Or.inl rfl | exact Or.inr rfl) (vg_call [true, false, false] g_law_bent (hr.mono (by decide)) tk (va_cons (ve_var 0) (va_cons (ve_var 7) (va_cons (ve_var 1) va_nil))))))
      (vss_cons (vs_forF [true, true, false, false, false, true, true, true, true, true, true, true] hp rfl (vi_seq (ve_lst (va_cons (ve_var 6) (va_cons (ve_revT (ve_var 6)) (va_cons (ve_tup va_nil) (va_cons (ve_var 7) (va_cons (ve_var 8) (va_cons (ve_var 3) (va_cons (ve_list rfl T.fr_list (ve_var 6)) (va_cons ve_non (va_cons ve_int va_nil))))))))))) (vg_n (i := 9) sc_nd rfl (by first | exact Or.inl rfl | exact Or.inr rfl))
      (vss_cons (vs_set (i := 10) sc_nd rfl (by first | exact Or.inl rfl | exact Or.inr rfl) (ve_repr hgd hu T.fr_repr (ve_var 9)))
      (vss_cons (vs_fz 5 (vs_set (i := 5) sc_nd rfl (by first | exact Or.inl rfl | exact Or.inr rfl) (vg_call [false, false, false] g_law_due (hr.mono (by decide)) tk (va_cons (ve_var 2) (va_cons (ve_var 3) (va_cons (ve_var 9) va_nil))))))
      (vss_one (vs_if (vt_bool (vw_or (vt_cmp (opNe hu) bok_ne (vg_call [false, false, false] g_law_asked (hr.mono (by decide)) tk (va_cons (ve_var 4) (va_cons (ve_var 3) (va_cons (ve_var 9) va_nil)))) (ve_var 5)) (vw_or1 (vt_cmp (opNe hu) bok_ne (ve_repr hgd hu T.fr_repr (ve_var 9)) (ve_var 10)))))
      (vss_one (vs_ret ve_bl)) vss_nil)))))
      (vss_one (vs_ret ve_bl)))))))))
theorem sc_law : FnScope ["script", "k", "cell"] ["script"] (defScope s_law) := ⟨rfl, rfl, rfl, by decide +kernel, rfl, by decide +kernel, by decide +kernel⟩
theorem der_law {f : Addr} {fd : FuncData} (F : FunD K "law" "law" (defArgs s_law) (defBody s_law) (defScope s_law) [] [] f fd) (T : Txt P K mg) (g_law_right : FnGR P w K mg base "_law_right" (ga K "_law_right") 6 ["well"] sp_law_right_k12)
    (len : ∀ as q e, sp_law_k12 as q e → as.length = 1) (hpure : ∀ as q e, sp_law_k12 as q e → t_law_k12 (endsOf (refPos 0 as) q e) (entry 3 as)) : FnOkR P w K mg base (L2.CX P w) 7 f fd ["script"] (spOf ⟨mg, K, w⟩ sp_law_k12) := by
  have sc_nd := sc_law.nd
  refine def_okR F sc_law (by decide) len (t := t_law_k12) (fun cdv A outer s H E hgd hr => ?_) hpure
  have hgd : (cxOf (L2.CX P w) P w K mg base ["script", "k", "cell"] "law" (defScope s_law) f cdv A outer s H E).A.guards = some [] := hgd
  have hu := hu65 hr
  have tk : Takes (cxOf (L2.CX P w) P w K mg base ["script", "k", "cell"] "law" (defScope s_law) f cdv A outer s H E) (fun cls d _ H' => E cls d H') := takes_of rfl rfl rfl rfl
  have hp : PassesOwn (model P w) _ _ (cxOf (L2.CX P w) P w K mg base ["script", "k", "cell"] "law" (defScope s_law) f cdv A outer s H E).xe := passes_of rfl
  exact (vss_cons (vs_forF [true, true, true] hp rfl (vi_enum (by rfl) T.fr_enumerate (ve_sl (ve_add (ve_var 0) (ve_lst (va_cons ve_int va_nil))) vo_none (vo_some ve_int))) (vg_t rfl (vgs_cons (vg_n (i := 1) sc_nd rfl (by first | exact Or.inl rfl | exact Or.inr rfl)) (vgs_cons (vg_n (i := 2) sc_nd rfl (by first | exact Or.inl rfl | exact Or.inr rfl)) vgs_nil)))
      (vss_one (vs_if (vt_not (vt_tru (vg_callNR g_law_right hgd (hr.mono (by decide)) tk (ve_lst (va_cons (ve_mul (ve_var 2) (ve_int1 T.fr_int (ve_cmp op_ge bok_ge (ve_var 2) (ve_pow ve_int ve_int)))) (va_cons (ve_add (ve_mod (ve_var 2) ve_int) (ve_mul ve_int (ve_var 1))) (va_cons ve_int va_nil)))))))
      (vss_one (vs_ret ve_bl)) vss_nil)))
      (vss_one (vs_ret ve_bl)))
end
end Law
/-! the cycles -/
namespace Law
open PySem PySem.Spec PyProof.Rows L2 PV
/-- x -> l, its last one y -/
def Lk (R : Nat → Nat → Prop) : Nat → List Nat → Nat → Prop
  | x, [], y => y = x
  | x, z :: l, y => R x z ∧ Lk R z l y
theorem Lk.pth {R : Nat → Nat → Prop} {y z : Nat} : ∀ {l : List Nat} {x : Nat}, Lk R x l y → R y z → Pth R x l z
  | [], x, h, r => by rw [show y = x from h] at r; exact r
  | u :: l, x, h, r => ⟨h.1, Lk.pth h.2 r⟩
theorem Lk.snoc {R : Nat → Nat → Prop} {y z : Nat} : ∀ {l : List Nat} {x : Nat}, Lk R x l y → R y z → Lk R x (l ++ [z]) z
  | [], x, h, r => ⟨by rw [show y = x from h] at r; exact r, rfl⟩
  | u :: l, x, h, r => ⟨h.1, Lk.snoc h.2 r⟩
theorem Lk.succ {R : Nat → Nat → Prop} {y : Nat} : ∀ {l : List Nat} {x : Nat}, Lk R x l y → ∀ u ∈ x :: l, u = y ∨ ∃ v ∈ l, R u v
  | [], x, h, u, hu => .inl (by rw [show y = x from h]; simpa using hu)
  | z :: l, x, h, u, hu => by
    rcases List.mem_cons.mp hu with rfl | hu
    · exact .inr ⟨z, List.mem_cons_self, h.1⟩
    · rcases Lk.succ h.2 u hu with e | ⟨v, h1, h2⟩
      · exact .inl e
      · exact .inr ⟨v, List.mem_cons_of_mem _ h1, h2⟩
theorem Lk.last {R : Nat → Nat → Prop} {y : Nat} : ∀ {l : List Nat} {x : Nat}, Lk R x l y → y ∈ x :: l
  | [], x, h => by rw [show y = x from h]; simp
  | z :: l, x, h => List.mem_cons_of_mem _ (Lk.last h.2)
theorem Lk.app {R : Nat → Nat → Prop} {y z : Nat} {m : List Nat} : ∀ {l : List Nat} {x : Nat}, Lk R x (l ++ z :: m) y → Pth R x l z ∧ Lk R z m y
  | [], x, h => ⟨h.1, h.2⟩
  | u :: l, x, h => ⟨⟨h.1, (Lk.app h.2).1⟩, (Lk.app h.2).2⟩
section
variable {one other : List Int}
def nxtF (one other : List Int) (a : Nat) : Option Nat := if other.getD a 0 ∈ one then some (one.idxOf (other.getD a 0)) else none
theorem nxtF_some {a b : Nat} (h : nxtF one other a = some b) : b < one.length ∧ Nxt one other a b := by
  unfold nxtF at h
  split at h
  · rename_i c
    cases h
    have hl : one.idxOf (other.getD a 0) < one.length := List.idxOf_lt_length_of_mem c
    refine ⟨hl, ?_⟩
    unfold Nxt
    rw [List.getD_eq_getElem?_getD (l := one), List.getElem?_eq_getElem hl, Option.getD_some, List.getElem_idxOf hl]
  · cases h
theorem nxtF_none {a : Nat} (h : nxtF one other a = none) : other.getD a 0 ∉ one := by
  unfold nxtF at h
  split at h
  · cases h
  · assumption
theorem lk_ends {y : Nat} : ∀ {l : List Nat} {x : Nat}, Lk (Nxt one other) x l y → (∀ b ∈ x :: l, b < one.length) → Ends one other y → ∀ b ∈ x :: l, Ends one other b
  | [], x, h, lt, e, b, hb => by
    have : b = x := by simpa using hb
    rw [this, ← show y = x from h]
    exact e
  | z :: l, x, h, lt, e, b, hb => by
    have ih := lk_ends h.2 (fun b hb => lt b (List.mem_cons_of_mem _ hb)) e
    rcases List.mem_cons.mp hb with rfl | hb
    · exact .step (lt b List.mem_cons_self) (lt z (by simp)) h.1 (ih z List.mem_cons_self)
    · exact ih b hb
structure CI (one other : List Int) (k : Nat) (S : List Nat) (L : List (List Nat)) : Prop where
  nd : S.Nodup
  lt : ∀ x ∈ S, x < one.length
  up : ∀ a, a < k → a ∈ S
  cl : ∀ x ∈ S, ∀ y, y < one.length → Nxt one other x y → y ∈ S
  cy : ∀ c ∈ L, ∃ a u, c = a :: u ∧ Cyc one other a u ∧ a < k
  fl : L.flatten.Nodup
  sub : ∀ x ∈ L.flatten, x ∈ S
  kd : ∀ x ∈ S, x ∈ L.flatten ∨ Ends one other x ∨ other.getD x 0 = one.getD x 0
  ln : L.length = nCycT one other k
/-- while the walk goes on -/
structure WI (one other : List Int) (k : Nat) (S w : List Nat) (o : Option Nat) : Prop where
  nd : (S ++ w).Nodup
  lt : ∀ x ∈ w, x < one.length
  ol : ∀ y, o = some y → y < one.length
  st : (w = [] ∧ o = some k) ∨ ∃ u x, w = k :: u ∧ Lk (Nxt one other) k u x ∧ nxtF one other x = o
theorem WI.start {k : Nat} {S : List Nat} (nd : S.Nodup) (hk : k < one.length) : WI one other k S [] (some k) := ⟨by simpa using nd, by simp, fun y e => by cases e; exact hk, .inl ⟨rfl, rfl⟩⟩
theorem WI.step {k y : Nat} {S w : List Nat} (h : WI one other k S w (some y)) (hy : y ∉ S ++ w) : WI one other k S (w ++ [y]) (nxtF one other y) := by
  refine ⟨?_, fun x hx => ?_, fun z e => (nxtF_some e).1, .inr ?_⟩
  · rw [← List.append_assoc]
    refine List.nodup_append.mpr ⟨h.nd, by simp, fun a ha b hb e => ?_⟩
    have : b = y := by simpa using hb
    rw [e, this] at ha
    exact hy ha
  · rcases List.mem_append.mp hx with hx | hx
    · exact h.lt x hx
    · rw [show x = y by simpa using hx]
      exact h.ol y rfl
  · rcases h.st with ⟨rfl, e⟩ | ⟨u, x, rfl, h1, h2⟩
    · cases e
      exact ⟨[], _, rfl, rfl, rfl⟩
    · exact ⟨u ++ [y], y, rfl, h1.snoc (nxtF_some h2).2, rfl⟩
open Classical in
theorem CI.next {k : Nat} {S w : List Nat} {L : List (List Nat)} {o : Option Nat} (n1 : one.Nodup) (n2 : other.Nodup) (hl : other.length = one.length) (hk : k < one.length) (h : CI one other k S L) (W : WI one other k S w o) (stop : ∀ y, o = some y → y ∈ S ++ w) :
    CI one other (k + 1) (S ++ w) (if o = some k ∧ 1 < w.length then L ++ [w] else L) := by
  have lt' : ∀ x ∈ S ++ w, x < one.length := fun x hx => by
    rcases List.mem_append.mp hx with hx | hx
    · exact h.lt x hx
    · exact W.lt x hx
  rcases W.st with ⟨rfl, rfl⟩ | ⟨u, x, rfl, h1, h2⟩
  · -- k was seen
    have kS : k ∈ S := by simpa using stop k rfl
    have no : ¬ MinCyc one other k := by
      rintro ⟨t, ht, hm⟩
      rcases h.kd k kS with z | z | z
      · obtain ⟨c, hc, hkc⟩ := List.mem_flatten.mp z
        obtain ⟨a, v, rfl, hv, ak⟩ := h.cy c hc
        have := hv.all (X := (· ∈ k :: t)) (fun p q hq r hp => ht.next n1 hp hq r) hkc List.mem_cons_self a List.mem_cons_self
        rcases List.mem_cons.mp this with e | e
        · omega
        · have := hm a e; omega
      · exact z.not_cyc n1 ht List.mem_cons_self
      · exact ht.differs n1 List.mem_cons_self z
    rw [if_neg (by simp), List.append_nil]
    exact ⟨h.nd, h.lt, fun a ha => by
      rcases Nat.lt_or_ge a k with z | z
      · exact h.up a z
      · rw [show a = k by omega]; exact kS, h.cl, fun c hc => by
      obtain ⟨a, v, e, hv, ak⟩ := h.cy c hc
      exact ⟨a, v, e, hv, by omega⟩, h.fl, h.sub, h.kd, by rw [h.ln, nCycT_no no]⟩
  · have kS : k ∉ S := fun z => (List.nodup_append.mp W.nd).2.2 k z k List.mem_cons_self rfl
    have xw : x ∈ k :: u := h1.last
    have xl := W.lt x xw
    have xS : x ∉ S := fun z => (List.nodup_append.mp W.nd).2.2 x z x xw rfl
    have wn : (k :: u).Nodup := (List.nodup_append.mp W.nd).2.1
    have up' : ∀ a, a < k + 1 → a ∈ S ++ k :: u := fun a ha => by
      rcases Nat.lt_or_ge a k with z | z
      · exact List.mem_append_left _ (h.up a z)
      · rw [show a = k by omega]; simp
    have cl' : ∀ p ∈ S ++ k :: u, ∀ q, q < one.length → Nxt one other p q → q ∈ S ++ k :: u := fun p hp q hq r => by
      rcases List.mem_append.mp hp with hp | hp
      · exact List.mem_append_left _ (h.cl p hp q hq r)
      · rcases h1.succ p hp with e | ⟨v, hv, r2⟩
        · rw [e] at r
          cases e2 : nxtF one other x with
          | none => exact absurd ((show other.getD x 0 = one.getD q 0 from r) ▸ getD_mem hq) (nxtF_none e2)
          | some y =>
            have ⟨y1, y2⟩ := nxtF_some e2
            rw [nxt_inj n1 hq y1 r y2]
            exact stop y (by rw [← h2, e2])
        · rw [nxt_inj n1 hq (W.lt v (List.mem_cons_of_mem _ hv)) r r2]
          simp [hv]
    -- the kinds of the walk
    have kinds : (o = some k ∧ u ≠ [] ∧ Cyc one other k u) ∨ (o = some k ∧ u = [] ∧ other.getD k 0 = one.getD k 0) ∨ (o ≠ some k ∧ ∀ b ∈ k :: u, Ends one other b) := by
      cases e : o with
      | none =>
        refine .inr (.inr ⟨nofun, lk_ends h1 W.lt (.free xl (nxtF_none (by rw [h2, e])))⟩)
      | some y =>
        have ⟨y1, y2⟩ := nxtF_some (h2.trans e)
        by_cases yk : y = k
        · subst yk
          by_cases c : u = []
          · subst c
            have : x = y := h1
            rw [this] at y2
            exact .inr (.inl ⟨rfl, rfl, y2⟩)
          · exact .inl ⟨rfl, c, c, wn, W.lt, h1.pth y2⟩
        · have yE : Ends one other y := by
            rcases List.mem_append.mp (stop y e) with z | z
            · rcases h.kd y z with z2 | z2 | z2
              · obtain ⟨c, hc, hyc⟩ := List.mem_flatten.mp z2
                obtain ⟨a, v, rfl, hv, ak⟩ := h.cy c hc
                have := hv.prev n2 hl hyc xl y2
                exact absurd (h.sub x (List.mem_flatten.mpr ⟨_, hc, this⟩)) xS
              · exact z2
              · have : x = y := getD_inj n2 (by omega) (by omega) ((show other.getD x 0 = one.getD y 0 from y2).trans z2.symm)
                rw [this] at xS
                exact absurd z xS
            · have yu : y ∈ u := by
                rcases List.mem_cons.mp z with z | z
                · exact absurd z yk
                · exact z
              obtain ⟨l, m, rfl⟩ := List.append_of_mem yu
              obtain ⟨p1, p2⟩ := h1.app
              obtain ⟨p, hp, r⟩ := p1.pred y (.inr rfl)
              have pl : p < one.length := W.lt p (by
                rcases List.mem_cons.mp hp with z | z <;> simp [z])
              have : p = x := getD_inj n2 (by omega) (by omega) ((show other.getD p 0 = one.getD y 0 from r).trans (show other.getD x 0 = one.getD y 0 from y2).symm)
              have xm := p2.last
              rw [← this] at xm
              have e3 : k :: (l ++ y :: m) = (k :: l) ++ (y :: m) := rfl
              rw [e3] at wn
              exact absurd rfl ((List.nodup_append.mp wn).2.2 p hp p xm)
          exact .inr (.inr ⟨fun z => yk (by cases z; rfl), lk_ends h1 W.lt (.step xl y1 y2 yE)⟩)
    rcases kinds with ⟨e, hu, hc⟩ | ⟨e, hu, hc⟩ | ⟨e, hc⟩
    · rw [if_pos ⟨e, by cases u with
        | nil => exact absurd rfl hu
        | cons => simp⟩]
      have mc : MinCyc one other k := ⟨u, hc, fun b hb => by
        have bS : b ∉ S := fun z => (List.nodup_append.mp W.nd).2.2 b z b (List.mem_cons_of_mem _ hb) rfl
        have : ¬ b < k := fun z => bS (h.up b z)
        have : b ≠ k := fun z => (List.nodup_cons.mp wn).1 (z ▸ hb)
        omega⟩
      have fe : (L ++ [k :: u]).flatten = L.flatten ++ (k :: u) := by simp
      refine ⟨W.nd, lt', up', cl', fun c hc2 => ?_, ?_, fun p hp => ?_, fun p hp => ?_, by rw [List.length_append, h.ln, nCycT_yes mc]; rfl⟩
      · rcases List.mem_append.mp hc2 with z | z
        · obtain ⟨a, v, e, hv, ak⟩ := h.cy c z
          exact ⟨a, v, e, hv, by omega⟩
        · exact ⟨k, u, by simpa using z, hc, by omega⟩
      · rw [fe]
        exact List.nodup_append.mpr ⟨h.fl, wn, fun a ha b hb => (List.nodup_append.mp W.nd).2.2 a (h.sub a ha) b hb⟩
      · rw [fe] at hp
        rcases List.mem_append.mp hp with z | z
        · exact List.mem_append_left _ (h.sub p z)
        · exact List.mem_append_right _ z
      · rw [fe]
        rcases List.mem_append.mp hp with z | z
        · rcases h.kd p z with y | y
          · exact .inl (List.mem_append_left _ y)
          · exact .inr y
        · exact .inl (List.mem_append_right _ z)
    · subst hu
      rw [if_neg (by simp)]
      have no : ¬ MinCyc one other k := fun ⟨t, ht, _⟩ => ht.differs n1 List.mem_cons_self hc
      refine ⟨W.nd, lt', up', cl', fun c hc2 => ?_, h.fl, fun p hp => List.mem_append_left _ (h.sub p hp), fun p hp => ?_, by rw [h.ln, nCycT_no no]⟩
      · obtain ⟨a, v, e, hv, ak⟩ := h.cy c hc2
        exact ⟨a, v, e, hv, by omega⟩
      · rcases List.mem_append.mp hp with z | z
        · exact h.kd p z
        · rw [show p = k by simpa using z]; exact .inr (.inr hc)
    · rw [if_neg (fun z => e z.1)]
      have no : ¬ MinCyc one other k := fun ⟨t, ht, _⟩ => (hc k List.mem_cons_self).not_cyc n1 ht List.mem_cons_self
      refine ⟨W.nd, lt', up', cl', fun c hc2 => ?_, h.fl, fun p hp => List.mem_append_left _ (h.sub p hp), fun p hp => ?_, by rw [h.ln, nCycT_no no]⟩
      · obtain ⟨a, v, e, hv, ak⟩ := h.cy c hc2
        exact ⟨a, v, e, hv, by omega⟩
      · rcases List.mem_append.mp hp with z | z
        · exact h.kd p z
        · exact .inr (.inl (hc p z))
end
end Law
namespace PV
open PySem PySem.Spec PyProof.Rows L2
end PV
namespace Law
open PySem PySem.Spec PyProof.Rows L2 PV
/-! ### data that are equal to themselves -/
inductive Pn : Nat → D → Prop
  | non (k : Nat) : Pn k .non
  | bl (k : Nat) (b : Bool) : Pn k (.bl b)
  | int (k : Nat) (i : Int) : Pn k (.int i)
  | str (k : Nat) {s : Str} (h : PyData.strOk s = true) : Pn k (.str s)
  | lst {k : Nat} {ds : List D} : (∀ d ∈ ds, Pn k d) → Pn (k + 1) (.lst ds)
  | tup {k : Nat} {ds : List D} : (∀ d ∈ ds, Pn k d) → Pn (k + 1) (.tup ds)
theorem pys_all {k : Nat} (ih : ∀ d, Pn k d → d.py.canLay0 = true ∧ d.py.depth ≤ k ∧ PyData.eqv d.py d.py = true) : ∀ ds : List D, (∀ d ∈ ds, Pn k d) → PyData.canLayAll0 (D.pys ds) = true ∧ PyData.depthAll (D.pys ds) ≤ k ∧ PyData.eqvAll (D.pys ds) (D.pys ds) = true
  | [], _ => by simp [D.pys, PyData.canLayAll0, PyData.depthAll, PyData.eqvAll]
  | d :: ds, h => by
    obtain ⟨h1, h2, h3⟩ := ih d (h d List.mem_cons_self)
    obtain ⟨k1, k2, k3⟩ := pys_all ih ds fun x hx => h x (List.mem_cons_of_mem _ hx)
    rw [D.pys]
    simp only [PyData.canLayAll0, PyData.depthAll, PyData.eqvAll, h1, h3, k1, k3, Bool.and_self, true_and, and_true]
    omega
theorem Pn.lay : ∀ (k : Nat) (d : D), Pn k d → d.py.canLay0 = true ∧ d.py.depth ≤ k ∧ PyData.eqv d.py d.py = true := by
  intro k
  induction k with
  | zero =>
    intro d h
    cases h with
    | str _ hs => simp [D.py, PyData.canLay0, PyData.depth, PyData.eqv, hs]
    | _ => simp [D.py, PyData.canLay0, PyData.depth, PyData.eqv]
  | succ k ih =>
    intro d h
    cases h with
    | lst h =>
      obtain ⟨h1, h2, h3⟩ := pys_all ih _ h
      simp only [D.py, PyData.canLay0, PyData.depth, PyData.eqv, h1, h3, true_and, and_true]
      omega
    | tup h =>
      obtain ⟨h1, h2, h3⟩ := pys_all ih _ h
      simp only [D.py, PyData.canLay0, PyData.depth, PyData.eqv, h1, h3, true_and, and_true]
      omega
    | str _ hs => simp [D.py, PyData.canLay0, PyData.depth, PyData.eqv, hs]
    | _ => simp [D.py, PyData.canLay0, PyData.depth, PyData.eqv]
theorem Pn.ok {k : Nat} {d : D} (h : Pn k d) (hk : k ≤ 64) : d.ok := by
  obtain ⟨h1, h2, _⟩ := Pn.lay k d h
  show SeqAt.shaped d.py = true
  unfold SeqAt.shaped
  rw [h1, Bool.true_and, decide_eq_true_eq]
  omega
theorem nePn {k : Nat} {d : D} {q : R → Prop} (h : Pn k d) (hk : k ≤ 64) : fNe d d q = q (.dat (.bl false)) := by
  have e : fNe d d q = (d.ok ∧ d.ok ∧ q (.dat (.bl (!d.eqv d)))) := rfl
  have e2 : d.eqv d = true := (Pn.lay k d h).2.2
  rw [e, e2]
  exact propext ⟨fun z => z.2.2, fun z => ⟨h.ok hk, h.ok hk, z⟩⟩
theorem pn_ints {k : Nat} (l : List Int) : Pn (k + 1) (.lst (l.map D.int)) := .lst fun d hd => by
  obtain ⟨x, _, rfl⟩ := List.mem_map.mp hd
  exact .int _ x
theorem pn_tt {k : Nat} (l : List Int) : Pn (k + 1) (ttD l) := .tup fun d hd => by
  obtain ⟨x, _, rfl⟩ := List.mem_map.mp hd
  exact .int _ x
theorem pn_tuD {k : Nat} (l : List Int) : Pn (k + 1) (tuD l) := pn_tt l
theorem pn_tus {k : Nat} (L : List (List Int)) : Pn (k + 2) (.lst (L.map tuD)) := .lst fun d hd => by
  obtain ⟨x, _, rfl⟩ := List.mem_map.mp hd
  exact pn_tuD x
theorem pn_mvs {k : Nat} (l : List (Nat × Int)) : Pn (k + 2) (.lst (l.map mvD)) := .lst fun d hd => by
  obtain ⟨x, _, rfl⟩ := List.mem_map.mp hd
  exact .tup fun d hd => by
    simp at hd
    rcases hd with rfl | rfl
    · exact .int _ _
    · exact .int _ _
theorem Ans.pn {n : Int} {rows : List (List Int)} {tt : List Int} {way one : Int} {row : List Int} {A : D} (h : Ans n rows tt way one row A) : Pn 4 A := by
  unfold Ans at h
  split at h
  · subst h
    unfold insD
    split
    · exact .tup fun d hd => by
        simp at hd
        rcases hd with rfl | rfl | rfl
        · exact .str _ (by decide +kernel)
        · exact pn_mvs _
        · exact .int _ _
    · exact .tup fun d hd => by
        simp at hd
        rcases hd with rfl | rfl
        · exact .str _ (by decide +kernel)
        · exact pn_tt _
  · split at h
    · obtain ⟨L, _, rfl⟩ := h
      exact .tup fun d hd => by
        simp at hd
        rcases hd with rfl | rfl
        · exact pn_tus L
        · exact .tup fun d hd => by
            simp at hd
            rcases hd with rfl | rfl
            · exact pn_tt _
            · exact pn_tus L
    · subst h
      exact .tup fun d hd => by
        simp at hd
        rcases hd with rfl | rfl
        · exact pn_ints _
        · exact .lst fun d hd => by
            obtain ⟨x, _, rfl⟩ := List.mem_map.mp hd
            exact pn_mvs _
theorem Ans.uniq {n : Int} {rows : List (List Int)} {tt : List Int} {way one : Int} {row : List Int} {A B : D} (h : Ans n rows tt way one row A) (k : Ans n rows tt way one row B) : A = B := by
  unfold Ans at h k
  split at h
  · rename_i c
    rw [if_pos c] at k
    rw [h, k]
  · rename_i c
    rw [if_neg c] at k
    split at h
    · rename_i c2
      rw [if_pos c2] at k
      obtain ⟨L, h1, rfl⟩ := h
      obtain ⟨M, k1, rfl⟩ := k
      rw [h1.uniq k1]
    · rename_i c2
      rw [if_neg c2] at k
      rw [h, k]
abbrev two (rows Os : List (List Int)) (k : Nat) : List (List Int) := [rows, Os].getD k []
end Law
namespace Law
open PySem PySem.Spec PyProof.Rows L2 PV
/-! ## insert: no list of moves is shorter -/
theorem neS {x : Str} {q : R → Prop} (h : PyData.strOk x = true) : fNe (.str x) (.str x) q = q (.dat (.bl false)) := nePn (k := 0) (.str _ h) (by omega)
end Law
namespace Law
open PySem PySem.Spec PyProof.Rows L2 PV
theorem row_le {n : Int} {row : List Int} (rk : RowOk n row) (n6 : n ≤ 60) : row.length ≤ 60 := by
  have nd : row.Nodup := rk.up.imp fun {a b} h e => by omega
  have := List.Nodup.length_le_of_subset nd (l₂ := irange n) fun s hs => mem_irange.mpr ⟨rk.lo s hs, rk.hi s hs⟩
  rw [irange_len] at this
  omega
theorem Pn.up {k : Nat} {d : D} (h : Pn k d) : ∀ {m : Nat}, k ≤ m → Pn m d := by
  induction h with
  | non k => exact fun _ => .non _
  | bl k b => exact fun _ => .bl _ b
  | int k i => exact fun _ => .int _ i
  | str k h => exact fun _ => .str _ h
  | lst h ih => intro m hm; obtain ⟨m, rfl⟩ : ∃ j, m = j + 1 := ⟨m - 1, by omega⟩; exact .lst fun d hd => ih d hd (by omega)
  | tup h ih => intro m hm; obtain ⟨m, rfl⟩ : ∃ j, m = j + 1 := ⟨m - 1, by omega⟩; exact .tup fun d hd => ih d hd (by omega)
end Law
namespace Law
open PySem PySem.Spec PyProof.Rows L2 PV
/-- for k, cell in enumerate((script + [0])[:m]): a law's turns -/
theorem law_cells {sp : PSp} (hsp : ∀ a b c q e, (∀ a' c' : Int, q (.dat (.bl true)) [wellD a' b c']) → sp [.ref (wellD a b c)] q e) {m : Nat} (hm : m ≤ 60) {E : PEnds} {N : Rho → Prop} {ns : List Int} (hl : ns.length ≤ 63) (k : N [.any, .any, .any]) :
    zForF [true, true, true] (iEn (ySl (yB fAdd (yVar 0) (yLst (yCons (yC (.int 0)) yNil))) yNoPart (yPart (yC (.int (m : Int)))))) (gT 2 (gsCons (gN 1) (gsCons (gN 2) gsNil)))
    (zIf (yNot (yTru (yCallN sp (yLst (yCons (yB fMul (yVar 2) (yF fInt1 (yCons (yB fGe (yVar 2) (yB fPow (yC (.int 10)) (yC (.int 18)))) yNil))) (yCons (yB fAdd (yB fMod (yVar 2) (yC (.int 2147483647))) (yB fMul (yC (.int 7919)) (yVar 1))) (yCons (yC (.int 0)) yNil)))))))
    (zRet (yC (.bl false))) zNext) { E with nx := N } [.frz (.lst (ns.map D.int)), .any, .any] := by
  have sz := sizeLine_eq
  have z1 : ns.length + 1 ≤ 16777216 := by omega
  have e0 : List.map D.int ns ++ [D.int 0] = (ns ++ [0]).map D.int := by simp
  simp [zIf, yT, yB, yVar, yC, yU, yNot, yAnd, yOr, yAndV, yOrV, yNotV, yTru, yIf, yCh, yF, yNil, yCons, yLst, yTup, yDNew, conts, fixs, cont, hold, asB, fGt, fLt, fLe, fGe, fEq, fNe, fI0, fI, fIn, fIsN, fNotN, zSet, zRet, zRetN, zPut, zDrop, zAsg, zAug, zAugS, getA, getL, asgn, give, fix, fMod, fFdiv, fAdd, fAddI, fSub, fMul, fNeg, fPow, fShl, fShr, fAnd, fOr, fXor, setAt, mutAt, Sl.put, zNext, isRef_eq, rfa, rff, rfo, fLen, fList, fTuple, fMax2, fMin2, fInt1, fSet0, fRev, fSl, ySl, yPart, yNoPart, yMt, yMs, mAppend, mPopAt, mSAdd, isLst, isSet, yRm, isTup, fIndexT, iSq, iEn, iR1, itemsD, gN, gT, gsCons, gsNil, zFor, zBreak, zCont, zRaise, yCall, yCall0, yMake, yCallN, fixM, agsOf, PV.putAll, put1, noRefs, anyP, yYes, fIsi, tyN, isiT, truD, fBits, endsOf, refPos, refsAt, notLoc, okI, okB, okN, eqvI, zForF, fgM, fgS, yTDisp, fStep, zAsg2, zFz, fz, sizeLine_eq, sb, -List.getD_eq_getElem?_getD, -List.filter_eq_nil_iff, z1, -List.map_append]
  rw [e0, map_cut]
  refine forF_inv (fun j ρ => ρ = [.any, .any, .any]) rfl ?_ ?_
  · rintro j x ρ hx rfl M hM
    obtain ⟨y, hy, rfl⟩ := get_enumM hx
    have hj : j < m := by
      have := (List.getElem?_eq_some_iff.mp hy).1
      rw [List.length_take] at this
      omega
    have p1 : CPow 10 18 := ⟨by decide, by decide, by decide⟩
    have m1 : CMul y 1 := .inr ⟨by decide, by decide⟩
    have m0 : CMul y 0 := .inr ⟨by decide, by decide⟩
    have m2 : CMul 7919 (j : Int) := .inl ⟨by decide, by decide⟩
    have m3 : CMul y (if (1000000000000000000 : Int) ≤ y then 1 else 0) := by split <;> assumption
    simp [zIf, yT, yB, yVar, yC, yU, yNot, yAnd, yOr, yAndV, yOrV, yNotV, yTru, yIf, yCh, yF, yNil, yCons, yLst, yTup, yDNew, conts, fixs, cont, hold, asB, fGt, fLt, fLe, fGe, fEq, fNe, fI0, fI, fIn, fIsN, fNotN, zSet, zRet, zRetN, zPut, zDrop, zAsg, zAug, zAugS, getA, getL, asgn, give, fix, fMod, fFdiv, fAdd, fAddI, fSub, fMul, fNeg, fPow, fShl, fShr, fAnd, fOr, fXor, setAt, mutAt, Sl.put, zNext, isRef_eq, rfa, rff, rfo, fLen, fList, fTuple, fMax2, fMin2, fInt1, fSet0, fRev, fSl, ySl, yPart, yNoPart, yMt, yMs, mAppend, mPopAt, mSAdd, isLst, isSet, yRm, isTup, fIndexT, iSq, iEn, iR1, itemsD, gN, gT, gsCons, gsNil, zFor, zBreak, zCont, zRaise, yCall, yCall0, yMake, yCallN, fixM, agsOf, PV.putAll, put1, noRefs, anyP, yYes, fIsi, tyN, isiT, truD, fBits, endsOf, refPos, refsAt, notLoc, okI, okB, okN, eqvI, zForF, fgM, fgS, yTDisp, fStep, zAsg2, zFz, fz, sizeLine_eq, sb, -List.getD_eq_getElem?_getD, -List.filter_eq_nil_iff, p1, m1, m0, m2, m3]
    refine hsp _ _ _ _ _ fun a c => ?_
    simp [zIf, yT, yB, yVar, yC, yU, yNot, yAnd, yOr, yAndV, yOrV, yNotV, yTru, yIf, yCh, yF, yNil, yCons, yLst, yTup, yDNew, conts, fixs, cont, hold, asB, fGt, fLt, fLe, fGe, fEq, fNe, fI0, fI, fIn, fIsN, fNotN, zSet, zRet, zRetN, zPut, zDrop, zAsg, zAug, zAugS, getA, getL, asgn, give, fix, fMod, fFdiv, fAdd, fAddI, fSub, fMul, fNeg, fPow, fShl, fShr, fAnd, fOr, fXor, setAt, mutAt, Sl.put, zNext, isRef_eq, rfa, rff, rfo, fLen, fList, fTuple, fMax2, fMin2, fInt1, fSet0, fRev, fSl, ySl, yPart, yNoPart, yMt, yMs, mAppend, mPopAt, mSAdd, isLst, isSet, yRm, isTup, fIndexT, iSq, iEn, iR1, itemsD, gN, gT, gsCons, gsNil, zFor, zBreak, zCont, zRaise, yCall, yCall0, yMake, yCallN, fixM, agsOf, PV.putAll, put1, noRefs, anyP, yYes, fIsi, tyN, isiT, truD, fBits, endsOf, refPos, refsAt, notLoc, okI, okB, okN, eqvI, zForF, fgM, fgS, yTDisp, fStep, zAsg2, zFz, fz, sizeLine_eq, sb, -List.getD_eq_getElem?_getD, -List.filter_eq_nil_iff]
    exact hM _ rfl
  · rintro ρ rfl
    exact k
end Law
namespace Law
open PySem PySem.Spec PyProof.Rows L2 PV
theorem inTD {neg : Bool} {s : Int} {T : List Int} {q : R → Prop} : fIn neg (.int s) (ttD T) q = q (.dat (.bl (if neg then !decide (s ∈ T) else decide (s ∈ T)))) := by
  cases neg
  · exact inT (neg := false)
  · exact inT (neg := true)
end Law
/-! the cycles: the program -/
/-! the chains -/
namespace Law
open PySem PySem.Spec PyProof.Rows L2 PV
section
variable {n : Int} {rows : List (List Int)} {one other : List Int}
/-- the chains so far: the free slots that are done, the moves, the timetable after them, the slot that waits -/
structure ChI (n : Int) (rows : List (List Int)) (one other : List Int) (P : List Int) (l : List (Nat × Int)) (t : List Int) (g : Option Int) : Prop where
  mv : Mv n rows one l t
  nd : (l.map (·.1)).Nodup
  df : ∀ a ∈ l.map (·.1), a ∈ diffL one other
  en : ∀ a ∈ l.map (·.1), Ends one other a
  yes : ∀ a ∈ l.map (·.1), t.getD a 0 = other.getD a 0
  src : ∀ a ∈ l.map (·.1), other.getD a 0 ∈ P ∨ ∃ b ∈ l.map (·.1), other.getD a 0 = one.getD b 0
  pf : ∀ s ∈ P, s ∉ one
  cl : ∀ a ∈ diffL one other, (other.getD a 0 ∈ P ∨ ∃ b ∈ l.map (·.1), other.getD a 0 = one.getD b 0) → a ∈ l.map (·.1) ∨ g = some (other.getD a 0)
  gf : ∀ s, g = some s → s ∉ t ∧ (s ∈ P ∨ ∃ b ∈ l.map (·.1), s = one.getD b 0)
theorem ChI.start : ChI n rows one other [] [] one none := ⟨.nil, by simp, by simp, by simp, by simp, by simp, by simp, fun a _ h => by simp at h, fun s e => by cases e⟩
theorem ChI.go (ok : BookOk n rows) (tk : TtOk n rows one) (to : TtOk n rows other) {P : List Int} {l : List (Nat × Int)} {t : List Int} {a : Nat} (h : ChI n rows one other P l t (some (other.getD a 0))) (ha : a ∈ diffL one other) : ∃ t', ChI n rows one other P (l ++ [(a, other.getD a 0)]) t' (some (one.getD a 0)) := by
  obtain ⟨la, hd⟩ := mem_diffL.mp ha
  have la' : a < rows.length := by rw [← tk.len]; exact la
  obtain ⟨hf, hg⟩ := h.gf _ rfl
  have tkt := h.mv.ok tk
  have na : a ∉ l.map (·.1) := fun z => hf (by rw [← h.yes a z]; exact getD_mem (by rw [tkt.len]; exact la'))
  have hin := to.at la'
  have rg := row_of ok hin
  have mv : Move n rows t a (other.getD a 0) := ⟨la', hin, rg.1, rg.2, hf⟩
  have lt : a < t.length := by rw [tkt.len]; exact la'
  have em : (l ++ [(a, other.getD a 0)]).map (·.1) = l.map (·.1) ++ [a] := by simp
  refine ⟨t.set a (other.getD a 0), h.mv.snoc mv, ?_, fun x hx => ?_, fun x hx => ?_, fun x hx => ?_, fun x hx => ?_, h.pf, fun x hx hy => ?_, fun x e => ?_⟩
  · rw [em]
    exact List.nodup_append.mpr ⟨h.nd, by simp, fun x hx y hy e => na (by rw [← show y = a by simpa using hy, ← e]; exact hx)⟩
  · rw [em] at hx
    rcases List.mem_append.mp hx with z | z
    · exact h.df x z
    · rw [show x = a by simpa using z]; exact ha
  · rw [em] at hx
    rcases List.mem_append.mp hx with z | z
    · exact h.en x z
    · rw [show x = a by simpa using z]
      rcases hg with y | ⟨b, hb, y⟩
      · exact .free la (h.pf _ y)
      · exact .step la (mem_diffL.mp (h.df b hb)).1 y (h.en b hb)
  · rw [set_getD]
    by_cases c : a = x
    · rw [if_pos ⟨c, lt⟩, c]
    · rw [if_neg fun z => c z.1]
      rw [em] at hx
      rcases List.mem_append.mp hx with z | z
      · exact h.yes x z
      · exact absurd (show x = a by simpa using z).symm c
  · rw [em] at hx ⊢
    rcases List.mem_append.mp hx with z | z
    · rcases h.src x z with y | ⟨b, hb, y⟩
      · exact .inl y
      · exact .inr ⟨b, List.mem_append_left _ hb, y⟩
    · rw [show x = a by simpa using z]
      rcases hg with y | ⟨b, hb, y⟩
      · exact .inl y
      · exact .inr ⟨b, List.mem_append_left _ hb, y⟩
  · rw [em] at hy ⊢
    have old : (other.getD x 0 ∈ P ∨ ∃ b ∈ l.map (·.1), other.getD x 0 = one.getD b 0) → x ∈ l.map (·.1) ++ [a] := fun hy => by
      rcases h.cl x hx hy with y | y
      · exact List.mem_append_left _ y
      · have e : other.getD a 0 = other.getD x 0 := Option.some.inj y
        have lx := (mem_diffL.mp hx).1
        have hol := to.len
        have hon := tk.len
        rw [getD_inj to.nd (by omega) (by omega) e]
        simp
    rcases hy with y | ⟨b, hb, y⟩
    · exact .inl (old (.inl y))
    · rcases List.mem_append.mp hb with z | z
      · exact .inl (old (.inr ⟨b, z, y⟩))
      · rw [show b = a by simpa using z] at y
        exact .inr (by rw [y])
  · cases e
    refine ⟨?_, .inr ⟨a, by rw [em]; simp, rfl⟩⟩
    rw [← h.mv.stayD na]
    exact not_in_set tkt.nd lt hf
theorem ChI.len (tk : TtOk n rows one) (ok : BookOk n rows) {P : List Int} {l : List (Nat × Int)} {t : List Int} {g : Option Int} (h : ChI n rows one other P l t g) : l.length ≤ 60 := by
  have := List.Nodup.length_le_of_subset h.nd (l₂ := List.range one.length) fun a ha => List.mem_range.mpr (mem_diffL.mp (h.df a ha)).1
  simp at this
  have := tk.len
  have := ok.len
  omega
end
end Law
/-! a cycle's moves -/
/-! a cycle's moves: the program -/
/-! plan -/
namespace Law
open PySem PySem.Spec PyProof.Rows L2 PV
section
variable {n : Int} {rows : List (List Int)} {one other tt : List Int}
theorem setAll_app {c d : List Nat} : setAll tt other (c ++ d) = setAll (setAll tt other c) other d := by unfold setAll; rw [List.foldl_append]
/-- the plan behind j cycles -/
structure PlI (n : Int) (rows : List (List Int)) (one other : List Int) (l0 : List (Nat × Int)) (t0 : List Int) (L : List (List Nat)) (j : Nat) (l : List (Nat × Int)) (t : List Int) : Prop where
  mv : Mv n rows one l t
  te : t = setAll t0 other (L.take j).flatten
  lo : l0.length + (L.take j).flatten.length + j ≤ l.length
  hi : l.length ≤ l0.length + (L.take j).flatten.length + j * (2 * n.toNat + 1)
theorem PlI.next {l0 : List (Nat × Int)} {t0 : List Int} {L : List (List Nat)} {j : Nat} {l : List (Nat × Int)} {t : List Int} {a : Nat} {u : List Nat} (h : PlI n rows one other l0 t0 L j l t) (e : L[j]? = some (a :: u)) {m : List (Nat × Int)} (mv : Mv n rows t m (setAll t other (a :: u))) (h1 : u.length + 2 ≤ m.length) (h2 : m.length ≤ u.length + 1 + (2 * n.toNat + 1)) :
    PlI n rows one other l0 t0 L (j + 1) (l ++ m) (setAll t other (a :: u)) := by
  have et : (L.take (j + 1)).flatten = (L.take j).flatten ++ (a :: u) := by rw [List.take_add_one, e]; simp
  have := h.lo
  have := h.hi
  refine ⟨h.mv.append mv, by rw [et, setAll_app, ← h.te], ?_, ?_⟩
  · rw [et, List.length_append, List.length_append, List.length_cons]; omega
  · rw [et, List.length_append, List.length_append, List.length_cons, Nat.add_mul, Nat.one_mul]; omega
end
end Law
/-! least, check_plan -/
/-! check_plan -/
/-! k12: check_tight asked -/
namespace Law
open PySem PySem.Spec PyProof.Rows L2 PV
theorem itm_plain {d : D} (h : Itm d) : plain d := by
  rcases h with ⟨i, rfl, _⟩ | ⟨b, rfl⟩ | rfl | rfl | rfl
  · exact ⟨_, rfl⟩
  · exact ⟨_, rfl⟩
  · exact ⟨_, rfl⟩
  · exact ⟨_, rfl⟩
  · exact ⟨_, rfl⟩
theorem askd_plain {d : D} (h : Askd d) : plainT d := by
  rcases h with ⟨ds, rfl, _, hi⟩ | ⟨l, rfl, _⟩ | rfl | rfl
  · exact ⟨⟨_, rfl⟩, fun es e x hx => by cases e; exact itm_plain (hi x hx)⟩
  · exact ⟨⟨_, rfl⟩, fun es e => by cases e⟩
  · exact ⟨⟨_, rfl⟩, fun es e => by cases e⟩
  · exact ⟨⟨_, rfl⟩, fun es e => by cases e⟩
theorem askd_len {d : D} (h : Askd d) : ∀ ds, d = .tup ds → ds.length < 1000 := by
  rintro ds rfl
  rcases h with ⟨es, e, hl, _⟩ | ⟨l, e, _⟩ | e | e
  · cases e
    omega
  · cases e
  · cases e
  · cases e
theorem pure_law_asked_k12 : ∀ as q e, sp_law_asked_k12 as q e → t_law_asked_k12 (endsOf (refPos 0 as) q e) (entry 5 as) := by
  rintro as q e ⟨n, rows, tt, d, rfl, ok, tk, ha, k⟩
  show t_law_asked_k12 _ [.frz (bookOf n rows), .frz (ttD tt), .frz d, .any, .any]
  refine seq_c fun N1 hN1 => ?_
  simp [zIf, yT, yB, yVar, yC, yU, yNot, yAnd, yOr, yAndV, yOrV, yNotV, yTru, yIf, yCh, yF, yNil, yCons, yLst, yTup, yDNew, conts, fixs, cont, hold, asB, fGt, fLt, fLe, fGe, fEq, fNe, fI0, fI, fIn, fIsN, fNotN, zSet, zRet, zRetN, zPut, zDrop, zAsg, zAug, zAugS, getA, getL, asgn, give, fix, fMod, fFdiv, fAdd, fAddI, fSub, fMul, fNeg, fPow, fShl, fShr, fAnd, fOr, fXor, setAt, mutAt, Sl.put, zNext, isRef_eq, rfa, rff, rfo, fLen, fList, fTuple, fMax2, fMin2, fInt1, fSet0, fRev, fSl, ySl, yPart, yNoPart, yMt, yMs, mAppend, mPopAt, mSAdd, isLst, isSet, yRm, isTup, fIndexT, iSq, iEn, iR1, itemsD, gN, gT, gsCons, gsNil, zFor, zBreak, zCont, zRaise, yCall, yCall0, yMake, yCallN, fixM, agsOf, PV.putAll, put1, noRefs, anyP, yYes, fIsi, tyN, isiT, truD, fBits, endsOf, refPos, refsAt, notLoc, okI, okB, okN, eqvI, zForF, fgM, fgS, yTDisp, fStep, zAsg2, zFz, fz, sizeLine_eq, sb, -List.getD_eq_getElem?_getD, -List.filter_eq_nil_iff]
  refine hN1 _ ?_
  clear hN1 N1
  have f1 : fld "NoCertificate" = "index" := by decide
  have c1 : catches "NoCertificate" "NoCertificate" = true := by decide
  refine seq_c fun N1 hN1 => ?_
  simp [zIf, yT, yB, yVar, yC, yU, yNot, yAnd, yOr, yAndV, yOrV, yNotV, yTru, yIf, yCh, yF, yNil, yCons, yLst, yTup, yDNew, conts, fixs, cont, hold, asB, fGt, fLt, fLe, fGe, fEq, fNe, fI0, fI, fIn, fIsN, fNotN, zSet, zRet, zRetN, zPut, zDrop, zAsg, zAug, zAugS, getA, getL, asgn, give, fix, fMod, fFdiv, fAdd, fAddI, fSub, fMul, fNeg, fPow, fShl, fShr, fAnd, fOr, fXor, setAt, mutAt, Sl.put, zNext, isRef_eq, rfa, rff, rfo, fLen, fList, fTuple, fMax2, fMin2, fInt1, fSet0, fRev, fSl, ySl, yPart, yNoPart, yMt, yMs, mAppend, mPopAt, mSAdd, isLst, isSet, yRm, isTup, fIndexT, iSq, iEn, iR1, itemsD, gN, gT, gsCons, gsNil, zFor, zBreak, zCont, zRaise, yCall, yCall0, yMake, yCallN, fixM, agsOf, PV.putAll, put1, noRefs, anyP, yYes, fIsi, tyN, isiT, truD, fBits, endsOf, refPos, refsAt, notLoc, okI, okB, okN, eqvI, zForF, fgM, fgS, yTDisp, fStep, zAsg2, zFz, fz, sizeLine_eq, sb, -List.getD_eq_getElem?_getD, -List.filter_eq_nil_iff, zTryM]
  refine ⟨n, rows, ttD tt, d, rfl, ok, plainT_tt, askd_plain ha, askd_len ha, ofTt_ok ok tk ?_⟩
  unfold orFault
  cases h : tightFault n rows tt d with
  | none =>
    rw [h] at k
    simp [zIf, yT, yB, yVar, yC, yU, yNot, yAnd, yOr, yAndV, yOrV, yNotV, yTru, yIf, yCh, yF, yNil, yCons, yLst, yTup, yDNew, conts, fixs, cont, hold, asB, fGt, fLt, fLe, fGe, fEq, fNe, fI0, fI, fIn, fIsN, fNotN, zSet, zRet, zRetN, zPut, zDrop, zAsg, zAug, zAugS, getA, getL, asgn, give, fix, fMod, fFdiv, fAdd, fAddI, fSub, fMul, fNeg, fPow, fShl, fShr, fAnd, fOr, fXor, setAt, mutAt, Sl.put, zNext, isRef_eq, rfa, rff, rfo, fLen, fList, fTuple, fMax2, fMin2, fInt1, fSet0, fRev, fSl, ySl, yPart, yNoPart, yMt, yMs, mAppend, mPopAt, mSAdd, isLst, isSet, yRm, isTup, fIndexT, iSq, iEn, iR1, itemsD, gN, gT, gsCons, gsNil, zFor, zBreak, zCont, zRaise, yCall, yCall0, yMake, yCallN, fixM, agsOf, PV.putAll, put1, noRefs, anyP, yYes, fIsi, tyN, isiT, truD, fBits, endsOf, refPos, refsAt, notLoc, okI, okB, okN, eqvI, zForF, fgM, fgS, yTDisp, fStep, zAsg2, zFz, fz, sizeLine_eq, sb, -List.getD_eq_getElem?_getD, -List.filter_eq_nil_iff, tryEndsM]
    refine hN1 _ ?_
    clear hN1 N1
    simp [zIf, yT, yB, yVar, yC, yU, yNot, yAnd, yOr, yAndV, yOrV, yNotV, yTru, yIf, yCh, yF, yNil, yCons, yLst, yTup, yDNew, conts, fixs, cont, hold, asB, fGt, fLt, fLe, fGe, fEq, fNe, fI0, fI, fIn, fIsN, fNotN, zSet, zRet, zRetN, zPut, zDrop, zAsg, zAug, zAugS, getA, getL, asgn, give, fix, fMod, fFdiv, fAdd, fAddI, fSub, fMul, fNeg, fPow, fShl, fShr, fAnd, fOr, fXor, setAt, mutAt, Sl.put, zNext, isRef_eq, rfa, rff, rfo, fLen, fList, fTuple, fMax2, fMin2, fInt1, fSet0, fRev, fSl, ySl, yPart, yNoPart, yMt, yMs, mAppend, mPopAt, mSAdd, isLst, isSet, yRm, isTup, fIndexT, iSq, iEn, iR1, itemsD, gN, gT, gsCons, gsNil, zFor, zBreak, zCont, zRaise, yCall, yCall0, yMake, yCallN, fixM, agsOf, PV.putAll, put1, noRefs, anyP, yYes, fIsi, tyN, isiT, truD, fBits, endsOf, refPos, refsAt, notLoc, okI, okB, okN, eqvI, zForF, fgM, fgS, yTDisp, fStep, zAsg2, zFz, fz, sizeLine_eq, sb, -List.getD_eq_getElem?_getD, -List.filter_eq_nil_iff]
    exact k
  | some i =>
    rw [h] at k
    simp [zIf, yT, yB, yVar, yC, yU, yNot, yAnd, yOr, yAndV, yOrV, yNotV, yTru, yIf, yCh, yF, yNil, yCons, yLst, yTup, yDNew, conts, fixs, cont, hold, asB, fGt, fLt, fLe, fGe, fEq, fNe, fI0, fI, fIn, fIsN, fNotN, zSet, zRet, zRetN, zPut, zDrop, zAsg, zAug, zAugS, getA, getL, asgn, give, fix, fMod, fFdiv, fAdd, fAddI, fSub, fMul, fNeg, fPow, fShl, fShr, fAnd, fOr, fXor, setAt, mutAt, Sl.put, zNext, isRef_eq, rfa, rff, rfo, fLen, fList, fTuple, fMax2, fMin2, fInt1, fSet0, fRev, fSl, ySl, yPart, yNoPart, yMt, yMs, mAppend, mPopAt, mSAdd, isLst, isSet, yRm, isTup, fIndexT, iSq, iEn, iR1, itemsD, gN, gT, gsCons, gsNil, zFor, zBreak, zCont, zRaise, yCall, yCall0, yMake, yCallN, fixM, agsOf, PV.putAll, put1, noRefs, anyP, yYes, fIsi, tyN, isiT, truD, fBits, endsOf, refPos, refsAt, notLoc, okI, okB, okN, eqvI, zForF, fgM, fgS, yTDisp, fStep, zAsg2, zFz, fz, sizeLine_eq, sb, -List.getD_eq_getElem?_getD, -List.filter_eq_nil_iff, tryEndsM, hdlE, isRef, noExc, goneEnds, f1, c1, yXf]
    refine hN1 _ ?_
    clear hN1 N1
    simp [zIf, yT, yB, yVar, yC, yU, yNot, yAnd, yOr, yAndV, yOrV, yNotV, yTru, yIf, yCh, yF, yNil, yCons, yLst, yTup, yDNew, conts, fixs, cont, hold, asB, fGt, fLt, fLe, fGe, fEq, fNe, fI0, fI, fIn, fIsN, fNotN, zSet, zRet, zRetN, zPut, zDrop, zAsg, zAug, zAugS, getA, getL, asgn, give, fix, fMod, fFdiv, fAdd, fAddI, fSub, fMul, fNeg, fPow, fShl, fShr, fAnd, fOr, fXor, setAt, mutAt, Sl.put, zNext, isRef_eq, rfa, rff, rfo, fLen, fList, fTuple, fMax2, fMin2, fInt1, fSet0, fRev, fSl, ySl, yPart, yNoPart, yMt, yMs, mAppend, mPopAt, mSAdd, isLst, isSet, yRm, isTup, fIndexT, iSq, iEn, iR1, itemsD, gN, gT, gsCons, gsNil, zFor, zBreak, zCont, zRaise, yCall, yCall0, yMake, yCallN, fixM, agsOf, PV.putAll, put1, noRefs, anyP, yYes, fIsi, tyN, isiT, truD, fBits, endsOf, refPos, refsAt, notLoc, okI, okB, okN, eqvI, zForF, fgM, fgS, yTDisp, fStep, zAsg2, zFz, fz, sizeLine_eq, sb, -List.getD_eq_getElem?_getD, -List.filter_eq_nil_iff]
    exact k
end Law
/-! check_insert, right answers -/
/-! k12: what is due -/
namespace Law
open PySem PySem.Spec PyProof.Rows L2 PV
theorem cut_take {xs : List D} {j : Nat} (h : j ≤ xs.length) : PV.cutD xs none (some (j : Int)) = xs.take j := by
  unfold PV.cutD
  rw [HT.sIx_nat, HT.sIx_none]
  simp [Nat.min_eq_left h]
theorem fault_at {n : Int} {tt : List Int} {ds : List D} {rows : List (List Int)} {xs : List Int} {j : Nat} {x : D} (h : insideFrom n tt 0 [] ds = insideFrom n tt j xs (ds.drop j)) (hx : ds[j]? = some x)
    (hb : ∀ r, insideFrom n tt j xs (x :: r) = .inl j) : tightFault n rows tt (.tup ds) = some ((j : Nat) : Int) := by
  have e : ds.drop j = x :: ds.drop (j + 1) := by
    obtain ⟨h1, h2⟩ := List.getElem?_eq_some_iff.mp hx
    rw [List.drop_eq_getElem_cons h1, h2]
  simp only [tightFault, h, e, hb]
theorem pure_law_due_k12 : ∀ as q e, sp_law_due_k12 as q e → t_law_due_k12 (endsOf (refPos 0 as) q e) (entry 6 as) := by
  rintro as q e ⟨n, rows, tt, d, rfl, ok, tk, ha, k⟩
  show t_law_due_k12 _ [.frz (.lst (rows.map rowL)), .frz (ttD tt), .frz d, .any, .any, .any]
  rcases ha with ⟨ds, rfl, hl, hi⟩ | ⟨l, rfl, hl, hi⟩ | rfl | rfl
  · refine seq_c fun N1 hN1 => ?_
    simp [zIf, yT, yB, yVar, yC, yU, yNot, yAnd, yOr, yAndV, yOrV, yNotV, yTru, yIf, yCh, yF, yNil, yCons, yLst, yTup, yDNew, conts, fixs, cont, hold, asB, fGt, fLt, fLe, fGe, fEq, fNe, fI0, fI, fIn, fIsN, fNotN, zSet, zRet, zRetN, zPut, zDrop, zAsg, zAug, zAugS, getA, getL, asgn, give, fix, fMod, fFdiv, fAdd, fAddI, fSub, fMul, fNeg, fPow, fShl, fShr, fAnd, fOr, fXor, setAt, mutAt, Sl.put, zNext, isRef_eq, rfa, rff, rfo, fLen, fList, fTuple, fMax2, fMin2, fInt1, fSet0, fRev, fSl, ySl, yPart, yNoPart, yMt, yMs, mAppend, mPopAt, mSAdd, isLst, isSet, yRm, isTup, fIndexT, iSq, iEn, iR1, itemsD, gN, gT, gsCons, gsNil, zFor, zBreak, zCont, zRaise, yCall, yCall0, yMake, yCallN, fixM, agsOf, PV.putAll, put1, noRefs, anyP, yYes, fIsi, tyN, isiT, truD, fBits, endsOf, refPos, refsAt, notLoc, okI, okB, okN, eqvI, zForF, fgM, fgS, yTDisp, fStep, zAsg2, zFz, fz, sizeLine_eq, sb, -List.getD_eq_getElem?_getD, -List.filter_eq_nil_iff]
    refine hN1 _ ?_
    clear hN1 N1
    refine seq_c fun N1 hN1 => ?_
    simp [zIf, yT, yB, yVar, yC, yU, yNot, yAnd, yOr, yAndV, yOrV, yNotV, yTru, yIf, yCh, yF, yNil, yCons, yLst, yTup, yDNew, conts, fixs, cont, hold, asB, fGt, fLt, fLe, fGe, fEq, fNe, fI0, fI, fIn, fIsN, fNotN, zSet, zRet, zRetN, zPut, zDrop, zAsg, zAug, zAugS, getA, getL, asgn, give, fix, fMod, fFdiv, fAdd, fAddI, fSub, fMul, fNeg, fPow, fShl, fShr, fAnd, fOr, fXor, setAt, mutAt, Sl.put, zNext, isRef_eq, rfa, rff, rfo, fLen, fList, fTuple, fMax2, fMin2, fInt1, fSet0, fRev, fSl, ySl, yPart, yNoPart, yMt, yMs, mAppend, mPopAt, mSAdd, isLst, isSet, yRm, isTup, fIndexT, iSq, iEn, iR1, itemsD, gN, gT, gsCons, gsNil, zFor, zBreak, zCont, zRaise, yCall, yCall0, yMake, yCallN, fixM, agsOf, PV.putAll, put1, noRefs, anyP, yYes, fIsi, tyN, isiT, truD, fBits, endsOf, refPos, refsAt, notLoc, okI, okB, okN, eqvI, zForF, fgM, fgS, yTDisp, fStep, zAsg2, zFz, fz, sizeLine_eq, sb, -List.getD_eq_getElem?_getD, -List.filter_eq_nil_iff]
    refine forF_inv (fun j ρ => ρ = [.frz (.lst (rows.map rowL)), .frz (ttD tt), .frz (.tup ds), .any, .any, .any] ∧ ∃ xs : List Int, ds.take j = xs.map D.int ∧ insideFrom n tt 0 [] ds = insideFrom n tt j xs (ds.drop j) ∧ ∀ x ∈ xs, x ∈ tt) ⟨rfl, [], by simp, by simp, by simp⟩ ?_ ?_
    · rintro j x ρ hx ⟨rfl, xs, e1, e2, hxs⟩ M hM
      obtain ⟨y, hj, rfl⟩ := get_enum hx
      have bad : (∀ r, insideFrom n tt j xs (y :: r) = .inl j) → q (.dat (.int (j : Int))) [] := fun z => by
        rw [fault_at (rows := rows) e2 hj z] at k
        exact k
      have e3 : ds.drop j = y :: ds.drop (j + 1) := by
        obtain ⟨h1, h2⟩ := List.getElem?_eq_some_iff.mp hj
        rw [List.drop_eq_getElem_cons h1, h2]
      have e4 : ds.take (j + 1) = ds.take j ++ [y] := by
        rw [List.take_add_one, hj]
        rfl
      rcases hi y (List.mem_of_getElem? hj) with ⟨i, rfl, i0, i1⟩ | ⟨b, rfl⟩ | rfl | rfl | rfl
      · have lj : j ≤ ds.length := Nat.le_of_lt (List.getElem?_eq_some_iff.mp hj).1
        have et : D.tup (PV.cutD ds none (some (j : Int))) = ttD xs := by
          rw [cut_take lj, e1]
          rfl
        by_cases hm : i ∈ tt
        · have hr := tt_mem ok tk hm
          by_cases hx : i ∈ xs
          · simp [zIf, yT, yB, yVar, yC, yU, yNot, yAnd, yOr, yAndV, yOrV, yNotV, yTru, yIf, yCh, yF, yNil, yCons, yLst, yTup, yDNew, conts, fixs, cont, hold, asB, fGt, fLt, fLe, fGe, fEq, fNe, fI0, fI, fIsN, fNotN, zSet, zRet, zRetN, zPut, zDrop, zAsg, zAug, zAugS, getA, getL, asgn, give, fix, fMod, fFdiv, fAdd, fAddI, fSub, fMul, fNeg, fPow, fShl, fShr, fAnd, fOr, fXor, setAt, mutAt, Sl.put, zNext, isRef_eq, rfa, rff, rfo, fLen, fList, fTuple, fMax2, fMin2, fInt1, fSet0, fRev, fSl, ySl, yPart, yNoPart, yMt, yMs, mAppend, mPopAt, mSAdd, isLst, isSet, yRm, isTup, fIndexT, iSq, iEn, iR1, itemsD, gN, gT, gsCons, gsNil, zFor, zBreak, zCont, zRaise, yCall, yCall0, yMake, yCallN, fixM, agsOf, PV.putAll, put1, noRefs, anyP, yYes, fIsi, tyN, isiT, truD, fBits, endsOf, refPos, refsAt, notLoc, okI, okB, okN, eqvI, zForF, fgM, fgS, yTDisp, fStep, zAsg2, zFz, fz, sizeLine_eq, sb, -List.getD_eq_getElem?_getD, -List.filter_eq_nil_iff, inTD, hm]
            rw [et]
            simp [zIf, yT, yB, yVar, yC, yU, yNot, yAnd, yOr, yAndV, yOrV, yNotV, yTru, yIf, yCh, yF, yNil, yCons, yLst, yTup, yDNew, conts, fixs, cont, hold, asB, fGt, fLt, fLe, fGe, fEq, fNe, fI0, fI, fIsN, fNotN, zSet, zRet, zRetN, zPut, zDrop, zAsg, zAug, zAugS, getA, getL, asgn, give, fix, fMod, fFdiv, fAdd, fAddI, fSub, fMul, fNeg, fPow, fShl, fShr, fAnd, fOr, fXor, setAt, mutAt, Sl.put, zNext, isRef_eq, rfa, rff, rfo, fLen, fList, fTuple, fMax2, fMin2, fInt1, fSet0, fRev, fSl, ySl, yPart, yNoPart, yMt, yMs, mAppend, mPopAt, mSAdd, isLst, isSet, yRm, isTup, fIndexT, iSq, iEn, iR1, itemsD, gN, gT, gsCons, gsNil, zFor, zBreak, zCont, zRaise, yCall, yCall0, yMake, yCallN, fixM, agsOf, PV.putAll, put1, noRefs, anyP, yYes, fIsi, tyN, isiT, truD, fBits, endsOf, refPos, refsAt, notLoc, okI, okB, okN, eqvI, zForF, fgM, fgS, yTDisp, fStep, zAsg2, zFz, fz, sizeLine_eq, sb, -List.getD_eq_getElem?_getD, -List.filter_eq_nil_iff, inTD, hx]
            exact bad fun r => by simp [insideFrom, hx]
          · simp [zIf, yT, yB, yVar, yC, yU, yNot, yAnd, yOr, yAndV, yOrV, yNotV, yTru, yIf, yCh, yF, yNil, yCons, yLst, yTup, yDNew, conts, fixs, cont, hold, asB, fGt, fLt, fLe, fGe, fEq, fNe, fI0, fI, fIsN, fNotN, zSet, zRet, zRetN, zPut, zDrop, zAsg, zAug, zAugS, getA, getL, asgn, give, fix, fMod, fFdiv, fAdd, fAddI, fSub, fMul, fNeg, fPow, fShl, fShr, fAnd, fOr, fXor, setAt, mutAt, Sl.put, zNext, isRef_eq, rfa, rff, rfo, fLen, fList, fTuple, fMax2, fMin2, fInt1, fSet0, fRev, fSl, ySl, yPart, yNoPart, yMt, yMs, mAppend, mPopAt, mSAdd, isLst, isSet, yRm, isTup, fIndexT, iSq, iEn, iR1, itemsD, gN, gT, gsCons, gsNil, zFor, zBreak, zCont, zRaise, yCall, yCall0, yMake, yCallN, fixM, agsOf, PV.putAll, put1, noRefs, anyP, yYes, fIsi, tyN, isiT, truD, fBits, endsOf, refPos, refsAt, notLoc, okI, okB, okN, eqvI, zForF, fgM, fgS, yTDisp, fStep, zAsg2, zFz, fz, sizeLine_eq, sb, -List.getD_eq_getElem?_getD, -List.filter_eq_nil_iff, inTD, hm]
            rw [et]
            simp [zIf, yT, yB, yVar, yC, yU, yNot, yAnd, yOr, yAndV, yOrV, yNotV, yTru, yIf, yCh, yF, yNil, yCons, yLst, yTup, yDNew, conts, fixs, cont, hold, asB, fGt, fLt, fLe, fGe, fEq, fNe, fI0, fI, fIsN, fNotN, zSet, zRet, zRetN, zPut, zDrop, zAsg, zAug, zAugS, getA, getL, asgn, give, fix, fMod, fFdiv, fAdd, fAddI, fSub, fMul, fNeg, fPow, fShl, fShr, fAnd, fOr, fXor, setAt, mutAt, Sl.put, zNext, isRef_eq, rfa, rff, rfo, fLen, fList, fTuple, fMax2, fMin2, fInt1, fSet0, fRev, fSl, ySl, yPart, yNoPart, yMt, yMs, mAppend, mPopAt, mSAdd, isLst, isSet, yRm, isTup, fIndexT, iSq, iEn, iR1, itemsD, gN, gT, gsCons, gsNil, zFor, zBreak, zCont, zRaise, yCall, yCall0, yMake, yCallN, fixM, agsOf, PV.putAll, put1, noRefs, anyP, yYes, fIsi, tyN, isiT, truD, fBits, endsOf, refPos, refsAt, notLoc, okI, okB, okN, eqvI, zForF, fgM, fgS, yTDisp, fStep, zAsg2, zFz, fz, sizeLine_eq, sb, -List.getD_eq_getElem?_getD, -List.filter_eq_nil_iff, inTD, hx]
            refine hM _ ⟨by simp [zIf, yT, yB, yVar, yC, yU, yNot, yAnd, yOr, yAndV, yOrV, yNotV, yTru, yIf, yCh, yF, yNil, yCons, yLst, yTup, yDNew, conts, fixs, cont, hold, asB, fGt, fLt, fLe, fGe, fEq, fNe, fI0, fI, fIn, fIsN, fNotN, zSet, zRet, zRetN, zPut, zDrop, zAsg, zAug, zAugS, getA, getL, asgn, give, fix, fMod, fFdiv, fAdd, fAddI, fSub, fMul, fNeg, fPow, fShl, fShr, fAnd, fOr, fXor, setAt, mutAt, Sl.put, zNext, isRef_eq, rfa, rff, rfo, fLen, fList, fTuple, fMax2, fMin2, fInt1, fSet0, fRev, fSl, ySl, yPart, yNoPart, yMt, yMs, mAppend, mPopAt, mSAdd, isLst, isSet, yRm, isTup, fIndexT, iSq, iEn, iR1, itemsD, gN, gT, gsCons, gsNil, zFor, zBreak, zCont, zRaise, yCall, yCall0, yMake, yCallN, fixM, agsOf, PV.putAll, put1, noRefs, anyP, yYes, fIsi, tyN, isiT, truD, fBits, endsOf, refPos, refsAt, notLoc, okI, okB, okN, eqvI, zForF, fgM, fgS, yTDisp, fStep, zAsg2, zFz, fz, sizeLine_eq, sb, -List.getD_eq_getElem?_getD, -List.filter_eq_nil_iff], xs ++ [i], by rw [e4, e1]; simp, ?_, fun x h => ?_⟩
            · rw [e2, e3]
              simp [insideFrom, hr.1, hr.2, hm, hx]
            · rcases List.mem_append.mp h with h | h
              · exact hxs x h
              · rw [List.mem_singleton.mp h]
                exact hm
        · simp [zIf, yT, yB, yVar, yC, yU, yNot, yAnd, yOr, yAndV, yOrV, yNotV, yTru, yIf, yCh, yF, yNil, yCons, yLst, yTup, yDNew, conts, fixs, cont, hold, asB, fGt, fLt, fLe, fGe, fEq, fNe, fI0, fI, fIsN, fNotN, zSet, zRet, zRetN, zPut, zDrop, zAsg, zAug, zAugS, getA, getL, asgn, give, fix, fMod, fFdiv, fAdd, fAddI, fSub, fMul, fNeg, fPow, fShl, fShr, fAnd, fOr, fXor, setAt, mutAt, Sl.put, zNext, isRef_eq, rfa, rff, rfo, fLen, fList, fTuple, fMax2, fMin2, fInt1, fSet0, fRev, fSl, ySl, yPart, yNoPart, yMt, yMs, mAppend, mPopAt, mSAdd, isLst, isSet, yRm, isTup, fIndexT, iSq, iEn, iR1, itemsD, gN, gT, gsCons, gsNil, zFor, zBreak, zCont, zRaise, yCall, yCall0, yMake, yCallN, fixM, agsOf, PV.putAll, put1, noRefs, anyP, yYes, fIsi, tyN, isiT, truD, fBits, endsOf, refPos, refsAt, notLoc, okI, okB, okN, eqvI, zForF, fgM, fgS, yTDisp, fStep, zAsg2, zFz, fz, sizeLine_eq, sb, -List.getD_eq_getElem?_getD, -List.filter_eq_nil_iff, inTD, hm]
          exact bad fun r => by simp [insideFrom, hm]
      · simp [zIf, yT, yB, yVar, yC, yU, yNot, yAnd, yOr, yAndV, yOrV, yNotV, yTru, yIf, yCh, yF, yNil, yCons, yLst, yTup, yDNew, conts, fixs, cont, hold, asB, fGt, fLt, fLe, fGe, fEq, fNe, fI0, fI, fIsN, fNotN, zSet, zRet, zRetN, zPut, zDrop, zAsg, zAug, zAugS, getA, getL, asgn, give, fix, fMod, fFdiv, fAdd, fAddI, fSub, fMul, fNeg, fPow, fShl, fShr, fAnd, fOr, fXor, setAt, mutAt, Sl.put, zNext, isRef_eq, rfa, rff, rfo, fLen, fList, fTuple, fMax2, fMin2, fInt1, fSet0, fRev, fSl, ySl, yPart, yNoPart, yMt, yMs, mAppend, mPopAt, mSAdd, isLst, isSet, yRm, isTup, fIndexT, iSq, iEn, iR1, itemsD, gN, gT, gsCons, gsNil, zFor, zBreak, zCont, zRaise, yCall, yCall0, yMake, yCallN, fixM, agsOf, PV.putAll, put1, noRefs, anyP, yYes, fIsi, tyN, isiT, truD, fBits, endsOf, refPos, refsAt, notLoc, okI, okB, okN, eqvI, zForF, fgM, fgS, yTDisp, fStep, zAsg2, zFz, fz, sizeLine_eq, sb, -List.getD_eq_getElem?_getD, -List.filter_eq_nil_iff]
        exact bad fun r => rfl
      · simp [zIf, yT, yB, yVar, yC, yU, yNot, yAnd, yOr, yAndV, yOrV, yNotV, yTru, yIf, yCh, yF, yNil, yCons, yLst, yTup, yDNew, conts, fixs, cont, hold, asB, fGt, fLt, fLe, fGe, fEq, fNe, fI0, fI, fIsN, fNotN, zSet, zRet, zRetN, zPut, zDrop, zAsg, zAug, zAugS, getA, getL, asgn, give, fix, fMod, fFdiv, fAdd, fAddI, fSub, fMul, fNeg, fPow, fShl, fShr, fAnd, fOr, fXor, setAt, mutAt, Sl.put, zNext, isRef_eq, rfa, rff, rfo, fLen, fList, fTuple, fMax2, fMin2, fInt1, fSet0, fRev, fSl, ySl, yPart, yNoPart, yMt, yMs, mAppend, mPopAt, mSAdd, isLst, isSet, yRm, isTup, fIndexT, iSq, iEn, iR1, itemsD, gN, gT, gsCons, gsNil, zFor, zBreak, zCont, zRaise, yCall, yCall0, yMake, yCallN, fixM, agsOf, PV.putAll, put1, noRefs, anyP, yYes, fIsi, tyN, isiT, truD, fBits, endsOf, refPos, refsAt, notLoc, okI, okB, okN, eqvI, zForF, fgM, fgS, yTDisp, fStep, zAsg2, zFz, fz, sizeLine_eq, sb, -List.getD_eq_getElem?_getD, -List.filter_eq_nil_iff]
        exact bad fun r => rfl
      · simp [zIf, yT, yB, yVar, yC, yU, yNot, yAnd, yOr, yAndV, yOrV, yNotV, yTru, yIf, yCh, yF, yNil, yCons, yLst, yTup, yDNew, conts, fixs, cont, hold, asB, fGt, fLt, fLe, fGe, fEq, fNe, fI0, fI, fIsN, fNotN, zSet, zRet, zRetN, zPut, zDrop, zAsg, zAug, zAugS, getA, getL, asgn, give, fix, fMod, fFdiv, fAdd, fAddI, fSub, fMul, fNeg, fPow, fShl, fShr, fAnd, fOr, fXor, setAt, mutAt, Sl.put, zNext, isRef_eq, rfa, rff, rfo, fLen, fList, fTuple, fMax2, fMin2, fInt1, fSet0, fRev, fSl, ySl, yPart, yNoPart, yMt, yMs, mAppend, mPopAt, mSAdd, isLst, isSet, yRm, isTup, fIndexT, iSq, iEn, iR1, itemsD, gN, gT, gsCons, gsNil, zFor, zBreak, zCont, zRaise, yCall, yCall0, yMake, yCallN, fixM, agsOf, PV.putAll, put1, noRefs, anyP, yYes, fIsi, tyN, isiT, truD, fBits, endsOf, refPos, refsAt, notLoc, okI, okB, okN, eqvI, zForF, fgM, fgS, yTDisp, fStep, zAsg2, zFz, fz, sizeLine_eq, sb, -List.getD_eq_getElem?_getD, -List.filter_eq_nil_iff]
        exact bad fun r => rfl
      · simp [zIf, yT, yB, yVar, yC, yU, yNot, yAnd, yOr, yAndV, yOrV, yNotV, yTru, yIf, yCh, yF, yNil, yCons, yLst, yTup, yDNew, conts, fixs, cont, hold, asB, fGt, fLt, fLe, fGe, fEq, fNe, fI0, fI, fIsN, fNotN, zSet, zRet, zRetN, zPut, zDrop, zAsg, zAug, zAugS, getA, getL, asgn, give, fix, fMod, fFdiv, fAdd, fAddI, fSub, fMul, fNeg, fPow, fShl, fShr, fAnd, fOr, fXor, setAt, mutAt, Sl.put, zNext, isRef_eq, rfa, rff, rfo, fLen, fList, fTuple, fMax2, fMin2, fInt1, fSet0, fRev, fSl, ySl, yPart, yNoPart, yMt, yMs, mAppend, mPopAt, mSAdd, isLst, isSet, yRm, isTup, fIndexT, iSq, iEn, iR1, itemsD, gN, gT, gsCons, gsNil, zFor, zBreak, zCont, zRaise, yCall, yCall0, yMake, yCallN, fixM, agsOf, PV.putAll, put1, noRefs, anyP, yYes, fIsi, tyN, isiT, truD, fBits, endsOf, refPos, refsAt, notLoc, okI, okB, okN, eqvI, zForF, fgM, fgS, yTDisp, fStep, zAsg2, zFz, fz, sizeLine_eq, sb, -List.getD_eq_getElem?_getD, -List.filter_eq_nil_iff]
        exact bad fun r => rfl
    · rintro ρ ⟨rfl, xs, e1, e2, hxs⟩
      refine hN1 _ ?_
      clear hN1 N1
      have el : ds = xs.map D.int := by
        rw [← e1, List.take_of_length_le (by simp [enumD])]
      have ei : insideFrom n tt 0 [] ds = .inr xs := by
        rw [e2, List.drop_of_length_le (by simp [enumD])]
        rfl
      have ef : tightFault n rows tt (.tup ds) = (leavesFrom rows tt xs 0 xs).map fun i => ((xs.length + i : Nat) : Int) := by
        simp only [tightFault, ei]
        cases leavesFrom rows tt xs 0 xs <;> rfl
      rw [ef] at k
      subst el
      refine seq_c fun N1 hN1 => ?_
      simp [zIf, yT, yB, yVar, yC, yU, yNot, yAnd, yOr, yAndV, yOrV, yNotV, yTru, yIf, yCh, yF, yNil, yCons, yLst, yTup, yDNew, conts, fixs, cont, hold, asB, fGt, fLt, fLe, fGe, fEq, fNe, fI0, fI, fIn, fIsN, fNotN, zSet, zRet, zRetN, zPut, zDrop, zAsg, zAug, zAugS, getA, getL, asgn, give, fix, fMod, fFdiv, fAdd, fAddI, fSub, fMul, fNeg, fPow, fShl, fShr, fAnd, fOr, fXor, setAt, mutAt, Sl.put, zNext, isRef_eq, rfa, rff, rfo, fLen, fList, fTuple, fMax2, fMin2, fInt1, fSet0, fRev, fSl, ySl, yPart, yNoPart, yMt, yMs, mAppend, mPopAt, mSAdd, isLst, isSet, yRm, isTup, fIndexT, iSq, iEn, iR1, itemsD, gN, gT, gsCons, gsNil, zFor, zBreak, zCont, zRaise, yCall, yCall0, yMake, yCallN, fixM, agsOf, PV.putAll, put1, noRefs, anyP, yYes, fIsi, tyN, isiT, truD, fBits, endsOf, refPos, refsAt, notLoc, okI, okB, okN, eqvI, zForF, fgM, fgS, yTDisp, fStep, zAsg2, zFz, fz, sizeLine_eq, sb, -List.getD_eq_getElem?_getD, -List.filter_eq_nil_iff]
      refine forF_inv (fun j ρ => ρ = [.frz (.lst (rows.map rowL)), .frz (ttD tt), .frz (.tup (xs.map D.int)), .any, .any, .any] ∧ leavesFrom rows tt xs 0 xs = leavesFrom rows tt xs j (xs.drop j)) ⟨rfl, by simp⟩ ?_ ?_
      · rintro j x ρ hx ⟨rfl, e5⟩ M hM
        obtain ⟨s, hj, rfl⟩ := get_enumM hx
        have hs := hxs s (List.mem_of_getElem? hj)
        have e3 : xs.drop j = s :: xs.drop (j + 1) := by
          obtain ⟨h1, h2⟩ := List.getElem?_eq_some_iff.mp hj
          rw [List.drop_eq_getElem_cons h1, h2]
        have li : tt.idxOf s < rows.length := by
          rw [← tk.len]
          exact List.idxOf_lt_length_of_mem hs
        have rle := row_le (ok.row _ (List.mem_of_getElem? (row_get li))) (by have := ok.n60; omega)
        have ixr : ∀ {q : R → Prop}, fIxA (.lst (rows.map rowL)) (.int ((tt.idxOf s : Nat) : Int)) q = q (.dat (rowL (rows.getD (tt.idxOf s) []))) := fun {q} => ixL li []
        simp [zIf, yT, yB, yVar, yC, yU, yNot, yAnd, yOr, yAndV, yOrV, yNotV, yTru, yIf, yCh, yF, yNil, yCons, yLst, yTup, yDNew, conts, fixs, cont, hold, asB, fGt, fLt, fLe, fGe, fEq, fI0, fI, fIsN, fNotN, zSet, zRet, zRetN, zPut, zDrop, zAsg, zAug, zAugS, getA, getL, asgn, give, fix, fMod, fFdiv, fAdd, fAddI, fSub, fMul, fNeg, fPow, fShl, fShr, fAnd, fOr, fXor, setAt, mutAt, Sl.put, zNext, isRef_eq, rfa, rff, rfo, fLen, fList, fTuple, fMax2, fMin2, fInt1, fSet0, fRev, fSl, ySl, yPart, yNoPart, yMt, yMs, mAppend, mPopAt, mSAdd, isLst, isSet, yRm, isTup, iSq, iEn, iR1, itemsD, gN, gT, gsCons, gsNil, zFor, zBreak, zCont, zRaise, yCall, yCall0, yMake, yCallN, fixM, agsOf, PV.putAll, put1, noRefs, anyP, yYes, fIsi, tyN, isiT, truD, fBits, endsOf, refPos, refsAt, notLoc, okI, okB, okN, eqvI, zForF, fgM, fgS, yTDisp, fStep, zAsg2, zFz, fz, sizeLine_eq, sb, -List.getD_eq_getElem?_getD, -List.filter_eq_nil_iff, yLc]
        refine ⟨trivial, indexT hs ?_⟩
        simp [zIf, yT, yB, yVar, yC, yU, yNot, yAnd, yOr, yAndV, yOrV, yNotV, yTru, yIf, yCh, yF, yNil, yCons, yLst, yTup, yDNew, conts, fixs, cont, hold, asB, fGt, fLt, fLe, fGe, fEq, fI0, fI, fIsN, fNotN, zSet, zRet, zRetN, zPut, zDrop, zAsg, zAug, zAugS, getA, getL, asgn, give, fix, fMod, fFdiv, fAdd, fAddI, fSub, fMul, fNeg, fPow, fShl, fShr, fAnd, fOr, fXor, setAt, mutAt, Sl.put, zNext, isRef_eq, rfa, rff, rfo, fLen, fList, fTuple, fMax2, fMin2, fInt1, fSet0, fRev, fSl, ySl, yPart, yNoPart, yMt, yMs, mAppend, mPopAt, mSAdd, isLst, isSet, yRm, isTup, fIndexT, iSq, iEn, iR1, itemsD, gN, gT, gsCons, gsNil, zFor, zBreak, zCont, zRaise, yCall, yCall0, yMake, yCallN, fixM, agsOf, PV.putAll, put1, noRefs, anyP, yYes, fIsi, tyN, isiT, truD, fBits, endsOf, refPos, refsAt, notLoc, okI, okB, okN, eqvI, zForF, fgM, fgS, yTDisp, fStep, zAsg2, zFz, fz, sizeLine_eq, sb, -List.getD_eq_getElem?_getD, -List.filter_eq_nil_iff, ixr]
        refine lc_of (fun z => !decide (z ∈ xs)) D.int rfl (by have := sizeLine_eq; omega) (fun z hz K L kT kF => ?_) ?_
        · by_cases c1 : z ∈ xs
          · simp [zIf, yT, yB, yVar, yC, yU, yNot, yAnd, yOr, yAndV, yOrV, yNotV, yTru, yIf, yCh, yF, yNil, yCons, yLst, yTup, yDNew, conts, fixs, cont, hold, asB, fGt, fLt, fLe, fGe, fEq, fNe, fI0, fI, fIsN, fNotN, zSet, zRet, zRetN, zPut, zDrop, zAsg, zAug, zAugS, getA, getL, asgn, give, fix, fMod, fFdiv, fAdd, fAddI, fSub, fMul, fNeg, fPow, fShl, fShr, fAnd, fOr, fXor, setAt, mutAt, Sl.put, zNext, isRef_eq, rfa, rff, rfo, fLen, fList, fTuple, fMax2, fMin2, fInt1, fSet0, fRev, fSl, ySl, yPart, yNoPart, yMt, yMs, mAppend, mPopAt, mSAdd, isLst, isSet, yRm, isTup, fIndexT, iSq, iEn, iR1, itemsD, gN, gT, gsCons, gsNil, zFor, zBreak, zCont, zRaise, yCall, yCall0, yMake, yCallN, fixM, agsOf, PV.putAll, put1, noRefs, anyP, yYes, fIsi, tyN, isiT, truD, fBits, endsOf, refPos, refsAt, notLoc, okI, okB, okN, eqvI, zForF, fgM, fgS, yTDisp, fStep, zAsg2, zFz, fz, sizeLine_eq, sb, -List.getD_eq_getElem?_getD, -List.filter_eq_nil_iff, inT, c1]
            exact kF (by simp [c1]) _ (by simp [zIf, yT, yB, yVar, yC, yU, yNot, yAnd, yOr, yAndV, yOrV, yNotV, yTru, yIf, yCh, yF, yNil, yCons, yLst, yTup, yDNew, conts, fixs, cont, hold, asB, fGt, fLt, fLe, fGe, fEq, fNe, fI0, fI, fIn, fIsN, fNotN, zSet, zRet, zRetN, zPut, zDrop, zAsg, zAug, zAugS, getA, getL, asgn, give, fix, fMod, fFdiv, fAdd, fAddI, fSub, fMul, fNeg, fPow, fShl, fShr, fAnd, fOr, fXor, setAt, mutAt, Sl.put, zNext, isRef_eq, rfa, rff, rfo, fLen, fList, fTuple, fMax2, fMin2, fInt1, fSet0, fRev, fSl, ySl, yPart, yNoPart, yMt, yMs, mAppend, mPopAt, mSAdd, isLst, isSet, yRm, isTup, fIndexT, iSq, iEn, iR1, itemsD, gN, gT, gsCons, gsNil, zFor, zBreak, zCont, zRaise, yCall, yCall0, yMake, yCallN, fixM, agsOf, PV.putAll, put1, noRefs, anyP, yYes, fIsi, tyN, isiT, truD, fBits, endsOf, refPos, refsAt, notLoc, okI, okB, okN, eqvI, zForF, fgM, fgS, yTDisp, fStep, zAsg2, zFz, fz, sizeLine_eq, sb, -List.getD_eq_getElem?_getD, -List.filter_eq_nil_iff]) (by simp [zIf, yT, yB, yVar, yC, yU, yNot, yAnd, yOr, yAndV, yOrV, yNotV, yTru, yIf, yCh, yF, yNil, yCons, yLst, yTup, yDNew, conts, fixs, cont, hold, asB, fGt, fLt, fLe, fGe, fEq, fNe, fI0, fI, fIn, fIsN, fNotN, zSet, zRet, zRetN, zPut, zDrop, zAsg, zAug, zAugS, getA, getL, asgn, give, fix, fMod, fFdiv, fAdd, fAddI, fSub, fMul, fNeg, fPow, fShl, fShr, fAnd, fOr, fXor, setAt, mutAt, Sl.put, zNext, isRef_eq, rfa, rff, rfo, fLen, fList, fTuple, fMax2, fMin2, fInt1, fSet0, fRev, fSl, ySl, yPart, yNoPart, yMt, yMs, mAppend, mPopAt, mSAdd, isLst, isSet, yRm, isTup, fIndexT, iSq, iEn, iR1, itemsD, gN, gT, gsCons, gsNil, zFor, zBreak, zCont, zRaise, yCall, yCall0, yMake, yCallN, fixM, agsOf, PV.putAll, put1, noRefs, anyP, yYes, fIsi, tyN, isiT, truD, fBits, endsOf, refPos, refsAt, notLoc, okI, okB, okN, eqvI, zForF, fgM, fgS, yTDisp, fStep, zAsg2, zFz, fz, sizeLine_eq, sb, -List.getD_eq_getElem?_getD, -List.filter_eq_nil_iff])
          · simp [zIf, yT, yB, yVar, yC, yU, yNot, yAnd, yOr, yAndV, yOrV, yNotV, yTru, yIf, yCh, yF, yNil, yCons, yLst, yTup, yDNew, conts, fixs, cont, hold, asB, fGt, fLt, fLe, fGe, fEq, fNe, fI0, fI, fIsN, fNotN, zSet, zRet, zRetN, zPut, zDrop, zAsg, zAug, zAugS, getA, getL, asgn, give, fix, fMod, fFdiv, fAdd, fAddI, fSub, fMul, fNeg, fPow, fShl, fShr, fAnd, fOr, fXor, setAt, mutAt, Sl.put, zNext, isRef_eq, rfa, rff, rfo, fLen, fList, fTuple, fMax2, fMin2, fInt1, fSet0, fRev, fSl, ySl, yPart, yNoPart, yMt, yMs, mAppend, mPopAt, mSAdd, isLst, isSet, yRm, isTup, fIndexT, iSq, iEn, iR1, itemsD, gN, gT, gsCons, gsNil, zFor, zBreak, zCont, zRaise, yCall, yCall0, yMake, yCallN, fixM, agsOf, PV.putAll, put1, noRefs, anyP, yYes, fIsi, tyN, isiT, truD, fBits, endsOf, refPos, refsAt, notLoc, okI, okB, okN, eqvI, zForF, fgM, fgS, yTDisp, fStep, zAsg2, zFz, fz, sizeLine_eq, sb, -List.getD_eq_getElem?_getD, -List.filter_eq_nil_iff, inT, c1]
            exact kT (by simp [c1]) _ (by simp [zIf, yT, yB, yVar, yC, yU, yNot, yAnd, yOr, yAndV, yOrV, yNotV, yTru, yIf, yCh, yF, yNil, yCons, yLst, yTup, yDNew, conts, fixs, cont, hold, asB, fGt, fLt, fLe, fGe, fEq, fNe, fI0, fI, fIn, fIsN, fNotN, zSet, zRet, zRetN, zPut, zDrop, zAsg, zAug, zAugS, getA, getL, asgn, give, fix, fMod, fFdiv, fAdd, fAddI, fSub, fMul, fNeg, fPow, fShl, fShr, fAnd, fOr, fXor, setAt, mutAt, Sl.put, zNext, isRef_eq, rfa, rff, rfo, fLen, fList, fTuple, fMax2, fMin2, fInt1, fSet0, fRev, fSl, ySl, yPart, yNoPart, yMt, yMs, mAppend, mPopAt, mSAdd, isLst, isSet, yRm, isTup, fIndexT, iSq, iEn, iR1, itemsD, gN, gT, gsCons, gsNil, zFor, zBreak, zCont, zRaise, yCall, yCall0, yMake, yCallN, fixM, agsOf, PV.putAll, put1, noRefs, anyP, yYes, fIsi, tyN, isiT, truD, fBits, endsOf, refPos, refsAt, notLoc, okI, okB, okN, eqvI, zForF, fgM, fgS, yTDisp, fStep, zAsg2, zFz, fz, sizeLine_eq, sb, -List.getD_eq_getElem?_getD, -List.filter_eq_nil_iff]) (by simp [zIf, yT, yB, yVar, yC, yU, yNot, yAnd, yOr, yAndV, yOrV, yNotV, yTru, yIf, yCh, yF, yNil, yCons, yLst, yTup, yDNew, conts, fixs, cont, hold, asB, fGt, fLt, fLe, fGe, fEq, fNe, fI0, fI, fIn, fIsN, fNotN, zSet, zRet, zRetN, zPut, zDrop, zAsg, zAug, zAugS, getA, getL, asgn, give, fix, fMod, fFdiv, fAdd, fAddI, fSub, fMul, fNeg, fPow, fShl, fShr, fAnd, fOr, fXor, setAt, mutAt, Sl.put, zNext, isRef_eq, rfa, rff, rfo, fLen, fList, fTuple, fMax2, fMin2, fInt1, fSet0, fRev, fSl, ySl, yPart, yNoPart, yMt, yMs, mAppend, mPopAt, mSAdd, isLst, isSet, yRm, isTup, fIndexT, iSq, iEn, iR1, itemsD, gN, gT, gsCons, gsNil, zFor, zBreak, zCont, zRaise, yCall, yCall0, yMake, yCallN, fixM, agsOf, PV.putAll, put1, noRefs, anyP, yYes, fIsi, tyN, isiT, truD, fBits, endsOf, refPos, refsAt, notLoc, okI, okB, okN, eqvI, zForF, fgM, fgS, yTDisp, fStep, zAsg2, zFz, fz, sizeLine_eq, sb, -List.getD_eq_getElem?_getD, -List.filter_eq_nil_iff])
        rw [neL0]
        by_cases c2 : (rows.getD (tt.idxOf s) []).filter (fun z => !decide (z ∈ xs)) = []
        · rw [decide_eq_true c2]
          simp [zIf, yT, yB, yVar, yC, yU, yNot, yAnd, yOr, yAndV, yOrV, yNotV, yTru, yIf, yCh, yF, yNil, yCons, yLst, yTup, yDNew, conts, fixs, cont, hold, asB, fGt, fLt, fLe, fGe, fEq, fI0, fI, fIn, fIsN, fNotN, zSet, zRet, zRetN, zPut, zDrop, zAsg, zAug, zAugS, getA, getL, asgn, give, fix, fMod, fFdiv, fAdd, fAddI, fSub, fMul, fNeg, fPow, fShl, fShr, fAnd, fOr, fXor, setAt, mutAt, Sl.put, zNext, isRef_eq, rfa, rff, rfo, fLen, fList, fTuple, fMax2, fMin2, fInt1, fSet0, fRev, fSl, ySl, yPart, yNoPart, yMt, yMs, mAppend, mPopAt, mSAdd, isLst, isSet, yRm, isTup, fIndexT, iSq, iEn, iR1, itemsD, gN, gT, gsCons, gsNil, zFor, zBreak, zCont, zRaise, yCall, yCall0, yMake, yCallN, fixM, agsOf, PV.putAll, put1, noRefs, anyP, yYes, fIsi, tyN, isiT, truD, fBits, endsOf, refPos, refsAt, notLoc, okI, okB, okN, eqvI, zForF, fgM, fgS, yTDisp, fStep, zAsg2, zFz, fz, sizeLine_eq, sb, -List.getD_eq_getElem?_getD, -List.filter_eq_nil_iff]
          refine hM _ ⟨by simp [zIf, yT, yB, yVar, yC, yU, yNot, yAnd, yOr, yAndV, yOrV, yNotV, yTru, yIf, yCh, yF, yNil, yCons, yLst, yTup, yDNew, conts, fixs, cont, hold, asB, fGt, fLt, fLe, fGe, fEq, fNe, fI0, fI, fIn, fIsN, fNotN, zSet, zRet, zRetN, zPut, zDrop, zAsg, zAug, zAugS, getA, getL, asgn, give, fix, fMod, fFdiv, fAdd, fAddI, fSub, fMul, fNeg, fPow, fShl, fShr, fAnd, fOr, fXor, setAt, mutAt, Sl.put, zNext, isRef_eq, rfa, rff, rfo, fLen, fList, fTuple, fMax2, fMin2, fInt1, fSet0, fRev, fSl, ySl, yPart, yNoPart, yMt, yMs, mAppend, mPopAt, mSAdd, isLst, isSet, yRm, isTup, fIndexT, iSq, iEn, iR1, itemsD, gN, gT, gsCons, gsNil, zFor, zBreak, zCont, zRaise, yCall, yCall0, yMake, yCallN, fixM, agsOf, PV.putAll, put1, noRefs, anyP, yYes, fIsi, tyN, isiT, truD, fBits, endsOf, refPos, refsAt, notLoc, okI, okB, okN, eqvI, zForF, fgM, fgS, yTDisp, fStep, zAsg2, zFz, fz, sizeLine_eq, sb, -List.getD_eq_getElem?_getD, -List.filter_eq_nil_iff], ?_⟩
          rw [e5, e3]
          have : (rows.getD (tt.idxOf s) []).all (fun x => decide (x ∈ xs)) = true := by
            rw [List.all_eq_true]
            intro z hz
            have := List.filter_eq_nil_iff.mp c2 z hz
            simpa using this
          simp only [leavesFrom, if_pos this]
        · rw [decide_eq_false c2]
          simp [zIf, yT, yB, yVar, yC, yU, yNot, yAnd, yOr, yAndV, yOrV, yNotV, yTru, yIf, yCh, yF, yNil, yCons, yLst, yTup, yDNew, conts, fixs, cont, hold, asB, fGt, fLt, fLe, fGe, fEq, fI0, fI, fIn, fIsN, fNotN, zSet, zRet, zRetN, zPut, zDrop, zAsg, zAug, zAugS, getA, getL, asgn, give, fix, fMod, fFdiv, fAdd, fAddI, fSub, fMul, fNeg, fPow, fShl, fShr, fAnd, fOr, fXor, setAt, mutAt, Sl.put, zNext, isRef_eq, rfa, rff, rfo, fLen, fList, fTuple, fMax2, fMin2, fInt1, fSet0, fRev, fSl, ySl, yPart, yNoPart, yMt, yMs, mAppend, mPopAt, mSAdd, isLst, isSet, yRm, isTup, fIndexT, iSq, iEn, iR1, itemsD, gN, gT, gsCons, gsNil, zFor, zBreak, zCont, zRaise, yCall, yCall0, yMake, yCallN, fixM, agsOf, PV.putAll, put1, noRefs, anyP, yYes, fIsi, tyN, isiT, truD, fBits, endsOf, refPos, refsAt, notLoc, okI, okB, okN, eqvI, zForF, fgM, fgS, yTDisp, fStep, zAsg2, zFz, fz, sizeLine_eq, sb, -List.getD_eq_getElem?_getD, -List.filter_eq_nil_iff]
          have : ¬ (rows.getD (tt.idxOf s) []).all (fun x => decide (x ∈ xs)) = true := fun z => c2 (by
            rw [List.all_eq_true] at z
            rw [List.filter_eq_nil_iff]
            intro y hy
            have := z y hy
            simpa using this)
          rw [e5, e3] at k
          simp only [leavesFrom, if_neg this] at k
          simpa [fltD] using k
      · rintro ρ ⟨rfl, e5⟩
        refine hN1 _ ?_
        clear hN1 N1
        rw [e5, List.drop_of_length_le (by simp [enumD])] at k
        simp [zIf, yT, yB, yVar, yC, yU, yNot, yAnd, yOr, yAndV, yOrV, yNotV, yTru, yIf, yCh, yF, yNil, yCons, yLst, yTup, yDNew, conts, fixs, cont, hold, asB, fGt, fLt, fLe, fGe, fEq, fNe, fI0, fI, fIn, fIsN, fNotN, zSet, zRet, zRetN, zPut, zDrop, zAsg, zAug, zAugS, getA, getL, asgn, give, fix, fMod, fFdiv, fAdd, fAddI, fSub, fMul, fNeg, fPow, fShl, fShr, fAnd, fOr, fXor, setAt, mutAt, Sl.put, zNext, isRef_eq, rfa, rff, rfo, fLen, fList, fTuple, fMax2, fMin2, fInt1, fSet0, fRev, fSl, ySl, yPart, yNoPart, yMt, yMs, mAppend, mPopAt, mSAdd, isLst, isSet, yRm, isTup, fIndexT, iSq, iEn, iR1, itemsD, gN, gT, gsCons, gsNil, zFor, zBreak, zCont, zRaise, yCall, yCall0, yMake, yCallN, fixM, agsOf, PV.putAll, put1, noRefs, anyP, yYes, fIsi, tyN, isiT, truD, fBits, endsOf, refPos, refsAt, notLoc, okI, okB, okN, eqvI, zForF, fgM, fgS, yTDisp, fStep, zAsg2, zFz, fz, sizeLine_eq, sb, -List.getD_eq_getElem?_getD, -List.filter_eq_nil_iff]
        exact k
  · refine seq_c fun N1 hN1 => ?_
    simp [zIf, yT, yB, yVar, yC, yU, yNot, yAnd, yOr, yAndV, yOrV, yNotV, yTru, yIf, yCh, yF, yNil, yCons, yLst, yTup, yDNew, conts, fixs, cont, hold, asB, fGt, fLt, fLe, fGe, fEq, fNe, fI0, fI, fIn, fIsN, fNotN, zSet, zRet, zRetN, zPut, zDrop, zAsg, zAug, zAugS, getA, getL, asgn, give, fix, fMod, fFdiv, fAdd, fAddI, fSub, fMul, fNeg, fPow, fShl, fShr, fAnd, fOr, fXor, setAt, mutAt, Sl.put, zNext, isRef_eq, rfa, rff, rfo, fLen, fList, fTuple, fMax2, fMin2, fInt1, fSet0, fRev, fSl, ySl, yPart, yNoPart, yMt, yMs, mAppend, mPopAt, mSAdd, isLst, isSet, yRm, isTup, fIndexT, iSq, iEn, iR1, itemsD, gN, gT, gsCons, gsNil, zFor, zBreak, zCont, zRaise, yCall, yCall0, yMake, yCallN, fixM, agsOf, PV.putAll, put1, noRefs, anyP, yYes, fIsi, tyN, isiT, truD, fBits, endsOf, refPos, refsAt, notLoc, okI, okB, okN, eqvI, zForF, fgM, fgS, yTDisp, fStep, zAsg2, zFz, fz, sizeLine_eq, sb, -List.getD_eq_getElem?_getD, -List.filter_eq_nil_iff]
    exact k
  · refine seq_c fun N1 hN1 => ?_
    simp [zIf, yT, yB, yVar, yC, yU, yNot, yAnd, yOr, yAndV, yOrV, yNotV, yTru, yIf, yCh, yF, yNil, yCons, yLst, yTup, yDNew, conts, fixs, cont, hold, asB, fGt, fLt, fLe, fGe, fEq, fNe, fI0, fI, fIn, fIsN, fNotN, zSet, zRet, zRetN, zPut, zDrop, zAsg, zAug, zAugS, getA, getL, asgn, give, fix, fMod, fFdiv, fAdd, fAddI, fSub, fMul, fNeg, fPow, fShl, fShr, fAnd, fOr, fXor, setAt, mutAt, Sl.put, zNext, isRef_eq, rfa, rff, rfo, fLen, fList, fTuple, fMax2, fMin2, fInt1, fSet0, fRev, fSl, ySl, yPart, yNoPart, yMt, yMs, mAppend, mPopAt, mSAdd, isLst, isSet, yRm, isTup, fIndexT, iSq, iEn, iR1, itemsD, gN, gT, gsCons, gsNil, zFor, zBreak, zCont, zRaise, yCall, yCall0, yMake, yCallN, fixM, agsOf, PV.putAll, put1, noRefs, anyP, yYes, fIsi, tyN, isiT, truD, fBits, endsOf, refPos, refsAt, notLoc, okI, okB, okN, eqvI, zForF, fgM, fgS, yTDisp, fStep, zAsg2, zFz, fz, sizeLine_eq, sb, -List.getD_eq_getElem?_getD, -List.filter_eq_nil_iff]
    exact k
  · refine seq_c fun N1 hN1 => ?_
    simp [zIf, yT, yB, yVar, yC, yU, yNot, yAnd, yOr, yAndV, yOrV, yNotV, yTru, yIf, yCh, yF, yNil, yCons, yLst, yTup, yDNew, conts, fixs, cont, hold, asB, fGt, fLt, fLe, fGe, fEq, fNe, fI0, fI, fIn, fIsN, fNotN, zSet, zRet, zRetN, zPut, zDrop, zAsg, zAug, zAugS, getA, getL, asgn, give, fix, fMod, fFdiv, fAdd, fAddI, fSub, fMul, fNeg, fPow, fShl, fShr, fAnd, fOr, fXor, setAt, mutAt, Sl.put, zNext, isRef_eq, rfa, rff, rfo, fLen, fList, fTuple, fMax2, fMin2, fInt1, fSet0, fRev, fSl, ySl, yPart, yNoPart, yMt, yMs, mAppend, mPopAt, mSAdd, isLst, isSet, yRm, isTup, fIndexT, iSq, iEn, iR1, itemsD, gN, gT, gsCons, gsNil, zFor, zBreak, zCont, zRaise, yCall, yCall0, yMake, yCallN, fixM, agsOf, PV.putAll, put1, noRefs, anyP, yYes, fIsi, tyN, isiT, truD, fBits, endsOf, refPos, refsAt, notLoc, okI, okB, okN, eqvI, zForF, fgM, fgS, yTDisp, fStep, zAsg2, zFz, fz, sizeLine_eq, sb, -List.getD_eq_getElem?_getD, -List.filter_eq_nil_iff]
    exact k
end Law
/-! k12: one item changed -/
namespace Law
open PySem PySem.Spec PyProof.Rows L2 PV
theorem cut_drop {xs : List D} {j : Nat} : PV.cutD xs (some (j : Int)) none = xs.drop j := by
  unfold PV.cutD
  rw [HT.sIx_nat, HT.sIx_none]
  rcases Nat.le_total j xs.length with h | h
  · rw [Nat.min_eq_left h, List.take_of_length_le (by simp)]
  · rw [Nat.min_eq_right h, List.drop_of_length_le (Nat.le_refl _), List.drop_of_length_le h]
    simp
theorem cut_drop1 {xs : List D} {j : Nat} : PV.cutD xs (some ((j : Int) + 1)) none = xs.drop (j + 1) := cut_drop (j := j + 1)
theorem cut_mem {xs : List D} {lo hi : Option Int} {x : D} (h : x ∈ PV.cutD xs lo hi) : x ∈ xs := List.mem_of_mem_drop (List.mem_of_mem_take h)
theorem cut_one {xs : List D} {j : Nat} : (PV.cutD xs (some (j : Int)) (some ((j : Int) + 1))).length ≤ 1 := by
  unfold PV.cutD
  rw [HT.sIx_nat, show (j : Int) + 1 = ((j + 1 : Nat) : Int) from by omega, HT.sIx_nat, List.length_take]
  omega
theorem pick8 {r n m : Int} (r0 : 0 ≤ r) (r8 : r < 8) (n0 : 1 ≤ n) (n6 : n ≤ 60) (m0 : 0 ≤ m) (m1 : m < n) : ∃ one, Itm one ∧ ∀ q : R → Prop, q (.dat one) → fIxA (.lst [.int m, .bl true, .int (-1), .int n, .non, .str "0", .lst [.int 0], .bl false]) (.int r) q := by
  rcases (by omega : r = 0 ∨ r = 1 ∨ r = 2 ∨ r = 3 ∨ r = 4 ∨ r = 5 ∨ r = 6 ∨ r = 7) with rfl | rfl | rfl | rfl | rfl | rfl | rfl | rfl
  · exact ⟨_, .inl ⟨m, rfl, by omega, by omega⟩, fun q h => h⟩
  · exact ⟨_, .inr (.inl ⟨true, rfl⟩), fun q h => h⟩
  · exact ⟨_, .inl ⟨-1, rfl, by omega, by omega⟩, fun q h => h⟩
  · exact ⟨_, .inl ⟨n, rfl, by omega, by omega⟩, fun q h => h⟩
  · exact ⟨_, .inr (.inr (.inl rfl)), fun q h => h⟩
  · exact ⟨_, .inr (.inr (.inr (.inl rfl))), fun q h => h⟩
  · exact ⟨_, .inr (.inr (.inr (.inr rfl))), fun q h => h⟩
  · exact ⟨_, .inr (.inl ⟨false, rfl⟩), fun q h => h⟩
theorem pure_law_bent_k12 : ∀ as q e, sp_law_bent_k12 as q e → t_law_bent_k12 (endsOf (refPos 0 as) q e) (entry 6 as) := by
  rintro as q e ⟨a, b, c, n, ds, rfl, n1, n6, hl, hi, k⟩
  show t_law_bent_k12 _ [.ref (wellD a b c), .frz (.tup ds), .frz (.int n), .any, .any, .any]
  have sz := sizeLine_eq
  refine seq_c fun N1 hN1 => ?_
  simp [zIf, yT, yB, yVar, yC, yU, yNot, yAnd, yOr, yAndV, yOrV, yNotV, yTru, yIf, yCh, yF, yNil, yCons, yLst, yTup, yDNew, conts, fixs, cont, hold, asB, fGt, fLt, fLe, fGe, fEq, fNe, fI0, fI, fIn, fIsN, fNotN, zSet, zRet, zRetN, zPut, zDrop, zAsg, zAug, zAugS, getA, getL, asgn, give, fix, fMod, fFdiv, fAdd, fAddI, fSub, fMul, fNeg, fPow, fShl, fShr, fAnd, fOr, fXor, setAt, mutAt, Sl.put, zNext, isRef_eq, rfa, rff, rfo, fLen, fList, fTuple, fMax2, fMin2, fInt1, fSet0, fRev, fSl, ySl, yPart, yNoPart, yMt, yMs, mAppend, mPopAt, mSAdd, isLst, isSet, yRm, isTup, fIndexT, iSq, iEn, iR1, itemsD, gN, gT, gsCons, gsNil, zFor, zBreak, zCont, zRaise, yCall, yCall0, yMake, yCallN, fixM, agsOf, PV.putAll, put1, noRefs, anyP, yYes, fIsi, tyN, isiT, truD, fBits, endsOf, refPos, refsAt, notLoc, okI, okB, okN, eqvI, zForF, fgM, fgS, yTDisp, fStep, zAsg2, zFz, fz, sizeLine_eq, sb, -List.getD_eq_getElem?_getD, -List.filter_eq_nil_iff]
  refine ⟨a, b, c, ds.length + 1, rfl, by omega, by omega, fun r a c r0 r1 => ?_⟩
  obtain ⟨x, rfl⟩ : ∃ x : Nat, r = x := ⟨r.toNat, by omega⟩
  have xl : x ≤ ds.length := by omega
  simp [zIf, yT, yB, yVar, yC, yU, yNot, yAnd, yOr, yAndV, yOrV, yNotV, yTru, yIf, yCh, yF, yNil, yCons, yLst, yTup, yDNew, conts, fixs, cont, hold, asB, fGt, fLt, fLe, fGe, fEq, fNe, fI0, fI, fIn, fIsN, fNotN, zSet, zRet, zRetN, zPut, zDrop, zAsg, zAug, zAugS, getA, getL, asgn, give, fix, fMod, fFdiv, fAdd, fAddI, fSub, fMul, fNeg, fPow, fShl, fShr, fAnd, fOr, fXor, setAt, mutAt, Sl.put, zNext, isRef_eq, rfa, rff, rfo, fLen, fList, fTuple, fMax2, fMin2, fInt1, fSet0, fRev, fSl, ySl, yPart, yNoPart, yMt, yMs, mAppend, mPopAt, mSAdd, isLst, isSet, yRm, isTup, fIndexT, iSq, iEn, iR1, itemsD, gN, gT, gsCons, gsNil, zFor, zBreak, zCont, zRaise, yCall, yCall0, yMake, yCallN, fixM, agsOf, PV.putAll, put1, noRefs, anyP, yYes, fIsi, tyN, isiT, truD, fBits, endsOf, refPos, refsAt, notLoc, okI, okB, okN, eqvI, zForF, fgM, fgS, yTDisp, fStep, zAsg2, zFz, fz, sizeLine_eq, sb, -List.getD_eq_getElem?_getD, -List.filter_eq_nil_iff]
  refine hN1 _ ?_
  clear hN1 N1
  refine seq_c fun N1 hN1 => ?_
  simp [zIf, yT, yB, yVar, yC, yU, yNot, yAnd, yOr, yAndV, yOrV, yNotV, yTru, yIf, yCh, yF, yNil, yCons, yLst, yTup, yDNew, conts, fixs, cont, hold, asB, fGt, fLt, fLe, fGe, fEq, fNe, fI0, fI, fIn, fIsN, fNotN, zSet, zRet, zRetN, zPut, zDrop, zAsg, zAug, zAugS, getA, getL, asgn, give, fix, fMod, fFdiv, fAdd, fAddI, fSub, fMul, fNeg, fPow, fShl, fShr, fAnd, fOr, fXor, setAt, mutAt, Sl.put, zNext, isRef_eq, rfa, rff, rfo, fLen, fList, fTuple, fMax2, fMin2, fInt1, fSet0, fRev, fSl, ySl, yPart, yNoPart, yMt, yMs, mAppend, mPopAt, mSAdd, isLst, isSet, yRm, isTup, fIndexT, iSq, iEn, iR1, itemsD, gN, gT, gsCons, gsNil, zFor, zBreak, zCont, zRaise, yCall, yCall0, yMake, yCallN, fixM, agsOf, PV.putAll, put1, noRefs, anyP, yYes, fIsi, tyN, isiT, truD, fBits, endsOf, refPos, refsAt, notLoc, okI, okB, okN, eqvI, zForF, fgM, fgS, yTDisp, fStep, zAsg2, zFz, fz, sizeLine_eq, sb, -List.getD_eq_getElem?_getD, -List.filter_eq_nil_iff]
  refine ⟨a, b, c, n, rfl, by omega, by omega, fun m a c m0 m1 => ?_⟩
  simp [zIf, yT, yB, yVar, yC, yU, yNot, yAnd, yOr, yAndV, yOrV, yNotV, yTru, yIf, yCh, yF, yNil, yCons, yLst, yTup, yDNew, conts, fixs, cont, hold, asB, fGt, fLt, fLe, fGe, fEq, fNe, fI0, fI, fIn, fIsN, fNotN, zSet, zRet, zRetN, zPut, zDrop, zAsg, zAug, zAugS, getA, getL, asgn, give, fix, fMod, fFdiv, fAdd, fAddI, fSub, fMul, fNeg, fPow, fShl, fShr, fAnd, fOr, fXor, setAt, mutAt, Sl.put, zNext, isRef_eq, rfa, rff, rfo, fLen, fList, fTuple, fMax2, fMin2, fInt1, fSet0, fRev, fSl, ySl, yPart, yNoPart, yMt, yMs, mAppend, mPopAt, mSAdd, isLst, isSet, yRm, isTup, fIndexT, iSq, iEn, iR1, itemsD, gN, gT, gsCons, gsNil, zFor, zBreak, zCont, zRaise, yCall, yCall0, yMake, yCallN, fixM, agsOf, PV.putAll, put1, noRefs, anyP, yYes, fIsi, tyN, isiT, truD, fBits, endsOf, refPos, refsAt, notLoc, okI, okB, okN, eqvI, zForF, fgM, fgS, yTDisp, fStep, zAsg2, zFz, fz, sizeLine_eq, sb, -List.getD_eq_getElem?_getD, -List.filter_eq_nil_iff]
  refine ⟨a, b, c, 8, rfl, by omega, by omega, fun r a c r0 r1 => ?_⟩
  simp [zIf, yT, yB, yVar, yC, yU, yNot, yAnd, yOr, yAndV, yOrV, yNotV, yTru, yIf, yCh, yF, yNil, yCons, yLst, yTup, yDNew, conts, fixs, cont, hold, asB, fGt, fLt, fLe, fGe, fEq, fNe, fI0, fI, fIn, fIsN, fNotN, zSet, zRet, zRetN, zPut, zDrop, zAsg, zAug, zAugS, getA, getL, asgn, give, fix, fMod, fFdiv, fAdd, fAddI, fSub, fMul, fNeg, fPow, fShl, fShr, fAnd, fOr, fXor, setAt, mutAt, Sl.put, zNext, isRef_eq, rfa, rff, rfo, fLen, fList, fTuple, fMax2, fMin2, fInt1, fSet0, fRev, fSl, ySl, yPart, yNoPart, yMt, yMs, mAppend, mPopAt, mSAdd, isLst, isSet, yRm, isTup, fIndexT, iSq, iEn, iR1, itemsD, gN, gT, gsCons, gsNil, zFor, zBreak, zCont, zRaise, yCall, yCall0, yMake, yCallN, fixM, agsOf, PV.putAll, put1, noRefs, anyP, yYes, fIsi, tyN, isiT, truD, fBits, endsOf, refPos, refsAt, notLoc, okI, okB, okN, eqvI, zForF, fgM, fgS, yTDisp, fStep, zAsg2, zFz, fz, sizeLine_eq, sb, -List.getD_eq_getElem?_getD, -List.filter_eq_nil_iff]
  obtain ⟨one, h1, h2⟩ := pick8 r0 r1 n1 n6 m0 m1
  refine h2 _ ?_
  simp [zIf, yT, yB, yVar, yC, yU, yNot, yAnd, yOr, yAndV, yOrV, yNotV, yTru, yIf, yCh, yF, yNil, yCons, yLst, yTup, yDNew, conts, fixs, cont, hold, asB, fGt, fLt, fLe, fGe, fEq, fNe, fI0, fI, fIn, fIsN, fNotN, zSet, zRet, zRetN, zPut, zDrop, zAsg, zAug, zAugS, getA, getL, asgn, give, fix, fMod, fFdiv, fAdd, fAddI, fSub, fMul, fNeg, fPow, fShl, fShr, fAnd, fOr, fXor, setAt, mutAt, Sl.put, zNext, isRef_eq, rfa, rff, rfo, fLen, fList, fTuple, fMax2, fMin2, fInt1, fSet0, fRev, fSl, ySl, yPart, yNoPart, yMt, yMs, mAppend, mPopAt, mSAdd, isLst, isSet, yRm, isTup, fIndexT, iSq, iEn, iR1, itemsD, gN, gT, gsCons, gsNil, zFor, zBreak, zCont, zRaise, yCall, yCall0, yMake, yCallN, fixM, agsOf, PV.putAll, put1, noRefs, anyP, yYes, fIsi, tyN, isiT, truD, fBits, endsOf, refPos, refsAt, notLoc, okI, okB, okN, eqvI, zForF, fgM, fgS, yTDisp, fStep, zAsg2, zFz, fz, sizeLine_eq, sb, -List.getD_eq_getElem?_getD, -List.filter_eq_nil_iff]
  refine hN1 _ ?_
  clear hN1 N1
  refine seq_c fun N1 hN1 => ?_
  simp [zIf, yT, yB, yVar, yC, yU, yNot, yAnd, yOr, yAndV, yOrV, yNotV, yTru, yIf, yCh, yF, yNil, yCons, yLst, yTup, yDNew, conts, fixs, cont, hold, asB, fGt, fLt, fLe, fGe, fEq, fNe, fI0, fI, fIn, fIsN, fNotN, zSet, zRet, zRetN, zPut, zDrop, zAsg, zAug, zAugS, getA, getL, asgn, give, fix, fMod, fFdiv, fAdd, fAddI, fSub, fMul, fNeg, fPow, fShl, fShr, fAnd, fOr, fXor, setAt, mutAt, Sl.put, zNext, isRef_eq, rfa, rff, rfo, fLen, fList, fTuple, fMax2, fMin2, fInt1, fSet0, fRev, fSl, ySl, yPart, yNoPart, yMt, yMs, mAppend, mPopAt, mSAdd, isLst, isSet, yRm, isTup, fIndexT, iSq, iEn, iR1, itemsD, gN, gT, gsCons, gsNil, zFor, zBreak, zCont, zRaise, yCall, yCall0, yMake, yCallN, fixM, agsOf, PV.putAll, put1, noRefs, anyP, yYes, fIsi, tyN, isiT, truD, fBits, endsOf, refPos, refsAt, notLoc, okI, okB, okN, eqvI, zForF, fgM, fgS, yTDisp, fStep, zAsg2, zFz, fz, sizeLine_eq, sb, -List.getD_eq_getElem?_getD, -List.filter_eq_nil_iff]
  refine ⟨a, b, c, 4, rfl, by omega, by omega, fun w a c w0 w1 => ?_⟩
  simp [zIf, yT, yB, yVar, yC, yU, yNot, yAnd, yOr, yAndV, yOrV, yNotV, yTru, yIf, yCh, yF, yNil, yCons, yLst, yTup, yDNew, conts, fixs, cont, hold, asB, fGt, fLt, fLe, fGe, fEq, fNe, fI0, fI, fIn, fIsN, fNotN, zSet, zRet, zRetN, zPut, zDrop, zAsg, zAug, zAugS, getA, getL, asgn, give, fix, fMod, fFdiv, fAdd, fAddI, fSub, fMul, fNeg, fPow, fShl, fShr, fAnd, fOr, fXor, setAt, mutAt, Sl.put, zNext, isRef_eq, rfa, rff, rfo, fLen, fList, fTuple, fMax2, fMin2, fInt1, fSet0, fRev, fSl, ySl, yPart, yNoPart, yMt, yMs, mAppend, mPopAt, mSAdd, isLst, isSet, yRm, isTup, fIndexT, iSq, iEn, iR1, itemsD, gN, gT, gsCons, gsNil, zFor, zBreak, zCont, zRaise, yCall, yCall0, yMake, yCallN, fixM, agsOf, PV.putAll, put1, noRefs, anyP, yYes, fIsi, tyN, isiT, truD, fBits, endsOf, refPos, refsAt, notLoc, okI, okB, okN, eqvI, zForF, fgM, fgS, yTDisp, fStep, zAsg2, zFz, fz, sizeLine_eq, sb, -List.getD_eq_getElem?_getD, -List.filter_eq_nil_iff]
  refine hN1 _ ?_
  clear hN1 N1
  have tk1 : PV.cutD ds none (some (x : Int)) = ds.take x := cut_take xl
  by_cases z0 : w = 0
  · subst z0
    refine seq_c fun N1 hN1 => ?_
    simp [zIf, yT, yB, yVar, yC, yU, yNot, yAnd, yOr, yAndV, yOrV, yNotV, yTru, yIf, yCh, yF, yNil, yCons, yLst, yTup, yDNew, conts, fixs, cont, hold, asB, fGt, fLt, fLe, fGe, fEq, fNe, fI0, fI, fIn, fIsN, fNotN, zSet, zRet, zRetN, zPut, zDrop, zAsg, zAug, zAugS, getA, getL, asgn, give, fix, fMod, fFdiv, fAdd, fAddI, fSub, fMul, fNeg, fPow, fShl, fShr, fAnd, fOr, fXor, setAt, mutAt, Sl.put, zNext, isRef_eq, rfa, rff, rfo, fLen, fList, fTuple, fMax2, fMin2, fInt1, fSet0, fRev, fSl, ySl, yPart, yNoPart, yMt, yMs, mAppend, mPopAt, mSAdd, isLst, isSet, yRm, isTup, fIndexT, iSq, iEn, iR1, itemsD, gN, gT, gsCons, gsNil, zFor, zBreak, zCont, zRaise, yCall, yCall0, yMake, yCallN, fixM, agsOf, PV.putAll, put1, noRefs, anyP, yYes, fIsi, tyN, isiT, truD, fBits, endsOf, refPos, refsAt, notLoc, okI, okB, okN, eqvI, zForF, fgM, fgS, yTDisp, fStep, zAsg2, zFz, fz, sizeLine_eq, sb, -List.getD_eq_getElem?_getD, -List.filter_eq_nil_iff, cut_drop1, tk1]
    refine ⟨by omega, ?_⟩
    refine k _ a c (by simp; omega) fun d hd => ?_
    rcases List.mem_append.mp hd with h | h
    · exact hi d (List.mem_of_mem_take h)
    · exact hi d (List.mem_of_mem_drop h)
  · by_cases z1 : w = 1
    · subst z1
      refine seq_c fun N1 hN1 => ?_
      simp [zIf, yT, yB, yVar, yC, yU, yNot, yAnd, yOr, yAndV, yOrV, yNotV, yTru, yIf, yCh, yF, yNil, yCons, yLst, yTup, yDNew, conts, fixs, cont, hold, asB, fGt, fLt, fLe, fGe, fEq, fNe, fI0, fI, fIn, fIsN, fNotN, zSet, zRet, zRetN, zPut, zDrop, zAsg, zAug, zAugS, getA, getL, asgn, give, fix, fMod, fFdiv, fAdd, fAddI, fSub, fMul, fNeg, fPow, fShl, fShr, fAnd, fOr, fXor, setAt, mutAt, Sl.put, zNext, isRef_eq, rfa, rff, rfo, fLen, fList, fTuple, fMax2, fMin2, fInt1, fSet0, fRev, fSl, ySl, yPart, yNoPart, yMt, yMs, mAppend, mPopAt, mSAdd, isLst, isSet, yRm, isTup, fIndexT, iSq, iEn, iR1, itemsD, gN, gT, gsCons, gsNil, zFor, zBreak, zCont, zRaise, yCall, yCall0, yMake, yCallN, fixM, agsOf, PV.putAll, put1, noRefs, anyP, yYes, fIsi, tyN, isiT, truD, fBits, endsOf, refPos, refsAt, notLoc, okI, okB, okN, eqvI, zForF, fgM, fgS, yTDisp, fStep, zAsg2, zFz, fz, sizeLine_eq, sb, -List.getD_eq_getElem?_getD, -List.filter_eq_nil_iff]
      refine hN1 _ ?_
      clear hN1 N1
      refine seq_c fun N1 hN1 => ?_
      have h1 : (PV.cutD ds (some (x : Int)) (some ((x : Int) + 1))).length ≤ 1 := cut_one
      have h2 : ∀ d ∈ PV.cutD ds (some (x : Int)) (some ((x : Int) + 1)), d ∈ ds := fun d h => cut_mem h
      simp [zIf, yT, yB, yVar, yC, yU, yNot, yAnd, yOr, yAndV, yOrV, yNotV, yTru, yIf, yCh, yF, yNil, yCons, yLst, yTup, yDNew, conts, fixs, cont, hold, asB, fGt, fLt, fLe, fGe, fEq, fNe, fI0, fI, fIn, fIsN, fNotN, zSet, zRet, zRetN, zPut, zDrop, zAsg, zAug, zAugS, getA, getL, asgn, give, fix, fMod, fFdiv, fAdd, fAddI, fSub, fMul, fNeg, fPow, fShl, fShr, fAnd, fOr, fXor, setAt, mutAt, Sl.put, zNext, isRef_eq, rfa, rff, rfo, fLen, fList, fTuple, fMax2, fMin2, fInt1, fSet0, fRev, fSl, ySl, yPart, yNoPart, yMt, yMs, mAppend, mPopAt, mSAdd, isLst, isSet, yRm, isTup, fIndexT, iSq, iEn, iR1, itemsD, gN, gT, gsCons, gsNil, zFor, zBreak, zCont, zRaise, yCall, yCall0, yMake, yCallN, fixM, agsOf, PV.putAll, put1, noRefs, anyP, yYes, fIsi, tyN, isiT, truD, fBits, endsOf, refPos, refsAt, notLoc, okI, okB, okN, eqvI, zForF, fgM, fgS, yTDisp, fStep, zAsg2, zFz, fz, sizeLine_eq, sb, -List.getD_eq_getElem?_getD, -List.filter_eq_nil_iff, cut_drop, tk1]
      generalize PV.cutD ds (some (x : Int)) (some ((x : Int) + 1)) = ms at *
      refine ⟨by omega, by omega, ?_⟩
      refine k _ a c (by simp; omega) fun d hd => ?_
      simp at hd
      rcases hd with h | h | h
      · exact hi d (List.mem_of_mem_take h)
      · exact hi d (h2 d h)
      · exact hi d (List.mem_of_mem_drop h)
    · refine seq_c fun N1 hN1 => ?_
      simp [zIf, yT, yB, yVar, yC, yU, yNot, yAnd, yOr, yAndV, yOrV, yNotV, yTru, yIf, yCh, yF, yNil, yCons, yLst, yTup, yDNew, conts, fixs, cont, hold, asB, fGt, fLt, fLe, fGe, fEq, fNe, fI0, fI, fIn, fIsN, fNotN, zSet, zRet, zRetN, zPut, zDrop, zAsg, zAug, zAugS, getA, getL, asgn, give, fix, fMod, fFdiv, fAdd, fAddI, fSub, fMul, fNeg, fPow, fShl, fShr, fAnd, fOr, fXor, setAt, mutAt, Sl.put, zNext, isRef_eq, rfa, rff, rfo, fLen, fList, fTuple, fMax2, fMin2, fInt1, fSet0, fRev, fSl, ySl, yPart, yNoPart, yMt, yMs, mAppend, mPopAt, mSAdd, isLst, isSet, yRm, isTup, fIndexT, iSq, iEn, iR1, itemsD, gN, gT, gsCons, gsNil, zFor, zBreak, zCont, zRaise, yCall, yCall0, yMake, yCallN, fixM, agsOf, PV.putAll, put1, noRefs, anyP, yYes, fIsi, tyN, isiT, truD, fBits, endsOf, refPos, refsAt, notLoc, okI, okB, okN, eqvI, zForF, fgM, fgS, yTDisp, fStep, zAsg2, zFz, fz, sizeLine_eq, sb, -List.getD_eq_getElem?_getD, -List.filter_eq_nil_iff, z0]
      refine hN1 _ ?_
      clear hN1 N1
      refine seq_c fun N1 hN1 => ?_
      simp [zIf, yT, yB, yVar, yC, yU, yNot, yAnd, yOr, yAndV, yOrV, yNotV, yTru, yIf, yCh, yF, yNil, yCons, yLst, yTup, yDNew, conts, fixs, cont, hold, asB, fGt, fLt, fLe, fGe, fEq, fNe, fI0, fI, fIn, fIsN, fNotN, zSet, zRet, zRetN, zPut, zDrop, zAsg, zAug, zAugS, getA, getL, asgn, give, fix, fMod, fFdiv, fAdd, fAddI, fSub, fMul, fNeg, fPow, fShl, fShr, fAnd, fOr, fXor, setAt, mutAt, Sl.put, zNext, isRef_eq, rfa, rff, rfo, fLen, fList, fTuple, fMax2, fMin2, fInt1, fSet0, fRev, fSl, ySl, yPart, yNoPart, yMt, yMs, mAppend, mPopAt, mSAdd, isLst, isSet, yRm, isTup, fIndexT, iSq, iEn, iR1, itemsD, gN, gT, gsCons, gsNil, zFor, zBreak, zCont, zRaise, yCall, yCall0, yMake, yCallN, fixM, agsOf, PV.putAll, put1, noRefs, anyP, yYes, fIsi, tyN, isiT, truD, fBits, endsOf, refPos, refsAt, notLoc, okI, okB, okN, eqvI, zForF, fgM, fgS, yTDisp, fStep, zAsg2, zFz, fz, sizeLine_eq, sb, -List.getD_eq_getElem?_getD, -List.filter_eq_nil_iff, z1]
      refine hN1 _ ?_
      clear hN1 N1
      have hr : ∃ ms : List D, PV.cutD ds (some ((x : Int) + if w = 3 then 1 else 0)) none = ms ∧ ms.length + x ≤ ds.length ∧ ∀ d ∈ ms, d ∈ ds := by
        by_cases z3 : w = 3
        · rw [if_pos z3, cut_drop1]
          refine ⟨_, rfl, ?_, fun d h => List.mem_of_mem_drop h⟩
          rw [List.length_drop]
          omega
        · rw [if_neg z3, Int.add_zero, cut_drop]
          refine ⟨_, rfl, ?_, fun d h => List.mem_of_mem_drop h⟩
          rw [List.length_drop]
          omega
      obtain ⟨ms, em, h1, h2⟩ := hr
      simp [zIf, yT, yB, yVar, yC, yU, yNot, yAnd, yOr, yAndV, yOrV, yNotV, yTru, yIf, yCh, yF, yNil, yCons, yLst, yTup, yDNew, conts, fixs, cont, hold, asB, fGt, fLt, fLe, fGe, fEq, fNe, fI0, fI, fIn, fIsN, fNotN, zSet, zRet, zRetN, zPut, zDrop, zAsg, zAug, zAugS, getA, getL, asgn, give, fix, fMod, fFdiv, fAdd, fAddI, fSub, fMul, fNeg, fPow, fShl, fShr, fAnd, fOr, fXor, setAt, mutAt, Sl.put, zNext, isRef_eq, rfa, rff, rfo, fLen, fList, fTuple, fMax2, fMin2, fInt1, fSet0, fRev, fSl, ySl, yPart, yNoPart, yMt, yMs, mAppend, mPopAt, mSAdd, isLst, isSet, yRm, isTup, fIndexT, iSq, iEn, iR1, itemsD, gN, gT, gsCons, gsNil, zFor, zBreak, zCont, zRaise, yCall, yCall0, yMake, yCallN, fixM, agsOf, PV.putAll, put1, noRefs, anyP, yYes, fIsi, tyN, isiT, truD, fBits, endsOf, refPos, refsAt, notLoc, okI, okB, okN, eqvI, zForF, fgM, fgS, yTDisp, fStep, zAsg2, zFz, fz, sizeLine_eq, sb, -List.getD_eq_getElem?_getD, -List.filter_eq_nil_iff, tk1, em]
      refine ⟨by omega, by omega, ?_⟩
      refine k _ a c (by simp; omega) fun d hd => ?_
      simp at hd
      rcases hd with h | rfl | h
      · exact hi d (List.mem_of_mem_take h)
      · assumption
      · exact hi d (h2 d h)
end Law
/-! ## how long a repr is, and that it is a text -/
namespace PV
open PySem PySem.Spec PyProof.Rows L2
/-- a text of at most k characters -/
def TxtOk (k : Nat) (x : Str) : Prop := PyData.strOk x = true ∧ x.length ≤ k
theorem len_app (a b : Str) : (a ++ b).length = a.length + b.length := by
  show (a.cps ++ b.cps).size = a.cps.size + b.cps.size
  exact Array.size_append
theorem txt_app {j k : Nat} {a b : Str} (ha : TxtOk j a) (hb : TxtOk k b) : TxtOk (j + k) (a ++ b) := by
  refine ⟨?_, by rw [len_app]; have := ha.2; have := hb.2; omega⟩
  have h1 := ha.1
  have h2 := hb.1
  unfold PyData.strOk at *
  show (a.cps ++ b.cps).all _ = true
  rw [Array.all_append, h1, h2]
  rfl
theorem TxtOk.mono {j k : Nat} {a : Str} (h : TxtOk j a) (l : j ≤ k) : TxtOk k a := ⟨h.1, Nat.le_trans h.2 l⟩
theorem txt_join {k : Nat} : ∀ ts : List Str, (∀ t ∈ ts, TxtOk k t) → TxtOk (ts.length * (k + 2)) (Str.join ", " ts)
  | [], _ => ⟨by decide +kernel, by have e : (Str.join ", " []).length = 0 := by decide +kernel
                                    omega⟩
  | [x], h => ((h x (by simp)).mono (by simp))
  | x :: y :: r, h => by
    have ih := txt_join (y :: r) fun t ht => h t (List.mem_cons_of_mem _ ht)
    have h1 := h x (by simp)
    have h2 : TxtOk 2 ((", " : String) : Str) := ⟨by decide +kernel, by decide +kernel⟩
    show TxtOk _ (x ++ ", " ++ Str.join ", " (y :: r))
    refine (txt_app (txt_app h1 h2) ih).mono ?_
    simp only [List.length_cons, Nat.add_mul]
    omega
theorem txt_tuple {k : Nat} {ts : List Str} (h : ∀ t ∈ ts, TxtOk k t) : TxtOk (ts.length * (k + 2) + 3) (tupleText ts) := by
  unfold tupleText
  have h1 : TxtOk 1 (("(" : String) : Str) := ⟨by decide +kernel, by decide +kernel⟩
  have h2 : TxtOk 2 ((if ts.length == 1 then ",)" else ")" : String) : Str) := by
    split
    · exact ⟨by decide +kernel, by decide +kernel⟩
    · exact ⟨by decide +kernel, by decide +kernel⟩
  exact (txt_app (txt_app h1 (txt_join ts h)) h2).mono (by omega)
theorem txt_from {k : Nat} : ∀ (ts : List Str) (i j : Nat) (acc : Str), TxtOk j acc → (∀ t ∈ ts, TxtOk k t) → TxtOk (j + ts.length * (k + 2)) (textFrom i acc ts)
  | [], i, j, acc, h, _ => by
    show TxtOk _ acc
    exact h.mono (by simp)
  | t :: r, i, j, acc, h, ht => by
    have h2 : TxtOk 2 ((if i > 0 then ", " else "" : String) : Str) := by
      split
      · exact ⟨by decide +kernel, by decide +kernel⟩
      · exact ⟨by decide +kernel, by decide +kernel⟩
    have := txt_from r (i + 1) (j + 2 + k) (acc ++ ((if i > 0 then ", " else "" : String) : Str) ++ t) (txt_app (txt_app h h2) (ht t (by simp))) fun u hu => ht u (List.mem_cons_of_mem _ hu)
    show TxtOk _ (textFrom (i + 1) (acc ++ ((if i > 0 then ", " else "" : String) : Str) ++ t) r)
    refine this.mono ?_
    simp only [List.length_cons, Nat.add_mul]
    omega
theorem txt_list {k : Nat} {ts : List Str} (h : ∀ t ∈ ts, TxtOk k t) : TxtOk (ts.length * (k + 2) + 2) (listText ts) := by
  have h1 : TxtOk 1 (("[" : String) : Str) := ⟨by decide +kernel, by decide +kernel⟩
  have h2 : TxtOk 1 (("]" : String) : Str) := ⟨by decide +kernel, by decide +kernel⟩
  unfold listText
  exact (txt_app (txt_from ts 0 1 _ h1 h) h2).mono (by omega)
end PV
/-! k12: the law -/
namespace Law
open PySem PySem.Spec PyProof.Rows L2 PV
theorem int_txt {i : Int} (h0 : -1 ≤ i) (h1 : i ≤ 60) : TxtOk 8 (PyData.shown (.int i)) := by
  have all : ∀ j < 62, (PyData.strOk (PyData.shown (.int (((j : Nat) : Int) - 1))) && decide ((PyData.shown (.int (((j : Nat) : Int) - 1))).length ≤ 8)) = true := by decide +kernel
  have := all (i + 1).toNat (by omega)
  rw [show (((i + 1).toNat : Nat) : Int) - 1 = i by omega] at this
  simp only [Bool.and_eq_true, decide_eq_true_eq] at this
  exact this
/-- what repr asks of data -/
structure Shw (k : Nat) (d : D) : Prop where
  lay : d.py.canLay0 = true
  dep : d.py.depth ≤ 1
  shw : d.py.showable = true
  txt : TxtOk k d.py.shown
theorem shw_int {i : Int} (h0 : -1 ≤ i) (h1 : i ≤ 60) : Shw 8 (.int i) := by
  refine ⟨by simp only [D.py, PyData.canLay0], by simp [D.py, PyData.depth], ?_, by simpa only [D.py] using int_txt h0 h1⟩
  simp only [D.py, PyData.showable]
  have all : ∀ j < 62, decide ((((j : Nat) : Int) - 1).natAbs.log2 < 1920) = true := by decide +kernel
  have := all (i + 1).toNat (by omega)
  rwa [show (((i + 1).toNat : Nat) : Int) - 1 = i by omega] at this
theorem shw_itm {d : D} (h : Itm d) : Shw 8 d := by
  rcases h with ⟨i, rfl, h0, h1⟩ | ⟨b, rfl⟩ | rfl | rfl | rfl
  · exact shw_int h0 h1
  · cases b
    · exact ⟨by decide +kernel, by decide +kernel, by decide +kernel, by decide +kernel, by decide +kernel⟩
    · exact ⟨by decide +kernel, by decide +kernel, by decide +kernel, by decide +kernel, by decide +kernel⟩
  · exact ⟨by decide +kernel, by decide +kernel, by decide +kernel, by decide +kernel, by decide +kernel⟩
  · exact ⟨by decide +kernel, by decide +kernel, by decide +kernel, by decide +kernel, by decide +kernel⟩
  · exact ⟨by decide +kernel, by decide +kernel, by decide +kernel, by decide +kernel, by decide +kernel⟩
theorem shw_all {k : Nat} : ∀ {ds : List D}, (∀ d ∈ ds, Shw k d) → PyData.canLayAll0 (D.pys ds) = true ∧ PyData.depthAll (D.pys ds) ≤ 1 ∧ PyData.showableAll (D.pys ds) = true ∧ (∀ t ∈ PyData.shownAll (D.pys ds), TxtOk k t) ∧ (PyData.shownAll (D.pys ds)).length = ds.length
  | [], _ => by simp [D.pys, PyData.canLayAll0, PyData.depthAll, PyData.showableAll, PyData.shownAll]
  | d :: r, h => by
    obtain ⟨a1, a2, a3, a4, a5⟩ := shw_all (ds := r) fun x hx => h x (List.mem_cons_of_mem _ hx)
    have s := h d (by simp)
    refine ⟨by simp [D.pys, PyData.canLayAll0, s.lay, a1], by simp only [D.pys, PyData.depthAll]; have := s.dep; omega, by simp [D.pys, PyData.showableAll, s.shw, a3], fun t ht => ?_, by simp [D.pys, PyData.shownAll, a5]⟩
    simp only [D.pys, PyData.shownAll, List.mem_cons] at ht
    rcases ht with rfl | ht
    · exact s.txt
    · exact a4 t ht
theorem askd_shw {d : D} (h : Askd d) : d.ok ∧ d.py.showable = true ∧ TxtOk 2000 d.py.shown := by
  have lists : ∀ ds : List D, (∀ x ∈ ds, Shw 8 x) → ds.length ≤ 100 → ((D.tup ds).ok ∧ (D.tup ds).py.showable = true ∧ TxtOk 2000 (D.tup ds).py.shown) ∧ ((D.lst ds).ok ∧ (D.lst ds).py.showable = true ∧ TxtOk 2000 (D.lst ds).py.shown) := by
    intro ds hs hl
    obtain ⟨a1, a2, a3, a4, a5⟩ := shw_all hs
    have t1 := txt_tuple a4
    have t2 := txt_list a4
    rw [a5] at t1 t2
    refine ⟨⟨?_, ?_, ?_⟩, ?_, ?_, ?_⟩
    · show SeqAt.shaped _ = true
      simp only [SeqAt.shaped, D.py, PyData.canLay0, PyData.depth, a1, Bool.true_and, decide_eq_true_eq]
      omega
    · simpa only [D.py, PyData.showable] using a3
    · simp only [D.py, PyData.shown]
      exact t1.mono (by omega)
    · show SeqAt.shaped _ = true
      simp only [SeqAt.shaped, D.py, PyData.canLay0, PyData.depth, a1, Bool.true_and, decide_eq_true_eq]
      omega
    · simpa only [D.py, PyData.showable] using a3
    · simp only [D.py, PyData.shown]
      exact t2.mono (by omega)
  have one : ∀ x : D, Shw 8 x → x.ok ∧ x.py.showable = true ∧ TxtOk 2000 x.py.shown := fun x s => ⟨by
    show SeqAt.shaped _ = true
    have := s.dep
    simp only [SeqAt.shaped, s.lay, Bool.true_and, decide_eq_true_eq]
    omega, s.shw, s.txt.mono (by omega)⟩
  rcases h with ⟨ds, rfl, hl, hi⟩ | ⟨l, rfl, hl, hi⟩ | rfl | rfl
  · exact (lists ds (fun x hx => shw_itm (hi x hx)) hl).1
  · exact (lists _ (fun x hx => by
      obtain ⟨i, h, rfl⟩ := List.mem_map.mp hx
      exact shw_int (hi i h).1 (hi i h).2) (by simpa using hl)).2
  · exact one _ (shw_itm (.inr (.inr (.inl rfl))))
  · exact one _ (shw_int (by omega) (by omega))
theorem repr_askd {d : D} (h : Askd d) {q : R → Prop} : fRepr [d] q = q (.dat (.str d.py.shown)) := by
  obtain ⟨h1, h2, h3⟩ := askd_shw h
  exact propext ⟨fun ⟨d', e, _, _, _, z⟩ => by cases e; exact z, fun z => ⟨d, rfl, h1, h2, by have := h3.2; have := sizeLine_eq; omega, z⟩⟩
theorem itms_ints {l : List Int} (h : ∀ s ∈ l, 0 ≤ s ∧ s < 61) : ItmL (l.map D.int) := fun d hd => by
  obtain ⟨i, hi, rfl⟩ := List.mem_map.mp hd
  exact .inl ⟨i, rfl, by have := h i hi; omega, by have := h i hi; omega⟩
theorem neFlt {o : Option Int} {q : R → Prop} : fNe (fltD o) (fltD o) q = q (.dat (.bl false)) := by
  cases o with
  | none => exact nePn (k := 0) (.non _) (by omega)
  | some i => exact nePn (k := 0) (.int _ _) (by omega)
theorem pure_law_right_k12 : ∀ as q e, sp_law_right_k12 as q e → t_law_right_k12 (endsOf (refPos 0 as) q e) (entry 12 as) := by
  rintro as q e ⟨a, b, c, rfl, k⟩
  show t_law_right_k12 _ [.ref (wellD a b c), .any, .any, .any, .any, .any, .any, .any, .any, .any, .any, .any]
  have sz := sizeLine_eq
  refine seq_c fun N1 hN1 => ?_
  simp [zIf, yT, yB, yVar, yC, yU, yNot, yAnd, yOr, yAndV, yOrV, yNotV, yTru, yIf, yCh, yF, yNil, yCons, yLst, yTup, yDNew, conts, fixs, cont, hold, asB, fGt, fLt, fLe, fGe, fEq, fNe, fI0, fI, fIn, fIsN, fNotN, zSet, zRet, zRetN, zPut, zDrop, zAsg, zAug, zAugS, getA, getL, asgn, give, fix, fMod, fFdiv, fAdd, fAddI, fSub, fMul, fNeg, fPow, fShl, fShr, fAnd, fOr, fXor, setAt, mutAt, Sl.put, zNext, isRef_eq, rfa, rff, rfo, fLen, fList, fTuple, fMax2, fMin2, fInt1, fSet0, fRev, fSl, ySl, yPart, yNoPart, yMt, yMs, mAppend, mPopAt, mSAdd, isLst, isSet, yRm, isTup, fIndexT, iSq, iEn, iR1, itemsD, gN, gT, gsCons, gsNil, zFor, zBreak, zCont, zRaise, yCall, yCall0, yMake, yCallN, fixM, agsOf, PV.putAll, put1, noRefs, anyP, yYes, fIsi, tyN, isiT, truD, fBits, endsOf, refPos, refsAt, notLoc, okI, okB, okN, eqvI, zForF, fgM, fgS, yTDisp, fStep, zAsg2, zFz, fz, sizeLine_eq, sb, -List.getD_eq_getElem?_getD, -List.filter_eq_nil_iff]
  refine ⟨a, b, c, 4, rfl, by omega, by omega, fun r a c r0 r1 => ?_⟩
  simp [zIf, yT, yB, yVar, yC, yU, yNot, yAnd, yOr, yAndV, yOrV, yNotV, yTru, yIf, yCh, yF, yNil, yCons, yLst, yTup, yDNew, conts, fixs, cont, hold, asB, fGt, fLt, fLe, fGe, fEq, fNe, fI0, fI, fIn, fIsN, fNotN, zSet, zRet, zRetN, zPut, zDrop, zAsg, zAug, zAugS, getA, getL, asgn, give, fix, fMod, fFdiv, fAdd, fAddI, fSub, fMul, fNeg, fPow, fShl, fShr, fAnd, fOr, fXor, setAt, mutAt, Sl.put, zNext, isRef_eq, rfa, rff, rfo, fLen, fList, fTuple, fMax2, fMin2, fInt1, fSet0, fRev, fSl, ySl, yPart, yNoPart, yMt, yMs, mAppend, mPopAt, mSAdd, isLst, isSet, yRm, isTup, fIndexT, iSq, iEn, iR1, itemsD, gN, gT, gsCons, gsNil, zFor, zBreak, zCont, zRaise, yCall, yCall0, yMake, yCallN, fixM, agsOf, PV.putAll, put1, noRefs, anyP, yYes, fIsi, tyN, isiT, truD, fBits, endsOf, refPos, refsAt, notLoc, okI, okB, okN, eqvI, zForF, fgM, fgS, yTDisp, fStep, zAsg2, zFz, fz, sizeLine_eq, sb, -List.getD_eq_getElem?_getD, -List.filter_eq_nil_iff]
  have pick : ∃ m : Int, 1 ≤ m ∧ m ≤ 60 ∧ ∀ q : R → Prop, q (.dat (.int m)) → fIxA (.lst [.int 10, .int 10, .int 10, .int 60]) (.int r) q := by
    rcases (by omega : r = 0 ∨ r = 1 ∨ r = 2 ∨ r = 3) with rfl | rfl | rfl | rfl
    · exact ⟨10, by omega, by omega, fun q h => h⟩
    · exact ⟨10, by omega, by omega, fun q h => h⟩
    · exact ⟨10, by omega, by omega, fun q h => h⟩
    · exact ⟨60, by omega, by omega, fun q h => h⟩
  obtain ⟨m, m1, m6, pk⟩ := pick
  refine pk _ ?_
  simp [zIf, yT, yB, yVar, yC, yU, yNot, yAnd, yOr, yAndV, yOrV, yNotV, yTru, yIf, yCh, yF, yNil, yCons, yLst, yTup, yDNew, conts, fixs, cont, hold, asB, fGt, fLt, fLe, fGe, fEq, fNe, fI0, fI, fIn, fIsN, fNotN, zSet, zRet, zRetN, zPut, zDrop, zAsg, zAug, zAugS, getA, getL, asgn, give, fix, fMod, fFdiv, fAdd, fAddI, fSub, fMul, fNeg, fPow, fShl, fShr, fAnd, fOr, fXor, setAt, mutAt, Sl.put, zNext, isRef_eq, rfa, rff, rfo, fLen, fList, fTuple, fMax2, fMin2, fInt1, fSet0, fRev, fSl, ySl, yPart, yNoPart, yMt, yMs, mAppend, mPopAt, mSAdd, isLst, isSet, yRm, isTup, fIndexT, iSq, iEn, iR1, itemsD, gN, gT, gsCons, gsNil, zFor, zBreak, zCont, zRaise, yCall, yCall0, yMake, yCallN, fixM, agsOf, PV.putAll, put1, noRefs, anyP, yYes, fIsi, tyN, isiT, truD, fBits, endsOf, refPos, refsAt, notLoc, okI, okB, okN, eqvI, zForF, fgM, fgS, yTDisp, fStep, zAsg2, zFz, fz, sizeLine_eq, sb, -List.getD_eq_getElem?_getD, -List.filter_eq_nil_iff]
  refine ⟨a, b, c, m, rfl, m1, m6, fun n rows tt a c ok tk nm => ?_⟩
  simp [zIf, yT, yB, yVar, yC, yU, yNot, yAnd, yOr, yAndV, yOrV, yNotV, yTru, yIf, yCh, yF, yNil, yCons, yLst, yTup, yDNew, conts, fixs, cont, hold, asB, fGt, fLt, fLe, fGe, fEq, fNe, fI0, fI, fIn, fIsN, fNotN, zSet, zRet, zRetN, zPut, zDrop, zAsg, zAug, zAugS, getA, getL, asgn, give, fix, fMod, fFdiv, fAdd, fAddI, fSub, fMul, fNeg, fPow, fShl, fShr, fAnd, fOr, fXor, setAt, mutAt, Sl.put, zNext, isRef_eq, rfa, rff, rfo, fLen, fList, fTuple, fMax2, fMin2, fInt1, fSet0, fRev, fSl, ySl, yPart, yNoPart, yMt, yMs, mAppend, mPopAt, mSAdd, isLst, isSet, yRm, isTup, fIndexT, iSq, iEn, iR1, itemsD, gN, gT, gsCons, gsNil, zFor, zBreak, zCont, zRaise, yCall, yCall0, yMake, yCallN, fixM, agsOf, PV.putAll, put1, noRefs, anyP, yYes, fIsi, tyN, isiT, truD, fBits, endsOf, refPos, refsAt, notLoc, okI, okB, okN, eqvI, zForF, fgM, fgS, yTDisp, fStep, zAsg2, zFz, fz, sizeLine_eq, sb, -List.getD_eq_getElem?_getD, -List.filter_eq_nil_iff]
  refine hN1 _ ?_
  clear hN1 N1
  have n1 := ok.n1
  have rl := ok.len
  have tl := tk.len
  have n6 : n ≤ 60 := ok.n60
  refine seq_c fun N1 hN1 => ?_
  simp [zIf, yT, yB, yVar, yC, yU, yNot, yAnd, yOr, yAndV, yOrV, yNotV, yTru, yIf, yCh, yF, yNil, yCons, yLst, yTup, yDNew, conts, fixs, cont, hold, asB, fGt, fLt, fLe, fGe, fEq, fNe, fI0, fI, fIn, fIsN, fNotN, zSet, zRet, zRetN, zPut, zDrop, zAsg, zAug, zAugS, getA, getL, asgn, give, fix, fMod, fFdiv, fAdd, fAddI, fSub, fMul, fNeg, fPow, fShl, fShr, fAnd, fOr, fXor, setAt, mutAt, Sl.put, zNext, isRef_eq, rfa, rff, rfo, fLen, fList, fTuple, fMax2, fMin2, fInt1, fSet0, fRev, fSl, ySl, yPart, yNoPart, yMt, yMs, mAppend, mPopAt, mSAdd, isLst, isSet, yRm, isTup, fIndexT, iSq, iEn, iR1, itemsD, gN, gT, gsCons, gsNil, zFor, zBreak, zCont, zRaise, yCall, yCall0, yMake, yCallN, fixM, agsOf, PV.putAll, put1, noRefs, anyP, yYes, fIsi, tyN, isiT, truD, fBits, endsOf, refPos, refsAt, notLoc, okI, okB, okN, eqvI, zForF, fgM, fgS, yTDisp, fStep, zAsg2, zFz, fz, sizeLine_eq, sb, -List.getD_eq_getElem?_getD, -List.filter_eq_nil_iff]
  refine ⟨n, rows, rfl, ok, ?_⟩
  simp [zIf, yT, yB, yVar, yC, yU, yNot, yAnd, yOr, yAndV, yOrV, yNotV, yTru, yIf, yCh, yF, yNil, yCons, yLst, yTup, yDNew, conts, fixs, cont, hold, asB, fGt, fLt, fLe, fGe, fEq, fNe, fI0, fI, fIn, fIsN, fNotN, zSet, zRet, zRetN, zPut, zDrop, zAsg, zAug, zAugS, getA, getL, asgn, give, fix, fMod, fFdiv, fAdd, fAddI, fSub, fMul, fNeg, fPow, fShl, fShr, fAnd, fOr, fXor, setAt, mutAt, Sl.put, zNext, isRef_eq, rfa, rff, rfo, fLen, fList, fTuple, fMax2, fMin2, fInt1, fSet0, fRev, fSl, ySl, yPart, yNoPart, yMt, yMs, mAppend, mPopAt, mSAdd, isLst, isSet, yRm, isTup, fIndexT, iSq, iEn, iR1, itemsD, gN, gT, gsCons, gsNil, zFor, zBreak, zCont, zRaise, yCall, yCall0, yMake, yCallN, fixM, agsOf, PV.putAll, put1, noRefs, anyP, yYes, fIsi, tyN, isiT, truD, fBits, endsOf, refPos, refsAt, notLoc, okI, okB, okN, eqvI, zForF, fgM, fgS, yTDisp, fStep, zAsg2, zFz, fz, sizeLine_eq, sb, -List.getD_eq_getElem?_getD, -List.filter_eq_nil_iff]
  refine hN1 _ ?_
  clear hN1 N1
  refine seq_c fun N1 hN1 => ?_
  simp [zIf, yT, yB, yVar, yC, yU, yNot, yAnd, yOr, yAndV, yOrV, yNotV, yTru, yIf, yCh, yF, yNil, yCons, yLst, yTup, yDNew, conts, fixs, cont, hold, asB, fGt, fLt, fLe, fGe, fEq, fNe, fI0, fI, fIn, fIsN, fNotN, zSet, zRet, zRetN, zPut, zDrop, zAsg, zAug, zAugS, getA, getL, asgn, give, fix, fMod, fFdiv, fAdd, fAddI, fSub, fMul, fNeg, fPow, fShl, fShr, fAnd, fOr, fXor, setAt, mutAt, Sl.put, zNext, isRef_eq, rfa, rff, rfo, fLen, fList, fTuple, fMax2, fMin2, fInt1, fSet0, fRev, fSl, ySl, yPart, yNoPart, yMt, yMs, mAppend, mPopAt, mSAdd, isLst, isSet, yRm, isTup, fIndexT, iSq, iEn, iR1, itemsD, gN, gT, gsCons, gsNil, zFor, zBreak, zCont, zRaise, yCall, yCall0, yMake, yCallN, fixM, agsOf, PV.putAll, put1, noRefs, anyP, yYes, fIsi, tyN, isiT, truD, fBits, endsOf, refPos, refsAt, notLoc, okI, okB, okN, eqvI, zForF, fgM, fgS, yTDisp, fStep, zAsg2, zFz, fz, sizeLine_eq, sb, -List.getD_eq_getElem?_getD, -List.filter_eq_nil_iff]
  refine ⟨n, rows, tt, rfl, ok, tk, ?_⟩
  simp [zIf, yT, yB, yVar, yC, yU, yNot, yAnd, yOr, yAndV, yOrV, yNotV, yTru, yIf, yCh, yF, yNil, yCons, yLst, yTup, yDNew, conts, fixs, cont, hold, asB, fGt, fLt, fLe, fGe, fEq, fNe, fI0, fI, fIn, fIsN, fNotN, zSet, zRet, zRetN, zPut, zDrop, zAsg, zAug, zAugS, getA, getL, asgn, give, fix, fMod, fFdiv, fAdd, fAddI, fSub, fMul, fNeg, fPow, fShl, fShr, fAnd, fOr, fXor, setAt, mutAt, Sl.put, zNext, isRef_eq, rfa, rff, rfo, fLen, fList, fTuple, fMax2, fMin2, fInt1, fSet0, fRev, fSl, ySl, yPart, yNoPart, yMt, yMs, mAppend, mPopAt, mSAdd, isLst, isSet, yRm, isTup, fIndexT, iSq, iEn, iR1, itemsD, gN, gT, gsCons, gsNil, zFor, zBreak, zCont, zRaise, yCall, yCall0, yMake, yCallN, fixM, agsOf, PV.putAll, put1, noRefs, anyP, yYes, fIsi, tyN, isiT, truD, fBits, endsOf, refPos, refsAt, notLoc, okI, okB, okN, eqvI, zForF, fgM, fgS, yTDisp, fStep, zAsg2, zFz, fz, sizeLine_eq, sb, -List.getD_eq_getElem?_getD, -List.filter_eq_nil_iff]
  refine hN1 _ ?_
  clear hN1 N1
  have il : (irange n).length ≤ 60 := by rw [irange_len]; omega
  have cl : (closedS n rows tt).length ≤ 60 := Nat.le_trans (List.length_filter_le _ _) il
  have hcr : ∀ s ∈ closedS n rows tt, 0 ≤ s ∧ s < 61 := fun s hs => ⟨((mem_closedS tk).mp hs).1, by have := ((mem_closedS tk).mp hs).2.1; omega⟩
  have htr : ∀ s ∈ tt, 0 ≤ s ∧ s < 61 := fun s hs => ⟨(tt_mem ok tk hs).1, by have := (tt_mem ok tk hs).2; omega⟩
  refine seq_c fun N1 hN1 => ?_
  simp [zIf, yT, yB, yVar, yC, yU, yNot, yAnd, yOr, yAndV, yOrV, yNotV, yTru, yIf, yCh, yF, yNil, yCons, yLst, yTup, yDNew, conts, fixs, cont, hold, asB, fGt, fLt, fLe, fGe, fEq, fNe, fI0, fI, fIsN, fNotN, zSet, zRet, zRetN, zPut, zDrop, zAsg, zAug, zAugS, getA, getL, asgn, give, fix, fMod, fFdiv, fAdd, fAddI, fSub, fMul, fNeg, fPow, fShl, fShr, fAnd, fOr, fXor, setAt, mutAt, Sl.put, zNext, isRef_eq, rfa, rff, rfo, fLen, fList, fTuple, fMax2, fMin2, fInt1, fSet0, fRev, fSl, ySl, yPart, yNoPart, yMt, yMs, mAppend, mPopAt, mSAdd, isLst, isSet, yRm, isTup, fIndexT, iSq, iEn, iR1, itemsD, gN, gT, gsCons, gsNil, zFor, zBreak, zCont, zRaise, yCall, yCall0, yMake, yCallN, fixM, agsOf, PV.putAll, put1, noRefs, anyP, yYes, fIsi, tyN, isiT, truD, fBits, endsOf, refPos, refsAt, notLoc, okI, okB, okN, eqvI, zForF, fgM, fgS, yTDisp, fStep, zAsg2, zFz, fz, sizeLine_eq, sb, -List.getD_eq_getElem?_getD, -List.filter_eq_nil_iff, yLc, rangeD_is]
  refine ⟨by omega, ?_⟩
  refine lc_of (fun s => !decide (s ∈ openS n rows tt)) D.int rfl (by omega) (fun s hs K L kT kF => ?_) ?_
  · by_cases c1 : s ∈ openS n rows tt
    · simp [zIf, yT, yB, yVar, yC, yU, yNot, yAnd, yOr, yAndV, yOrV, yNotV, yTru, yIf, yCh, yF, yNil, yCons, yLst, yTup, yDNew, conts, fixs, cont, hold, asB, fGt, fLt, fLe, fGe, fEq, fNe, fI0, fI, fIsN, fNotN, zSet, zRet, zRetN, zPut, zDrop, zAsg, zAug, zAugS, getA, getL, asgn, give, fix, fMod, fFdiv, fAdd, fAddI, fSub, fMul, fNeg, fPow, fShl, fShr, fAnd, fOr, fXor, setAt, mutAt, Sl.put, zNext, isRef_eq, rfa, rff, rfo, fLen, fList, fTuple, fMax2, fMin2, fInt1, fSet0, fRev, fSl, ySl, yPart, yNoPart, yMt, yMs, mAppend, mPopAt, mSAdd, isLst, isSet, yRm, isTup, fIndexT, iSq, iEn, iR1, itemsD, gN, gT, gsCons, gsNil, zFor, zBreak, zCont, zRaise, yCall, yCall0, yMake, yCallN, fixM, agsOf, PV.putAll, put1, noRefs, anyP, yYes, fIsi, tyN, isiT, truD, fBits, endsOf, refPos, refsAt, notLoc, okI, okB, okN, eqvI, zForF, fgM, fgS, yTDisp, fStep, zAsg2, zFz, fz, sizeLine_eq, sb, -List.getD_eq_getElem?_getD, -List.filter_eq_nil_iff, inL, c1]
      exact kF (by simp [c1]) _ (by simp [zIf, yT, yB, yVar, yC, yU, yNot, yAnd, yOr, yAndV, yOrV, yNotV, yTru, yIf, yCh, yF, yNil, yCons, yLst, yTup, yDNew, conts, fixs, cont, hold, asB, fGt, fLt, fLe, fGe, fEq, fNe, fI0, fI, fIn, fIsN, fNotN, zSet, zRet, zRetN, zPut, zDrop, zAsg, zAug, zAugS, getA, getL, asgn, give, fix, fMod, fFdiv, fAdd, fAddI, fSub, fMul, fNeg, fPow, fShl, fShr, fAnd, fOr, fXor, setAt, mutAt, Sl.put, zNext, isRef_eq, rfa, rff, rfo, fLen, fList, fTuple, fMax2, fMin2, fInt1, fSet0, fRev, fSl, ySl, yPart, yNoPart, yMt, yMs, mAppend, mPopAt, mSAdd, isLst, isSet, yRm, isTup, fIndexT, iSq, iEn, iR1, itemsD, gN, gT, gsCons, gsNil, zFor, zBreak, zCont, zRaise, yCall, yCall0, yMake, yCallN, fixM, agsOf, PV.putAll, put1, noRefs, anyP, yYes, fIsi, tyN, isiT, truD, fBits, endsOf, refPos, refsAt, notLoc, okI, okB, okN, eqvI, zForF, fgM, fgS, yTDisp, fStep, zAsg2, zFz, fz, sizeLine_eq, sb, -List.getD_eq_getElem?_getD, -List.filter_eq_nil_iff]) (by simp [zIf, yT, yB, yVar, yC, yU, yNot, yAnd, yOr, yAndV, yOrV, yNotV, yTru, yIf, yCh, yF, yNil, yCons, yLst, yTup, yDNew, conts, fixs, cont, hold, asB, fGt, fLt, fLe, fGe, fEq, fNe, fI0, fI, fIn, fIsN, fNotN, zSet, zRet, zRetN, zPut, zDrop, zAsg, zAug, zAugS, getA, getL, asgn, give, fix, fMod, fFdiv, fAdd, fAddI, fSub, fMul, fNeg, fPow, fShl, fShr, fAnd, fOr, fXor, setAt, mutAt, Sl.put, zNext, isRef_eq, rfa, rff, rfo, fLen, fList, fTuple, fMax2, fMin2, fInt1, fSet0, fRev, fSl, ySl, yPart, yNoPart, yMt, yMs, mAppend, mPopAt, mSAdd, isLst, isSet, yRm, isTup, fIndexT, iSq, iEn, iR1, itemsD, gN, gT, gsCons, gsNil, zFor, zBreak, zCont, zRaise, yCall, yCall0, yMake, yCallN, fixM, agsOf, PV.putAll, put1, noRefs, anyP, yYes, fIsi, tyN, isiT, truD, fBits, endsOf, refPos, refsAt, notLoc, okI, okB, okN, eqvI, zForF, fgM, fgS, yTDisp, fStep, zAsg2, zFz, fz, sizeLine_eq, sb, -List.getD_eq_getElem?_getD, -List.filter_eq_nil_iff])
    · simp [zIf, yT, yB, yVar, yC, yU, yNot, yAnd, yOr, yAndV, yOrV, yNotV, yTru, yIf, yCh, yF, yNil, yCons, yLst, yTup, yDNew, conts, fixs, cont, hold, asB, fGt, fLt, fLe, fGe, fEq, fNe, fI0, fI, fIsN, fNotN, zSet, zRet, zRetN, zPut, zDrop, zAsg, zAug, zAugS, getA, getL, asgn, give, fix, fMod, fFdiv, fAdd, fAddI, fSub, fMul, fNeg, fPow, fShl, fShr, fAnd, fOr, fXor, setAt, mutAt, Sl.put, zNext, isRef_eq, rfa, rff, rfo, fLen, fList, fTuple, fMax2, fMin2, fInt1, fSet0, fRev, fSl, ySl, yPart, yNoPart, yMt, yMs, mAppend, mPopAt, mSAdd, isLst, isSet, yRm, isTup, fIndexT, iSq, iEn, iR1, itemsD, gN, gT, gsCons, gsNil, zFor, zBreak, zCont, zRaise, yCall, yCall0, yMake, yCallN, fixM, agsOf, PV.putAll, put1, noRefs, anyP, yYes, fIsi, tyN, isiT, truD, fBits, endsOf, refPos, refsAt, notLoc, okI, okB, okN, eqvI, zForF, fgM, fgS, yTDisp, fStep, zAsg2, zFz, fz, sizeLine_eq, sb, -List.getD_eq_getElem?_getD, -List.filter_eq_nil_iff, inL, c1]
      exact kT (by simp [c1]) _ (by simp [zIf, yT, yB, yVar, yC, yU, yNot, yAnd, yOr, yAndV, yOrV, yNotV, yTru, yIf, yCh, yF, yNil, yCons, yLst, yTup, yDNew, conts, fixs, cont, hold, asB, fGt, fLt, fLe, fGe, fEq, fNe, fI0, fI, fIn, fIsN, fNotN, zSet, zRet, zRetN, zPut, zDrop, zAsg, zAug, zAugS, getA, getL, asgn, give, fix, fMod, fFdiv, fAdd, fAddI, fSub, fMul, fNeg, fPow, fShl, fShr, fAnd, fOr, fXor, setAt, mutAt, Sl.put, zNext, isRef_eq, rfa, rff, rfo, fLen, fList, fTuple, fMax2, fMin2, fInt1, fSet0, fRev, fSl, ySl, yPart, yNoPart, yMt, yMs, mAppend, mPopAt, mSAdd, isLst, isSet, yRm, isTup, fIndexT, iSq, iEn, iR1, itemsD, gN, gT, gsCons, gsNil, zFor, zBreak, zCont, zRaise, yCall, yCall0, yMake, yCallN, fixM, agsOf, PV.putAll, put1, noRefs, anyP, yYes, fIsi, tyN, isiT, truD, fBits, endsOf, refPos, refsAt, notLoc, okI, okB, okN, eqvI, zForF, fgM, fgS, yTDisp, fStep, zAsg2, zFz, fz, sizeLine_eq, sb, -List.getD_eq_getElem?_getD, -List.filter_eq_nil_iff]) (by simp [zIf, yT, yB, yVar, yC, yU, yNot, yAnd, yOr, yAndV, yOrV, yNotV, yTru, yIf, yCh, yF, yNil, yCons, yLst, yTup, yDNew, conts, fixs, cont, hold, asB, fGt, fLt, fLe, fGe, fEq, fNe, fI0, fI, fIn, fIsN, fNotN, zSet, zRet, zRetN, zPut, zDrop, zAsg, zAug, zAugS, getA, getL, asgn, give, fix, fMod, fFdiv, fAdd, fAddI, fSub, fMul, fNeg, fPow, fShl, fShr, fAnd, fOr, fXor, setAt, mutAt, Sl.put, zNext, isRef_eq, rfa, rff, rfo, fLen, fList, fTuple, fMax2, fMin2, fInt1, fSet0, fRev, fSl, ySl, yPart, yNoPart, yMt, yMs, mAppend, mPopAt, mSAdd, isLst, isSet, yRm, isTup, fIndexT, iSq, iEn, iR1, itemsD, gN, gT, gsCons, gsNil, zFor, zBreak, zCont, zRaise, yCall, yCall0, yMake, yCallN, fixM, agsOf, PV.putAll, put1, noRefs, anyP, yYes, fIsi, tyN, isiT, truD, fBits, endsOf, refPos, refsAt, notLoc, okI, okB, okN, eqvI, zForF, fgM, fgS, yTDisp, fStep, zAsg2, zFz, fz, sizeLine_eq, sb, -List.getD_eq_getElem?_getD, -List.filter_eq_nil_iff])
  rw [show (irange n).filter (fun s => !decide (s ∈ openS n rows tt)) = closedS n rows tt from rfl]
  simp [zIf, yT, yB, yVar, yC, yU, yNot, yAnd, yOr, yAndV, yOrV, yNotV, yTru, yIf, yCh, yF, yNil, yCons, yLst, yTup, yDNew, conts, fixs, cont, hold, asB, fGt, fLt, fLe, fGe, fEq, fNe, fI0, fI, fIn, fIsN, fNotN, zSet, zRet, zRetN, zPut, zDrop, zAsg, zAug, zAugS, getA, getL, asgn, give, fix, fMod, fFdiv, fAdd, fAddI, fSub, fMul, fNeg, fPow, fShl, fShr, fAnd, fOr, fXor, setAt, mutAt, Sl.put, zNext, isRef_eq, rfa, rff, rfo, fLen, fList, fTuple, fMax2, fMin2, fInt1, fSet0, fRev, fSl, ySl, yPart, yNoPart, yMt, yMs, mAppend, mPopAt, mSAdd, isLst, isSet, yRm, isTup, fIndexT, iSq, iEn, iR1, itemsD, gN, gT, gsCons, gsNil, zFor, zBreak, zCont, zRaise, yCall, yCall0, yMake, yCallN, fixM, agsOf, PV.putAll, put1, noRefs, anyP, yYes, fIsi, tyN, isiT, truD, fBits, endsOf, refPos, refsAt, notLoc, okI, okB, okN, eqvI, zForF, fgM, fgS, yTDisp, fStep, zAsg2, zFz, fz, sizeLine_eq, sb, -List.getD_eq_getElem?_getD, -List.filter_eq_nil_iff]
  refine hN1 _ ?_
  clear hN1 N1
  refine seq_c fun N1 hN1 => ?_
  simp [zIf, yT, yB, yVar, yC, yU, yNot, yAnd, yOr, yAndV, yOrV, yNotV, yTru, yIf, yCh, yF, yNil, yCons, yLst, yTup, yDNew, conts, fixs, cont, hold, asB, fGt, fLt, fLe, fGe, fEq, fNe, fI0, fI, fIn, fIsN, fNotN, zSet, zRet, zRetN, zPut, zDrop, zAsg, zAug, zAugS, getA, getL, asgn, give, fix, fMod, fFdiv, fAdd, fAddI, fSub, fMul, fNeg, fPow, fShl, fShr, fAnd, fOr, fXor, setAt, mutAt, Sl.put, zNext, isRef_eq, rfa, rff, rfo, fLen, fList, fTuple, fMax2, fMin2, fInt1, fSet0, fRev, fSl, ySl, yPart, yNoPart, yMt, yMs, mAppend, mPopAt, mSAdd, isLst, isSet, yRm, isTup, fIndexT, iSq, iEn, iR1, itemsD, gN, gT, gsCons, gsNil, zFor, zBreak, zCont, zRaise, yCall, yCall0, yMake, yCallN, fixM, agsOf, PV.putAll, put1, noRefs, anyP, yYes, fIsi, tyN, isiT, truD, fBits, endsOf, refPos, refsAt, notLoc, okI, okB, okN, eqvI, zForF, fgM, fgS, yTDisp, fStep, zAsg2, zFz, fz, sizeLine_eq, sb, -List.getD_eq_getElem?_getD, -List.filter_eq_nil_iff]
  refine ⟨a, b, c, n, (closedS n rows tt).map D.int, rfl, by omega, by omega, by simp; omega, itms_ints hcr, fun bad a c l1 i1 => ?_⟩
  rw [List.length_map] at l1
  simp [zIf, yT, yB, yVar, yC, yU, yNot, yAnd, yOr, yAndV, yOrV, yNotV, yTru, yIf, yCh, yF, yNil, yCons, yLst, yTup, yDNew, conts, fixs, cont, hold, asB, fGt, fLt, fLe, fGe, fEq, fNe, fI0, fI, fIn, fIsN, fNotN, zSet, zRet, zRetN, zPut, zDrop, zAsg, zAug, zAugS, getA, getL, asgn, give, fix, fMod, fFdiv, fAdd, fAddI, fSub, fMul, fNeg, fPow, fShl, fShr, fAnd, fOr, fXor, setAt, mutAt, Sl.put, zNext, isRef_eq, rfa, rff, rfo, fLen, fList, fTuple, fMax2, fMin2, fInt1, fSet0, fRev, fSl, ySl, yPart, yNoPart, yMt, yMs, mAppend, mPopAt, mSAdd, isLst, isSet, yRm, isTup, fIndexT, iSq, iEn, iR1, itemsD, gN, gT, gsCons, gsNil, zFor, zBreak, zCont, zRaise, yCall, yCall0, yMake, yCallN, fixM, agsOf, PV.putAll, put1, noRefs, anyP, yYes, fIsi, tyN, isiT, truD, fBits, endsOf, refPos, refsAt, notLoc, okI, okB, okN, eqvI, zForF, fgM, fgS, yTDisp, fStep, zAsg2, zFz, fz, sizeLine_eq, sb, -List.getD_eq_getElem?_getD, -List.filter_eq_nil_iff]
  refine hN1 _ ?_
  clear hN1 N1
  refine seq_c fun N1 hN1 => ?_
  simp [zIf, yT, yB, yVar, yC, yU, yNot, yAnd, yOr, yAndV, yOrV, yNotV, yTru, yIf, yCh, yF, yNil, yCons, yLst, yTup, yDNew, conts, fixs, cont, hold, asB, fGt, fLt, fLe, fGe, fEq, fNe, fI0, fI, fIn, fIsN, fNotN, zSet, zRet, zRetN, zPut, zDrop, zAsg, zAug, zAugS, getA, getL, asgn, give, fix, fMod, fFdiv, fAdd, fAddI, fSub, fMul, fNeg, fPow, fShl, fShr, fAnd, fOr, fXor, setAt, mutAt, Sl.put, zNext, isRef_eq, rfa, rff, rfo, fLen, fList, fTuple, fMax2, fMin2, fInt1, fSet0, fRev, fSl, ySl, yPart, yNoPart, yMt, yMs, mAppend, mPopAt, mSAdd, isLst, isSet, yRm, isTup, fIndexT, iSq, iEn, iR1, itemsD, gN, gT, gsCons, gsNil, zFor, zBreak, zCont, zRaise, yCall, yCall0, yMake, yCallN, fixM, agsOf, PV.putAll, put1, noRefs, anyP, yYes, fIsi, tyN, isiT, truD, fBits, endsOf, refPos, refsAt, notLoc, okI, okB, okN, eqvI, zForF, fgM, fgS, yTDisp, fStep, zAsg2, zFz, fz, sizeLine_eq, sb, -List.getD_eq_getElem?_getD, -List.filter_eq_nil_iff]
  refine ⟨a, b, c, n, bad, rfl, by omega, by omega, by omega, i1, fun worse a c l2 i2 => ?_⟩
  simp [zIf, yT, yB, yVar, yC, yU, yNot, yAnd, yOr, yAndV, yOrV, yNotV, yTru, yIf, yCh, yF, yNil, yCons, yLst, yTup, yDNew, conts, fixs, cont, hold, asB, fGt, fLt, fLe, fGe, fEq, fNe, fI0, fI, fIn, fIsN, fNotN, zSet, zRet, zRetN, zPut, zDrop, zAsg, zAug, zAugS, getA, getL, asgn, give, fix, fMod, fFdiv, fAdd, fAddI, fSub, fMul, fNeg, fPow, fShl, fShr, fAnd, fOr, fXor, setAt, mutAt, Sl.put, zNext, isRef_eq, rfa, rff, rfo, fLen, fList, fTuple, fMax2, fMin2, fInt1, fSet0, fRev, fSl, ySl, yPart, yNoPart, yMt, yMs, mAppend, mPopAt, mSAdd, isLst, isSet, yRm, isTup, fIndexT, iSq, iEn, iR1, itemsD, gN, gT, gsCons, gsNil, zFor, zBreak, zCont, zRaise, yCall, yCall0, yMake, yCallN, fixM, agsOf, PV.putAll, put1, noRefs, anyP, yYes, fIsi, tyN, isiT, truD, fBits, endsOf, refPos, refsAt, notLoc, okI, okB, okN, eqvI, zForF, fgM, fgS, yTDisp, fStep, zAsg2, zFz, fz, sizeLine_eq, sb, -List.getD_eq_getElem?_getD, -List.filter_eq_nil_iff]
  refine hN1 _ ?_
  clear hN1 N1
  refine seq_c fun N1 hN1 => ?_
  simp [zIf, yT, yB, yVar, yC, yU, yNot, yAnd, yOr, yAndV, yOrV, yNotV, yTru, yIf, yCh, yF, yNil, yCons, yLst, yTup, yDNew, conts, fixs, cont, hold, asB, fGt, fLt, fLe, fGe, fEq, fNe, fI0, fI, fIn, fIsN, fNotN, zSet, zRet, zRetN, zPut, zDrop, zAsg, zAug, zAugS, getA, getL, asgn, give, fix, fMod, fFdiv, fAdd, fAddI, fSub, fMul, fNeg, fPow, fShl, fShr, fAnd, fOr, fXor, setAt, mutAt, Sl.put, zNext, isRef_eq, rfa, rff, rfo, fLen, fList, fTuple, fMax2, fMin2, fInt1, fSet0, fRev, fSl, ySl, yPart, yNoPart, yMt, yMs, mAppend, mPopAt, mSAdd, isLst, isSet, yRm, isTup, fIndexT, iSq, iEn, iR1, itemsD, gN, gT, gsCons, gsNil, zFor, zBreak, zCont, zRaise, yCall, yCall0, yMake, yCallN, fixM, agsOf, PV.putAll, put1, noRefs, anyP, yYes, fIsi, tyN, isiT, truD, fBits, endsOf, refPos, refsAt, notLoc, okI, okB, okN, eqvI, zForF, fgM, fgS, yTDisp, fStep, zAsg2, zFz, fz, sizeLine_eq, sb, -List.getD_eq_getElem?_getD, -List.filter_eq_nil_iff, fRevT]
  refine forF_inv (fun j ρ => ∃ a c : Int, ρ = [.ref (wellD a b c), .any, .frz (.lst (rows.map rowL)), .frz (ttD tt), .frz (bookOf n rows), .any, .any, .any, .any, .any, .any, .any]) ⟨a, c, rfl⟩ ?_ ?_
  · rintro j x ρ hx ⟨a, c, rfl⟩ M hM
    have ha : Askd x := by
      have := List.mem_of_getElem? hx
      simp at this
      rcases this with rfl | rfl | rfl | rfl | rfl | rfl | rfl | rfl | rfl
      · exact .inl ⟨_, rfl, by simp; omega, itms_ints hcr⟩
      · refine .inl ⟨_, rfl, by simp; omega, fun d hd => itms_ints hcr d ?_⟩
        simpa using hd
      · exact .inl ⟨_, rfl, by simp, fun d hd => by cases hd⟩
      · exact .inl ⟨_, rfl, by omega, i1⟩
      · exact .inl ⟨_, rfl, by omega, i2⟩
      · exact .inl ⟨_, rfl, by simp; omega, itms_ints htr⟩
      · exact .inr (.inl ⟨_, rfl, by omega, fun s hs => by have := hcr s hs; omega⟩)
      · exact .inr (.inr (.inl rfl))
      · exact .inr (.inr (.inr rfl))
    have ns : ∀ {q : R → Prop}, fNe (.str x.py.shown) (.str x.py.shown) q = q (.dat (.bl false)) := neS (askd_shw ha).2.2.1
    refine ⟨rfl, ?_⟩
    refine seq_c fun N2 hN2 => ?_
    simp [zIf, yT, yB, yVar, yC, yU, yNot, yAnd, yOr, yAndV, yOrV, yNotV, yTru, yIf, yCh, yF, yNil, yCons, yLst, yTup, yDNew, conts, fixs, cont, hold, asB, fGt, fLt, fLe, fGe, fEq, fNe, fI0, fI, fIn, fIsN, fNotN, zSet, zRet, zRetN, zPut, zDrop, zAsg, zAug, zAugS, getA, getL, asgn, give, fix, fMod, fFdiv, fAdd, fAddI, fSub, fMul, fNeg, fPow, fShl, fShr, fAnd, fOr, fXor, setAt, mutAt, Sl.put, zNext, isRef_eq, rfa, rff, rfo, fLen, fList, fTuple, fMax2, fMin2, fInt1, fSet0, fRev, fSl, ySl, yPart, yNoPart, yMt, yMs, mAppend, mPopAt, mSAdd, isLst, isSet, yRm, isTup, fIndexT, iSq, iEn, iR1, itemsD, gN, gT, gsCons, gsNil, zFor, zBreak, zCont, zRaise, yCall, yCall0, yMake, yCallN, fixM, agsOf, PV.putAll, put1, noRefs, anyP, yYes, fIsi, tyN, isiT, truD, fBits, endsOf, refPos, refsAt, notLoc, okI, okB, okN, eqvI, zForF, fgM, fgS, yTDisp, fStep, zAsg2, zFz, fz, sizeLine_eq, sb, -List.getD_eq_getElem?_getD, -List.filter_eq_nil_iff, repr_askd ha]
    refine hN2 _ ?_
    clear hN2 N2
    refine seq_c fun N2 hN2 => ?_
    simp [zIf, yT, yB, yVar, yC, yU, yNot, yAnd, yOr, yAndV, yOrV, yNotV, yTru, yIf, yCh, yF, yNil, yCons, yLst, yTup, yDNew, conts, fixs, cont, hold, asB, fGt, fLt, fLe, fGe, fEq, fNe, fI0, fI, fIn, fIsN, fNotN, zSet, zRet, zRetN, zPut, zDrop, zAsg, zAug, zAugS, getA, getL, asgn, give, fix, fMod, fFdiv, fAdd, fAddI, fSub, fMul, fNeg, fPow, fShl, fShr, fAnd, fOr, fXor, setAt, mutAt, Sl.put, zNext, isRef_eq, rfa, rff, rfo, fLen, fList, fTuple, fMax2, fMin2, fInt1, fSet0, fRev, fSl, ySl, yPart, yNoPart, yMt, yMs, mAppend, mPopAt, mSAdd, isLst, isSet, yRm, isTup, fIndexT, iSq, iEn, iR1, itemsD, gN, gT, gsCons, gsNil, zFor, zBreak, zCont, zRaise, yCall, yCall0, yMake, yCallN, fixM, agsOf, PV.putAll, put1, noRefs, anyP, yYes, fIsi, tyN, isiT, truD, fBits, endsOf, refPos, refsAt, notLoc, okI, okB, okN, eqvI, zForF, fgM, fgS, yTDisp, fStep, zAsg2, zFz, fz, sizeLine_eq, sb, -List.getD_eq_getElem?_getD, -List.filter_eq_nil_iff]
    refine ⟨n, rows, tt, x, rfl, ok, tk, ha, ?_⟩
    simp [zIf, yT, yB, yVar, yC, yU, yNot, yAnd, yOr, yAndV, yOrV, yNotV, yTru, yIf, yCh, yF, yNil, yCons, yLst, yTup, yDNew, conts, fixs, cont, hold, asB, fGt, fLt, fLe, fGe, fEq, fNe, fI0, fI, fIn, fIsN, fNotN, zSet, zRet, zRetN, zPut, zDrop, zAsg, zAug, zAugS, getA, getL, asgn, give, fix, fMod, fFdiv, fAdd, fAddI, fSub, fMul, fNeg, fPow, fShl, fShr, fAnd, fOr, fXor, setAt, mutAt, Sl.put, zNext, isRef_eq, rfa, rff, rfo, fLen, fList, fTuple, fMax2, fMin2, fInt1, fSet0, fRev, fSl, ySl, yPart, yNoPart, yMt, yMs, mAppend, mPopAt, mSAdd, isLst, isSet, yRm, isTup, fIndexT, iSq, iEn, iR1, itemsD, gN, gT, gsCons, gsNil, zFor, zBreak, zCont, zRaise, yCall, yCall0, yMake, yCallN, fixM, agsOf, PV.putAll, put1, noRefs, anyP, yYes, fIsi, tyN, isiT, truD, fBits, endsOf, refPos, refsAt, notLoc, okI, okB, okN, eqvI, zForF, fgM, fgS, yTDisp, fStep, zAsg2, zFz, fz, sizeLine_eq, sb, -List.getD_eq_getElem?_getD, -List.filter_eq_nil_iff]
    refine hN2 _ ?_
    clear hN2 N2
    simp [zIf, yT, yB, yVar, yC, yU, yNot, yAnd, yOr, yAndV, yOrV, yNotV, yTru, yIf, yCh, yF, yNil, yCons, yLst, yTup, yDNew, conts, fixs, cont, hold, asB, fGt, fLt, fLe, fGe, fEq, fI0, fI, fIn, fIsN, fNotN, zSet, zRet, zRetN, zPut, zDrop, zAsg, zAug, zAugS, getA, getL, asgn, give, fix, fMod, fFdiv, fAdd, fAddI, fSub, fMul, fNeg, fPow, fShl, fShr, fAnd, fOr, fXor, setAt, mutAt, Sl.put, zNext, isRef_eq, rfa, rff, rfo, fLen, fList, fTuple, fMax2, fMin2, fInt1, fSet0, fRev, fSl, ySl, yPart, yNoPart, yMt, yMs, mAppend, mPopAt, mSAdd, isLst, isSet, yRm, isTup, fIndexT, iSq, iEn, iR1, itemsD, gN, gT, gsCons, gsNil, zFor, zBreak, zCont, zRaise, yCall, yCall0, yMake, yCallN, fixM, agsOf, PV.putAll, put1, noRefs, anyP, yYes, fIsi, tyN, isiT, truD, fBits, endsOf, refPos, refsAt, notLoc, okI, okB, okN, eqvI, zForF, fgM, fgS, yTDisp, fStep, zAsg2, zFz, fz, sizeLine_eq, sb, -List.getD_eq_getElem?_getD, -List.filter_eq_nil_iff]
    refine ⟨n, rows, tt, x, rfl, ok, tk, ha, ?_⟩
    simp [zIf, yT, yB, yVar, yC, yU, yNot, yAnd, yOr, yAndV, yOrV, yNotV, yTru, yIf, yCh, yF, yNil, yCons, yLst, yTup, yDNew, conts, fixs, cont, hold, asB, fGt, fLt, fLe, fGe, fEq, fI0, fI, fIn, fIsN, fNotN, zSet, zRet, zRetN, zPut, zDrop, zAsg, zAug, zAugS, getA, getL, asgn, give, fix, fMod, fFdiv, fAdd, fAddI, fSub, fMul, fNeg, fPow, fShl, fShr, fAnd, fOr, fXor, setAt, mutAt, Sl.put, zNext, isRef_eq, rfa, rff, rfo, fLen, fList, fTuple, fMax2, fMin2, fInt1, fSet0, fRev, fSl, ySl, yPart, yNoPart, yMt, yMs, mAppend, mPopAt, mSAdd, isLst, isSet, yRm, isTup, fIndexT, iSq, iEn, iR1, itemsD, gN, gT, gsCons, gsNil, zFor, zBreak, zCont, zRaise, yCall, yCall0, yMake, yCallN, fixM, agsOf, PV.putAll, put1, noRefs, anyP, yYes, fIsi, tyN, isiT, truD, fBits, endsOf, refPos, refsAt, notLoc, okI, okB, okN, eqvI, zForF, fgM, fgS, yTDisp, fStep, zAsg2, zFz, fz, sizeLine_eq, sb, -List.getD_eq_getElem?_getD, -List.filter_eq_nil_iff, neFlt, repr_askd ha, ns]
    exact hM _ ⟨a, c, rfl⟩
  · rintro ρ ⟨a, c, rfl⟩
    refine hN1 _ ?_
    clear hN1 N1
    simp [zIf, yT, yB, yVar, yC, yU, yNot, yAnd, yOr, yAndV, yOrV, yNotV, yTru, yIf, yCh, yF, yNil, yCons, yLst, yTup, yDNew, conts, fixs, cont, hold, asB, fGt, fLt, fLe, fGe, fEq, fNe, fI0, fI, fIn, fIsN, fNotN, zSet, zRet, zRetN, zPut, zDrop, zAsg, zAug, zAugS, getA, getL, asgn, give, fix, fMod, fFdiv, fAdd, fAddI, fSub, fMul, fNeg, fPow, fShl, fShr, fAnd, fOr, fXor, setAt, mutAt, Sl.put, zNext, isRef_eq, rfa, rff, rfo, fLen, fList, fTuple, fMax2, fMin2, fInt1, fSet0, fRev, fSl, ySl, yPart, yNoPart, yMt, yMs, mAppend, mPopAt, mSAdd, isLst, isSet, yRm, isTup, fIndexT, iSq, iEn, iR1, itemsD, gN, gT, gsCons, gsNil, zFor, zBreak, zCont, zRaise, yCall, yCall0, yMake, yCallN, fixM, agsOf, PV.putAll, put1, noRefs, anyP, yYes, fIsi, tyN, isiT, truD, fBits, endsOf, refPos, refsAt, notLoc, okI, okB, okN, eqvI, zForF, fgM, fgS, yTDisp, fStep, zAsg2, zFz, fz, sizeLine_eq, sb, -List.getD_eq_getElem?_getD, -List.filter_eq_nil_iff]
    exact k a c
theorem pure_law_k12 : ∀ as q e, sp_law_k12 as q e → t_law_k12 (endsOf (refPos 0 as) q e) (entry 3 as) := by
  rintro as q e ⟨ns, rfl, hl, k⟩
  show t_law_k12 _ [.frz (.lst (ns.map D.int)), .any, .any]
  refine seq_c fun N1 hN1 => ?_
  refine law_cells (m := 6) (fun a b c q e h => ⟨a, b, c, rfl, h⟩) (by decide) hl ?_
  refine hN1 _ ?_
  clear hN1 N1
  simp [zIf, yT, yB, yVar, yC, yU, yNot, yAnd, yOr, yAndV, yOrV, yNotV, yTru, yIf, yCh, yF, yNil, yCons, yLst, yTup, yDNew, conts, fixs, cont, hold, asB, fGt, fLt, fLe, fGe, fEq, fNe, fI0, fI, fIn, fIsN, fNotN, zSet, zRet, zRetN, zPut, zDrop, zAsg, zAug, zAugS, getA, getL, asgn, give, fix, fMod, fFdiv, fAdd, fAddI, fSub, fMul, fNeg, fPow, fShl, fShr, fAnd, fOr, fXor, setAt, mutAt, Sl.put, zNext, isRef_eq, rfa, rff, rfo, fLen, fList, fTuple, fMax2, fMin2, fInt1, fSet0, fRev, fSl, ySl, yPart, yNoPart, yMt, yMs, mAppend, mPopAt, mSAdd, isLst, isSet, yRm, isTup, fIndexT, iSq, iEn, iR1, itemsD, gN, gT, gsCons, gsNil, zFor, zBreak, zCont, zRaise, yCall, yCall0, yMake, yCallN, fixM, agsOf, PV.putAll, put1, noRefs, anyP, yYes, fIsi, tyN, isiT, truD, fBits, endsOf, refPos, refsAt, notLoc, okI, okB, okN, eqvI, zForF, fgM, fgS, yTDisp, fStep, zAsg2, zFz, fz, sizeLine_eq, sb, -List.getD_eq_getElem?_getD, -List.filter_eq_nil_iff]
  exact k
end Law
namespace Law
open PySem PySem.Spec PyProof.Rows L2 PySem.EsX He Hk PV
def d_Book_len : He.DefD := ⟨("Book", some "__len__"), "__len__", "Book.__len__", defArgs s_Book_len, defBody s_Book_len, defScope s_Book_len, [], []⟩
def d_Book_size : He.DefD := ⟨("Book", some "size"), "size", "Book.size", defArgs s_Book_size, defBody s_Book_size, defScope s_Book_size, [], []⟩
def d_Book_users : He.DefD := ⟨("Book", some "users"), "users", "Book.users", defArgs s_Book_users, defBody s_Book_users, defScope s_Book_users, [], []⟩
def d_is_below : He.DefD := ⟨("is_below", none), "is_below", "is_below", defArgs s_is_below, defBody s_is_below, defScope s_is_below, [], []⟩
def d_is_slot_list : He.DefD := ⟨("is_slot_list", none), "is_slot_list", "is_slot_list", defArgs s_is_slot_list, defBody s_is_slot_list, defScope s_is_slot_list, [], []⟩
def d_is_whole : He.DefD := ⟨("is_whole", none), "is_whole", "is_whole", defArgs s_is_whole, defBody s_is_whole, defScope s_is_whole, [], []⟩
def d_law_draw : He.DefD := ⟨("_law_draw", none), "_law_draw", "_law_draw", defArgs s_law_draw, defBody s_law_draw, defScope s_law_draw, [], []⟩
def d_law_due : He.DefD := ⟨("_law_due", none), "_law_due", "_law_due", defArgs s_law_due, defBody s_law_due, defScope s_law_due, [], []⟩
def d_law_open : He.DefD := ⟨("_law_open", none), "_law_open", "_law_open", defArgs s_law_open, defBody s_law_open, defScope s_law_open, [], []⟩
def d_users_of_slots : He.DefD := ⟨("_users_of_slots", none), "_users_of_slots", "_users_of_slots", defArgs s_users_of_slots, defBody s_users_of_slots, defScope s_users_of_slots, [], []⟩
def d_check_book : He.DefD := ⟨("_check_book", none), "_check_book", "_check_book", defArgs s_check_book, defBody s_check_book, defScope s_check_book, [], []⟩
def d_law_bent : He.DefD := ⟨("_law_bent", none), "_law_bent", "_law_bent", defArgs s_law_bent, defBody s_law_bent, defScope s_law_bent, [], []⟩
def d_law_book : He.DefD := ⟨("_law_book", none), "_law_book", "_law_book", defArgs s_law_book, defBody s_law_book, defScope s_law_book, [], []⟩
def d_tight_fault : He.DefD := ⟨("tight_fault", none), "tight_fault", "tight_fault", defArgs s_tight_fault, defBody s_tight_fault, defScope s_tight_fault, [], []⟩
def d_Book_init : He.DefD := ⟨("Book", some "__init__"), "__init__", "Book.__init__", defArgs s_Book_init, defBody s_Book_init, defScope s_Book_init, [], []⟩
def d_check_timetable : He.DefD := ⟨("check_timetable", none), "check_timetable", "check_timetable", defArgs s_check_timetable, defBody s_check_timetable, defScope s_check_timetable, [], []⟩
def d_check_tight : He.DefD := ⟨("check_tight", none), "check_tight", "check_tight", defArgs s_check_tight, defBody s_check_tight, defScope s_check_tight, [], []⟩
def d_law_asked : He.DefD := ⟨("_law_asked", none), "_law_asked", "_law_asked", defArgs s_law_asked, defBody s_law_asked, defScope s_law_asked, [], []⟩
def d_law_right : He.DefD := ⟨("_law_right", none), "_law_right", "_law_right", defArgs s_law_right, defBody s_law_right, defScope s_law_right, [], []⟩
def d_law : He.DefD := ⟨("law", none), "law", "law", defArgs s_law, defBody s_law, defScope s_law, [], []⟩
def e_NoBook : Hk.ExD := ⟨"NoBook", "index", "NoBook.__init__", defArgs s_NoBook_init, defBody s_NoBook_init, defScope s_NoBook_init⟩
def e_NoTimetable : Hk.ExD := ⟨"NoTimetable", "index", "NoTimetable.__init__", defArgs s_NoTimetable_init, defBody s_NoTimetable_init, defScope s_NoTimetable_init⟩
def e_NoAppointment : Hk.ExD := ⟨"NoAppointment", "appointment", "NoAppointment.__init__", defArgs s_NoAppointment_init, defBody s_NoAppointment_init, defScope s_NoAppointment_init⟩
def e_NoCertificate : Hk.ExD := ⟨"NoCertificate", "index", "NoCertificate.__init__", defArgs s_NoCertificate_init, defBody s_NoCertificate_init, defScope s_NoCertificate_init⟩
def fn : List He.DefD := [d_Book_len, d_Book_size, d_Book_users, d_is_below, d_is_slot_list, d_is_whole, d_law_draw, d_law_due, d_law_open, d_users_of_slots, d_check_book, d_law_bent, d_law_book, d_tight_fault, d_Book_init, d_check_timetable, d_check_tight, d_law_asked, d_law_right, d_law]
def exs : List Hk.ExD := [e_NoBook, e_NoTimetable, e_NoAppointment, e_NoCertificate]
def fa : List He.Fa := [.glo "is_below", .glo "is_slot_list", .glo "is_whole", .glo "_law_draw", .glo "_law_due", .glo "_law_open", .glo "_users_of_slots", .glo "_check_book", .glo "_law_bent", .glo "_law_book", .glo "tight_fault", .glo "check_timetable", .glo "check_tight", .glo "_law_asked", .glo "_law_right", .glo "law", .free "bool", .free "enumerate", .free "int", .free "isinstance", .free "len", .free "list", .free "max", .free "range", .free "repr", .free "set", .free "sorted", .free "tuple", .int "MOST_APPOINTMENTS" (60), .int "MOST_SLOTS" (60), .glo "Book", .cls "Book", .mkr "Book", .meth "Book" "__len__", .meth "Book" "size", .meth "Book" "users", .noat "Book" "_allowed", .noat "Book" "_slots", .noat "Book" "_users", .exm "NoTimetable" "NoCertificate" false, .exm "NoCertificate" "NoCertificate" true]
def loose : List PySem.Str := (["SlotError", "NoBook", "NoTimetable", "NoAppointment", "NoCertificate", "is_whole", "is_below", "is_slot_list", "MOST_SLOTS", "MOST_APPOINTMENTS", "Book", "check_timetable", "_check_book", "_users_of_slots", "check_tight", "tight_fault", "_law_draw", "_law_book", "_law_open", "_law_due", "_law_asked", "_law_bent", "_law_right"] : List PySem.Str)
abbrev Prg : Program := PySem.Challenge.pw_reslot_k12_tight_sets_checked
abbrev Rw0 : PySem.W.OpenRow := PySem.W.OpenLaw.row PySem.Challenge.rw_reslot_k12_tight_sets_checked
def mo (_ : PySem.W.Frag) : Bool := true
def lk : Hk.Lk := ⟨Prg, fa, fn, exs, mo⟩
abbrev hk : PySem.W.Hook := Hk.hookR lk 5
def ob (s : PySem.W.SharedT) : Hk.AlR := Hk.obsRG lk 5 (HandSHeadRun.getT s)
theorem ob_eq (s : PySem.W.SharedT) : ob s = hk.obs s.abs := Hk.obsRG_eq (HandSHeadRun.getT_eq s)
set_option maxRecDepth 100000 in
set_option maxHeartbeats 0 in
theorem run (w : World) : HandSHeadRun.RunEq Rw0 (PySem.W.view Rw0.prog [28]) hk ob 20000 loose w := by
  intro os
  kernel_rfl
end Law
namespace Law
open PySem PySem.Spec PyProof.Rows L2 PySem.EsX He Hk PV
theorem txt_of {K : PySem.W.Frag} {mg : Str → Option Value} {h0 : Heap} (X : K.In h0) (G : h0.Ns mainGlobals mg) (c : SaysR lk K) : Txt Prg K mg where
    fr_bool := c.free X G 16 rfl
    fr_enumerate := c.free X G 17 rfl
    fr_int := c.free X G 18 rfl
    fr_isinstance := c.free X G 19 rfl
    fr_len := c.free X G 20 rfl
    fr_list := c.free X G 21 rfl
    fr_max := c.free X G 22 rfl
    fr_range := c.free X G 23 rfl
    fr_repr := c.free X G 24 rfl
    fr_set := c.free X G 25 rfl
    fr_sorted := c.free X G 26 rfl
    fr_tuple := c.free X G 27 rfl
    i_MOST_APPOINTMENTS := He.int_ok X G (c.d.fact 28 rfl)
    i_MOST_SLOTS := He.int_ok X G (c.d.fact 29 rfl)
    x_NoBook := c.exok X G 0 (d := e_NoBook) rfl fo_index ⟨_, _, _, ⟨_, _, _, _, _, _, _, _, _, _⟩, rfl, rfl, rfl⟩ rfl
    x_NoCertificate := c.exok X G 3 (d := e_NoCertificate) rfl fo_index ⟨_, _, _, ⟨_, _, _, _, _, _, _, _, _, _⟩, rfl, rfl, rfl⟩ rfl
    x_NoTimetable := c.exok X G 1 (d := e_NoTimetable) rfl fo_index ⟨_, _, _, ⟨_, _, _, _, _, _, _, _, _, _⟩, rfl, rfl, rfl⟩ rfl
    g_Book := c.glo X G 30 rfl
    cl_Book := He.cls_ok (c.d.fact 31 rfl)
    noat_Book__allowed := He.noat_ok (c.d.fact 36 rfl)
    noat_Book__slots := He.noat_ok (c.d.fact 37 rfl)
    noat_Book__users := He.noat_ok (c.d.fact 38 rfl)
    kn_law_asked := fun e E hc hm => by
      have hc : e ∈ (["NoTimetable", "NoCertificate"] : List Str) := by simpa using hc
      have hc : e = ("NoTimetable" : Str) ∨ e = ("NoCertificate" : Str) := by simpa using hc
      rcases hc with rfl | rfl
      · have e1 := (c.exok X G 1 (d := e_NoTimetable) rfl fo_index ⟨_, _, _, ⟨_, _, _, _, _, _, _, _, _, _⟩, rfl, rfl, rfl⟩ rfl).g
        have e2 := hm.symm.trans e1
        cases e2
        exact (He.exm_ok (c.d.fact 39 rfl)).trans (by decide)
      · have e1 := (c.exok X G 3 (d := e_NoCertificate) rfl fo_index ⟨_, _, _, ⟨_, _, _, _, _, _, _, _, _, _⟩, rfl, rfl, rfl⟩ rfl).g
        have e2 := hm.symm.trans e1
        cases e2
        exact (He.exm_ok (c.d.fact 40 rfl)).trans (by decide)
    kx_law_asked_index := fun e E hc hk hm => by
      have hc : e ∈ (["NoTimetable", "NoCertificate"] : List Str) := by simpa using hc
      have hc : e = ("NoTimetable" : Str) ∨ e = ("NoCertificate" : Str) := by simpa using hc
      rcases hc with rfl | rfl
      · exact absurd hk (by decide)
      · have e0 := (c.exok X G 3 (d := e_NoCertificate) rfl fo_index ⟨_, _, _, ⟨_, _, _, _, _, _, _, _, _, _⟩, rfl, rfl, rfl⟩ rfl)
        have e2 := hm.symm.trans e0.g
        cases e2
        exact PV.excOk_of e0 e0.t.noN
theorem facts {w : World} {K : PySem.W.Frag} {h : Heap} {mg : Str → Option Value} {f : Addr} (X : K.In h) (G : h.Ns mainGlobals mg) (hfa : mg ("law" : Str) = some (.ref f)) (c : SaysR lk K) :
    ∃ fd : FuncData, (∀ (s : Shared) (v : Value), BindsTo s fd ⟨[v], []⟩ [("script", v)]) ∧ ∀ base : Heap, K.In base → base.Ns mainGlobals mg → FnOkR Prg w K mg base (L2.CX Prg w) 7 f fd ["script"] (spOf ⟨mg, K, w⟩ sp_law_k12) := by
  have T := txt_of X G c
  obtain ⟨fd_Book_len, F_Book_len⟩ := c.d.def_ 0 (d := d_Book_len) rfl
  obtain ⟨fd_Book_size, F_Book_size⟩ := c.d.def_ 1 (d := d_Book_size) rfl
  obtain ⟨fd_Book_users, F_Book_users⟩ := c.d.def_ 2 (d := d_Book_users) rfl
  obtain ⟨fd_is_below, F_is_below⟩ := c.d.def_ 3 (d := d_is_below) rfl
  obtain ⟨fd_is_slot_list, F_is_slot_list⟩ := c.d.def_ 4 (d := d_is_slot_list) rfl
  obtain ⟨fd_is_whole, F_is_whole⟩ := c.d.def_ 5 (d := d_is_whole) rfl
  obtain ⟨fd_law_draw, F_law_draw⟩ := c.d.def_ 6 (d := d_law_draw) rfl
  obtain ⟨fd_law_due, F_law_due⟩ := c.d.def_ 7 (d := d_law_due) rfl
  obtain ⟨fd_law_open, F_law_open⟩ := c.d.def_ 8 (d := d_law_open) rfl
  obtain ⟨fd_users_of_slots, F_users_of_slots⟩ := c.d.def_ 9 (d := d_users_of_slots) rfl
  obtain ⟨fd_check_book, F_check_book⟩ := c.d.def_ 10 (d := d_check_book) rfl
  obtain ⟨fd_law_bent, F_law_bent⟩ := c.d.def_ 11 (d := d_law_bent) rfl
  obtain ⟨fd_law_book, F_law_book⟩ := c.d.def_ 12 (d := d_law_book) rfl
  obtain ⟨fd_tight_fault, F_tight_fault⟩ := c.d.def_ 13 (d := d_tight_fault) rfl
  obtain ⟨fd_Book_init, F_Book_init⟩ := c.d.def_ 14 (d := d_Book_init) rfl
  obtain ⟨fd_check_timetable, F_check_timetable⟩ := c.d.def_ 15 (d := d_check_timetable) rfl
  obtain ⟨fd_check_tight, F_check_tight⟩ := c.d.def_ 16 (d := d_check_tight) rfl
  obtain ⟨fd_law_asked, F_law_asked⟩ := c.d.def_ 17 (d := d_law_asked) rfl
  obtain ⟨fd_law_right, F_law_right⟩ := c.d.def_ 18 (d := d_law_right) rfl
  obtain ⟨fd_law, F_law⟩ := c.d.def_ 19 (d := d_law) rfl
  have e := hfa.symm.trans (c.glo X G 15 (x := "law") rfl)
  cases e
  have b := FunD.bindsA (ps := ["script"]) F_law fun _ _ _ _ _ _ us hl => match us, hl with | [_], _ => rfl
  refine ⟨fd_law, fun s v => b s [v] rfl, fun base _ _ => ?_⟩
  have ok_Book_len := der_Book_len (P := Prg) (w := w) (base := base) F_Book_len T  (by intro as q e h; unfold sp_Book_len at h; repeat' (first | (obtain ⟨rfl, _⟩ := h; rfl) | (obtain ⟨_, h⟩ := h))) pure_Book_len
  have b_Book_len := FunD.bindsN (ps := ["self"]) F_Book_len fun _ _ _ _ _ _ us hl => match us, hl with | [_], _ => rfl
  have m_Book_len := He.meth_ok (x := "Book") (m := "__len__") (c.d.fact 33 rfl)
  have g_Book_len : FnL Prg w K mg base "Book" _ _ _ _ sp_Book_len := ⟨(c.glo X G 30 rfl), m_Book_len.at_, m_Book_len.fn, ⟨fd_Book_len, ok_Book_len, b_Book_len⟩⟩
  have ok_Book_size := der_Book_size (P := Prg) (w := w) (base := base) F_Book_size T  (by intro as q e h; unfold sp_Book_size at h; repeat' (first | (obtain ⟨rfl, _⟩ := h; rfl) | (obtain ⟨_, h⟩ := h))) pure_Book_size
  have b_Book_size := FunD.bindsN (ps := ["self"]) F_Book_size fun _ _ _ _ _ _ us hl => match us, hl with | [_], _ => rfl
  have g_Book_size : FnM Prg w K mg base "Book" "size" _ _ _ _ sp_Book_size := ⟨(c.glo X G 30 rfl), He.cls_ok (c.d.fact 31 rfl), He.meth_ok (c.d.fact 34 rfl), ⟨fd_Book_size, ok_Book_size, b_Book_size⟩⟩
  have ok_Book_users := der_Book_users (P := Prg) (w := w) (base := base) F_Book_users T  (by intro as q e h; unfold sp_Book_users at h; repeat' (first | (obtain ⟨rfl, _⟩ := h; rfl) | (obtain ⟨_, h⟩ := h))) pure_Book_users
  have b_Book_users := FunD.bindsN (ps := ["self"]) F_Book_users fun _ _ _ _ _ _ us hl => match us, hl with | [_], _ => rfl
  have g_Book_users : FnM Prg w K mg base "Book" "users" _ _ _ _ sp_Book_users := ⟨(c.glo X G 30 rfl), He.cls_ok (c.d.fact 31 rfl), He.meth_ok (c.d.fact 35 rfl), ⟨fd_Book_users, ok_Book_users, b_Book_users⟩⟩
  have ok_is_below := der_is_below (P := Prg) (w := w) (base := base) F_is_below T  (by intro as q e h; unfold sp_is_below at h; repeat' (first | (obtain ⟨rfl, _⟩ := h; rfl) | (obtain ⟨_, h⟩ := h))) pure_is_below
  have b_is_below := FunD.bindsN (ps := ["value", "limit"]) F_is_below fun _ _ _ _ _ _ us hl => match us, hl with | [_, _], _ => rfl
  have g_is_below : FnG Prg w K mg base "is_below" _ _ _ sp_is_below [] [] := ⟨c.glo X G 0 rfl, F_is_below.kp, ⟨fd_is_below, [], ok_is_below, b_is_below, .nil⟩, fun _ => .nil⟩
  have ok_is_slot_list := der_is_slot_list (P := Prg) (w := w) (base := base) F_is_slot_list T  (by intro as q e h; unfold sp_is_slot_list at h; repeat' (first | (obtain ⟨rfl, _⟩ := h; rfl) | (obtain ⟨_, h⟩ := h))) pure_is_slot_list
  have b_is_slot_list := FunD.bindsN (ps := ["value", "size"]) F_is_slot_list fun _ _ _ _ _ _ us hl => match us, hl with | [_, _], _ => rfl
  have g_is_slot_list : FnG Prg w K mg base "is_slot_list" _ _ _ sp_is_slot_list [] [] := ⟨c.glo X G 1 rfl, F_is_slot_list.kp, ⟨fd_is_slot_list, [], ok_is_slot_list, b_is_slot_list, .nil⟩, fun _ => .nil⟩
  have ok_is_whole := der_is_whole (P := Prg) (w := w) (base := base) F_is_whole T  (by intro as q e h; unfold sp_is_whole at h; repeat' (first | (obtain ⟨rfl, _⟩ := h; rfl) | (obtain ⟨_, h⟩ := h))) pure_is_whole
  have b_is_whole := FunD.bindsN (ps := ["value"]) F_is_whole fun _ _ _ _ _ _ us hl => match us, hl with | [_], _ => rfl
  have g_is_whole : FnG Prg w K mg base "is_whole" _ _ _ sp_is_whole [] [] := ⟨c.glo X G 2 rfl, F_is_whole.kp, ⟨fd_is_whole, [], ok_is_whole, b_is_whole, .nil⟩, fun _ => .nil⟩
  have ok_law_draw := der_law_draw (P := Prg) (w := w) (base := base) F_law_draw T  (by intro as q e h; unfold sp_law_draw at h; repeat' (first | (obtain ⟨rfl, _⟩ := h; rfl) | (obtain ⟨_, h⟩ := h))) pure_law_draw
  have b_law_draw := FunD.bindsN (ps := ["well", "many"]) F_law_draw fun _ _ _ _ _ _ us hl => match us, hl with | [_, _], _ => rfl
  have g_law_draw : FnG Prg w K mg base "_law_draw" _ _ _ sp_law_draw [] [] := ⟨c.glo X G 3 rfl, F_law_draw.kp, ⟨fd_law_draw, [], ok_law_draw, b_law_draw, .nil⟩, fun _ => .nil⟩
  have ok_law_due := der_law_due (P := Prg) (w := w) (base := base) F_law_due T  (by intro as q e h; unfold sp_law_due_k12 at h; repeat' (first | (obtain ⟨rfl, _⟩ := h; rfl) | (obtain ⟨_, h⟩ := h))) pure_law_due_k12
  have b_law_due := FunD.bindsN (ps := ["allowed", "timetable", "slots"]) F_law_due fun _ _ _ _ _ _ us hl => match us, hl with | [_, _, _], _ => rfl
  have g_law_due : FnG Prg w K mg base "_law_due" _ _ _ sp_law_due_k12 [] [] := ⟨c.glo X G 4 rfl, F_law_due.kp, ⟨fd_law_due, [], ok_law_due, b_law_due, .nil⟩, fun _ => .nil⟩
  have ok_law_open := der_law_open (P := Prg) (w := w) (base := base) F_law_open T  (by intro as q e h; unfold sp_law_open at h; repeat' (first | (obtain ⟨rfl, _⟩ := h; rfl) | (obtain ⟨_, h⟩ := h))) pure_law_open
  have b_law_open := FunD.bindsN (ps := ["slots", "allowed", "timetable"]) F_law_open fun _ _ _ _ _ _ us hl => match us, hl with | [_, _, _], _ => rfl
  have g_law_open : FnG Prg w K mg base "_law_open" _ _ _ sp_law_open [] [] := ⟨c.glo X G 5 rfl, F_law_open.kp, ⟨fd_law_open, [], ok_law_open, b_law_open, .nil⟩, fun _ => .nil⟩
  have ok_users_of_slots := der_users_of_slots (P := Prg) (w := w) (base := base) F_users_of_slots T  (by intro as q e h; unfold sp_users_of_slots at h; repeat' (first | (obtain ⟨rfl, _⟩ := h; rfl) | (obtain ⟨_, h⟩ := h))) pure_users_of_slots
  have b_users_of_slots := FunD.bindsN (ps := ["slots", "rows"]) F_users_of_slots fun _ _ _ _ _ _ us hl => match us, hl with | [_, _], _ => rfl
  have g_users_of_slots : FnG Prg w K mg base "_users_of_slots" _ _ _ sp_users_of_slots [] [] := ⟨c.glo X G 6 rfl, F_users_of_slots.kp, ⟨fd_users_of_slots, [], ok_users_of_slots, b_users_of_slots, .nil⟩, fun _ => .nil⟩
  have ok_check_book := der_check_book (P := Prg) (w := w) (base := base) F_check_book T g_is_whole g_is_slot_list (by intro as q e h; unfold sp_check_book at h; repeat' (first | (obtain ⟨rfl, _⟩ := h; rfl) | (obtain ⟨_, h⟩ := h))) pure_check_book
  have b_check_book := FunD.bindsN (ps := ["slots", "allowed"]) F_check_book fun _ _ _ _ _ _ us hl => match us, hl with | [_, _], _ => rfl
  have g_check_book : FnG Prg w K mg base "_check_book" _ _ _ sp_check_book [] [] := ⟨c.glo X G 7 rfl, F_check_book.kp, ⟨fd_check_book, [], ok_check_book, b_check_book, .nil⟩, fun _ => .nil⟩
  have ok_law_bent := der_law_bent (P := Prg) (w := w) (base := base) F_law_bent T g_law_draw (by intro as q e h; unfold sp_law_bent_k12 at h; repeat' (first | (obtain ⟨rfl, _⟩ := h; rfl) | (obtain ⟨_, h⟩ := h))) pure_law_bent_k12
  have b_law_bent := FunD.bindsN (ps := ["well", "some", "slots"]) F_law_bent fun _ _ _ _ _ _ us hl => match us, hl with | [_, _, _], _ => rfl
  have g_law_bent : FnG Prg w K mg base "_law_bent" _ _ _ sp_law_bent_k12 [] [] := ⟨c.glo X G 8 rfl, F_law_bent.kp, ⟨fd_law_bent, [], ok_law_bent, b_law_bent, .nil⟩, fun _ => .nil⟩
  have ok_law_book := der_law_book (P := Prg) (w := w) (base := base) F_law_book T g_law_draw (by intro as q e h; unfold sp_law_book at h; repeat' (first | (obtain ⟨rfl, _⟩ := h; rfl) | (obtain ⟨_, h⟩ := h))) pure_law_book
  have b_law_book := FunD.bindsN (ps := ["well", "most"]) F_law_book fun _ _ _ _ _ _ us hl => match us, hl with | [_, _], _ => rfl
  have g_law_book : FnG Prg w K mg base "_law_book" _ _ _ sp_law_book [] [] := ⟨c.glo X G 9 rfl, F_law_book.kp, ⟨fd_law_book, [], ok_law_book, b_law_book, .nil⟩, fun _ => .nil⟩
  have ok_tight_fault := der_tight_fault (P := Prg) (w := w) (base := base) F_tight_fault T g_is_below g_Book_size g_Book_users (by intro as q e h; unfold sp_tight_fault at h; repeat' (first | (obtain ⟨rfl, _⟩ := h; rfl) | (obtain ⟨_, h⟩ := h))) pure_tight_fault
  have b_tight_fault := FunD.bindsN (ps := ["book", "timetable", "slots"]) F_tight_fault fun _ _ _ _ _ _ us hl => match us, hl with | [_, _, _], _ => rfl
  have g_tight_fault : FnG Prg w K mg base "tight_fault" _ _ _ sp_tight_fault [] [] := ⟨c.glo X G 10 rfl, F_tight_fault.kp, ⟨fd_tight_fault, [], ok_tight_fault, b_tight_fault, .nil⟩, fun _ => .nil⟩
  have ok_Book_init := der_Book_init (P := Prg) (w := w) (base := base) F_Book_init T g_check_book g_users_of_slots (by intro as q e h; unfold sp_Book_init at h; repeat' (first | (obtain ⟨rfl, _⟩ := h; rfl) | (obtain ⟨_, h⟩ := h))) pure_Book_init
  have b_Book_init := FunD.bindsN (ps := ["self", "slots", "allowed"]) F_Book_init fun _ _ _ _ _ _ us hl => match us, hl with | [_, _, _], _ => rfl
  have g_Book_init : FnI Prg w K mg base "Book" _ _ _ _ sp_Book_init := ⟨(c.glo X G 30 rfl), He.mkr_ok (c.d.fact 32 rfl), ⟨fd_Book_init, ok_Book_init, b_Book_init⟩⟩
  have ok_check_timetable := der_check_timetable (P := Prg) (w := w) (base := base) F_check_timetable T g_Book_len g_Book_users g_is_below (by intro as q e h; unfold sp_check_timetable at h; repeat' (first | (obtain ⟨rfl, _⟩ := h; rfl) | (obtain ⟨_, h⟩ := h))) pure_check_timetable
  have b_check_timetable := FunD.bindsN (ps := ["book", "timetable"]) F_check_timetable fun _ _ _ _ _ _ us hl => match us, hl with | [_, _], _ => rfl
  have g_check_timetable : FnG Prg w K mg base "check_timetable" _ _ _ sp_check_timetable [] [] := ⟨c.glo X G 11 rfl, F_check_timetable.kp, ⟨fd_check_timetable, [], ok_check_timetable, b_check_timetable, .nil⟩, fun _ => .nil⟩
  have ok_check_tight := der_check_tight (P := Prg) (w := w) (base := base) F_check_tight T g_check_timetable g_tight_fault (by intro as q e h; unfold sp_check_tight at h; repeat' (first | (obtain ⟨rfl, _⟩ := h; rfl) | (obtain ⟨_, h⟩ := h))) pure_check_tight
  have b_check_tight := FunD.bindsN (ps := ["book", "timetable", "slots"]) F_check_tight fun _ _ _ _ _ _ us hl => match us, hl with | [_, _, _], _ => rfl
  have g_check_tight : FnG Prg w K mg base "check_tight" _ _ _ sp_check_tight [] [] := ⟨c.glo X G 12 rfl, F_check_tight.kp, ⟨fd_check_tight, [], ok_check_tight, b_check_tight, .nil⟩, fun _ => .nil⟩
  have ok_law_asked := der_law_asked (P := Prg) (w := w) (base := base) F_law_asked T g_check_tight (by intro as q e h; unfold sp_law_asked_k12 at h; repeat' (first | (obtain ⟨rfl, _⟩ := h; rfl) | (obtain ⟨_, h⟩ := h))) pure_law_asked_k12
  have b_law_asked := FunD.bindsN (ps := ["book", "timetable", "slots"]) F_law_asked fun _ _ _ _ _ _ us hl => match us, hl with | [_, _, _], _ => rfl
  have g_law_asked : FnG Prg w K mg base "_law_asked" _ _ _ sp_law_asked_k12 [] [] := ⟨c.glo X G 13 rfl, F_law_asked.kp, ⟨fd_law_asked, [], ok_law_asked, b_law_asked, .nil⟩, fun _ => .nil⟩
  have ok_law_right := der_law_right (P := Prg) (w := w) (base := base) F_law_right T g_law_book g_law_draw g_Book_init g_law_open g_law_bent g_law_due g_law_asked (by intro as q e h; unfold sp_law_right_k12 at h; repeat' (first | (obtain ⟨rfl, _⟩ := h; rfl) | (obtain ⟨_, h⟩ := h))) pure_law_right_k12
  have b_law_right := FunD.bindsN (ps := ["well"]) F_law_right fun _ _ _ _ _ _ us hl => match us, hl with | [_], _ => rfl
  have g_law_right : FnGR Prg w K mg base "_law_right" _ _ _ sp_law_right_k12 := ⟨c.glo X G 14 rfl, F_law_right.kp, ⟨fd_law_right, ok_law_right, b_law_right⟩⟩
  have ok_law := der_law (P := Prg) (w := w) (base := base) F_law T g_law_right (by intro as q e h; unfold sp_law_k12 at h; repeat' (first | (obtain ⟨rfl, _⟩ := h; rfl) | (obtain ⟨_, h⟩ := h))) pure_law_k12
  exact ok_law
end Law
open PySem PySem.W PySem.Calls PyProof.Rows
theorem PySem.Challenge.cw_reslot_k12_tight_sets_checked_holds : PySem.Challenge.rw_reslot_k12_tight_sets_checked.Holds := by
  w_on; o_law
  refine HandSHeadRun.head_any (r := OpenLaw.row PySem.Challenge.rw_reslot_k12_tight_sets_checked) (q := view (OpenLaw.row PySem.Challenge.rw_reslot_k12_tight_sets_checked).prog [28]) (H := Law.hk) (ob := Law.ob) (M := 20000) (loose := Law.loose) (d := HandSHeadRun.topDef (OpenLaw.row PySem.Challenge.rw_reslot_k12_tight_sets_checked).prog 28) (kwd := []) Law.ob_eq
    (by kernel_rfl) (fun s => by kernel_rfl) Law.run (by kernel_rfl) (by kernel_rfl) (by kernel_rfl) (by rfl) (by first | assumption | decide +kernel) (by decide +kernel) ⟨rfl, rfl, rfl, rfl, rfl, by decide +kernel⟩ ?hw ?hc
  case hw => w_witness2
  case hc =>
    refine PV.walk_ofR (l := PySem.Challenge.rw_reslot_k12_tight_sets_checked) (n := 63) (k := 7) (x := "script") rfl (by decide) (by kernel_rfl) ⟨rfl, by decide, by decide⟩ ?F
    intro w mg fa h Y G hmg0
    obtain ⟨K, KX, c⟩ := Y
    have hmg : mg ("law" : PySem.Str) = some (.ref fa) := by
      have e : (HandSHeadRun.topDef (OpenLaw.row PySem.Challenge.rw_reslot_k12_tight_sets_checked).prog 28).name = ("law" : PySem.Str) := by kernel_rfl
      rw [← e]
      exact hmg0
    obtain ⟨fd, hb, hF⟩ := Law.facts (w := w) KX G hmg c
    exact ⟨K, fd, PV.spOf ⟨mg, K, w⟩ Law.sp_law_k12, KX, hb, fun H a ns hl _ hS => PV.sp_start hS fun q e hq => ⟨ns, rfl, hl, hq⟩, hF⟩
#print axioms PySem.Challenge.cw_reslot_k12_tight_sets_checked_holds
