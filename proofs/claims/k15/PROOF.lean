import PyProof.Rows.All
import Wide.All
import OpenK.AllK
import Wide.FinOn
import KE.KExcTry
import KE.KExcIs
import PyProof.FString2
import HandS.ForExc
import HandS.ExcValue
import HandS.FStr
import HandS.IsInst
import HandS.ExcSuper
import HandS.ExcIs
import PyProof.FitsInt
import PyProof.ReprRoads
import HandS.ForMost
import HandS.Wide
import PyProof.LongRange
import HandS.WideBits
import KE.KBits
import KE.OsArith
import HandS.ForSpec
import HandS.Property
import HandS.RaiseMore
import KE.KStateDown
import HandS.HeadHook1
import HandS.Head0
import HandS.Head1
import HandS.Head2
import HandS.TupAny
import HandS.HeadHook2
import HandS.Head3
import HandS.HeadEnd
import HandS.Call
import KE.IntBitsLaws
import HandS.OwnEq
import KE.KxField
import HandS.Text
import HandS.StrMore
import PyProof.StrLawsIn
import HandS.Gcd
import HandS.Conv
import KE.KMathGC
import HandS.Zip
import HandS.More
import HandS.Walk
import HandS.Sort
import HandS.Style
import PySem.Challenge.RW_fillbands_k15_errors_of_counts
set_option Elab.async false
set_option linter.all false
set_option maxRecDepth 100000
set_option maxHeartbeats 4000000
namespace PySem
namespace FX
open PySem.W PySem.Calls PyProof.Rows PySem.HandSPX
/-! own exceptions whose __init__ says super().__init__(f'..') and stores one field -/
def fA (fld : Str) (p1 p2 : Pos) : Arguments := { posonlyargs := [], args := [{ arg := "self", annotation := none, pos := p1 }, { arg := fld, annotation := none, pos := p2 }], vararg := none, kwonlyargs := [], kw_defaults := [], kwarg := none, defaults := [] }
def fS (fld : Str) : Scope := { kind := .function, names := [(PySem.Str.ofString "self", .local), (fld, .local), (PySem.Str.ofString "__class__", .free), (PySem.Str.ofString "super", .globalImplicit)], isGenerator := false, isCoroutine := false, more := [] }
def fB (fld a : Str) (tl : List Expr) (p0 p1 p2 p3 p4 p5 p6 p7 p8 q1 q2 q3 q4 : Pos) (j : Nat) : List Stmt :=
  [.Expr (.Call (.Attribute (.Call (.Name "super" p0) [] [] p1) "__init__" p2) [.JoinedStr (.Constant (.str a) j p6 :: .FormattedValue (.Name fld p7) (-1) none p8 :: tl) p3] [] p4) p5,
   .Assign [.Attribute (.Name "self" q1) fld q2] (.Name fld q3) q4]
inductive Tl : List Expr → Prop where
  | nil : Tl []
  | one (b : Str) (j : Nat) (p : Pos) (h : b.length ≤ 1000) : Tl [.Constant (.str b) j p]
structure FldName (fld : Str) : Prop where
  l1 : (fS fld).names.lookup ("self" : Str) = some .local
  l2 : (fS fld).names.lookup fld = some .local
  l3 : (fS fld).names.lookup ("super" : Str) = some .globalImplicit
  l4 : (fS fld).names.lookup ("__class__" : Str) = some .free
  db : (fld == ("__debug__" : Str)) = false
  sf : (("self" : Str) == fld) = false
  bd : ∀ (qual : Str) (body : List Stmt) (r1 r2 : Pos) (doc pm : Value) (an : Option Addr) (cdv ct : Value) (cc : Addr) (u v : Value),
    bindArgs (ksFn "__init__" qual (fA fld r1 r2) body (fS fld) .none .none doc pm an cdv ct cc) ⟨[u, v], []⟩ = (pure [((PySem.Str.ofString "self" : Str), u), (fld, v)] : Sem (List (Str × Value)))
theorem fld_item : FldName "item" := ⟨rfl, rfl, rfl, rfl, by decide, by decide, fun _ _ _ _ _ _ _ _ _ _ _ _ => rfl⟩
theorem fld_part : FldName "part" := ⟨rfl, rfl, rfl, rfl, by decide, by decide, fun _ _ _ _ _ _ _ _ _ _ _ _ => rfl⟩
theorem fld_limit : FldName "limit" := ⟨rfl, rfl, rfl, rfl, by decide, by decide, fun _ _ _ _ _ _ _ _ _ _ _ _ => rfl⟩
theorem fld_count : FldName "count" := ⟨rfl, rfl, rfl, rfl, by decide, by decide, fun _ _ _ _ _ _ _ _ _ _ _ _ => rfl⟩
def EvOk (qual fld a : Str) (tl : List Expr) (p0 p1 p2 p3 p4 p6 p7 p8 : Pos) (j : Nat) (cdv : Value) (cc : Addr) : Prop := ∀ (L f : Addr), ∃ pl : Sem Bool,
    eval (.Call (.Attribute (.Call (.Name "super" p0) [] [] p1) "__init__" p2) [.JoinedStr (.Constant (.str a) j p6 :: .FormattedValue (.Name fld p7) (-1) none p8 :: tl) p3] [] p4) (ksEnv qual (fS fld) L f cdv cc) = (do
      let ov ← attributeBase (.Call (.Name "super" p0) [] [] p1) "__init__" (ksEnv qual (fS fld) L f cdv cc) (eval (.Call (.Name "super" p0) [] [] p1) (ksEnv qual (fS fld) L f cdv cc))
      standAt p2.atName
      let (fn, first) ← holding [ov] (getMethod ov "__init__" pl)
      callWith p4 fn first (backTo p4 (starEach [.JoinedStr (.Constant (.str a) j p6 :: .FormattedValue (.Name fld p7) (-1) none p8 :: tl) p3] (ksEnv qual (fS fld) L f cdv cc))) [])
/-- what the written part says of such a class, at C, and of its __init__, at fI -/
structure FldTxt (P : Program) (K : Frag) (mg : Str → Option Value) (cname fld a : Str) (tl : List Expr) (C fI : Addr) : Prop where
  nm : FldName fld
  gC : mg cname = some (.ref C)
  cls : ∃ nm q N bs bm sn sub ab col dd k0 k1 k2 k3 k5, K.lookup C = some (excClassObj nm q C N bs bm true sn sub ab col dd k0 k1 k2 k3 k5 "ValueError.__new__") ∧ refsVE bm = true ∧ alongIn K "__init__" bm = some (some (.builtin "ValueError.__init__"))
  sa : findIn K (.ref C) "__setattr__" = some (some (.builtin "object.__setattr__"))
  noN : findIn K (.ref C) fld = some none
  iC : findIn K (.ref C) "__init__" = some (some (.ref fI))
  tC : typeIn K (.ref fI) = some (.type "function")
  kC : keepIn K (.ref C) = true
  exV : subIn K (.ref C) (.type "ValueError") = some true
  mroC : mroIn K C (.ref C) = some true
  opq : nsIn K cStatics "thirdparty.any" = some none
  sup : mg "super" = none
  tlo : Tl tl
  al : a.length ≤ 1000
  top : (P.main.scope.names.lookup ("super" : Str)).isSome = false
  fn : ∃ (qual : Str) (oc : Value) (od : Option Addr) (doc pm : Value) (an : Option Addr) (cda cc : Addr) (ct : Value) (osl : Array (Option Value)) (r1 r2 p0 p1 p2 p3 p4 p5 p6 p7 p8 q1 q2 q3 q4 : Pos) (j : Nat),
    K.lookup fI = some ⟨oc, od, .func (ksFn "__init__" qual (fA fld r1 r2) (fB fld a tl p0 p1 p2 p3 p4 p5 p6 p7 p8 q1 q2 q3 q4 j) (fS fld) .none .none doc pm an (.ref cda) ct cc), osl⟩ ∧ codeIn K (.ref cda) qual = true ∧
    (∃ (ccl : Value) (cdd : Option Addr) (vs : Array Value) (ccs : Array (Option Value)) (file : Str) (tf : Tok), K.lookup cda = some ⟨ccl, cdd, .fields vs, ccs⟩ ∧ vs[2]? = some (.str file tf) ∧ ((P.main.file : Str) == file) = true) ∧
    (∃ (cl : Value) (cld : Option Addr) (csl : Array (Option Value)), K.lookup cc = some ⟨cl, cld, .cell (some (.ref C)), csl⟩) ∧
    EvOk qual fld a tl p0 p1 p2 p3 p4 p6 p7 p8 j (.ref cda) cc
/-- a field's value: None, or an int that may be shown -/
inductive FV : Value → Prop where
  | non : FV .none
  | int (i : Int) (t : Tok) (h : i.natAbs.log2 < 1920) : FV (.int i t)
theorem one_size (v : Value) : [v].length ≤ sizeLine := by
  rw [sizeLine_eq]
  exact (by decide : 1 ≤ 16777216)
theorem kept_but {K : Frag} {h h' : Heap} {x : Addr} (X : K.In h) (hx : K.lookup x = none) (k : ∀ b o, b ≠ x → h.get? b = some o → h'.get? b = some o) : K.In h' := fun a o e =>
  k a o (fun z => by rw [z, hx] at e; cases e) (X a o e)
/-- what __init__ leaves of a fresh exception at x -/
structure InitEnd (h h' : Heap) (fld : Str) (x C dx t1 : Addr) (v : Value) : Prop where
  keep : ∀ b o, b ≠ x → h.get? b = some o → h'.get? b = some o
  obj : h'.get? x = some { cls := .ref C, dict := some dx, data := .fields #[.ref t1, .none, .none, .none, .bool false, .none] }
  dbig : h.objs.size ≤ dx
  dne : dx ≠ x
  ns : h'.Ns1 dx (fun y => if y = fld then some v else none)
/-- a made exception of such a class -/
structure FMade (h h' : Heap) (fld : Str) (e C d : Addr) (v : Value) : Prop where
  keep : ∀ b o, h.get? b = some o → h'.get? b = some o
  new : h.objs.size ≤ e
  obj : ∃ t1 : Addr, h'.get? e = some { cls := .ref C, dict := some d, data := .fields #[.ref t1, .none, .none, .none, .bool false, .none] }
  dbig : h.objs.size ≤ d
  dne : d ≠ e
  ns : h'.Ns1 d (fun y => if y = fld then some v else none)
section
variable {prog : Program} {w : World} {A : Around} {E : Value → Shared → Prop}
theorem fv_field {env : Env} {v : Value} {fld : Str} {p7 p8 : Pos} {s : Shared} {m : Str → Option Value} (hv : FV v) (hn : s.heap.Ns env.locals m) (hm : m fld = some v)
    (hk : env.scope.kind = .function) (hl : env.kindOf fld = some .local) (hd : (fld == ("__debug__" : Str)) = false) {Q : Value → Shared → Prop}
    (hq : ∀ (y : Str) (t tk : Nat), y.length ≤ 10000 → Q (.str y t) { s with toks := tk }) :
    wpAny (model prog w) A (eval (.FormattedValue (.Name fld p7) (-1) none p8) env) Q E s := by
  refine wpAny_FormattedValue_plain (PySem.ESX.ldL hn hm ?_ hk hl hd)
  cases hv with
  | non => exact wpAny_formatField_none (hq _ _ _ (by decide))
  | int i t h =>
    refine wpAny_formatField_int h (hq _ _ _ ?_)
    have e := int_text_length_le (k := 1920) (by decide) h
    rw [ofString_length]
    omega
theorem fv_joined {env : Env} {v : Value} {fld a : Str} {tl : List Expr} {p3 p6 p7 p8 : Pos} {j : Nat} {s : Shared} {m : Str → Option Value} (hv : FV v) (ha : a.length ≤ 1000) (htl : Tl tl) (hn : s.heap.Ns env.locals m) (hm : m fld = some v)
    (hk : env.scope.kind = .function) (hl : env.kindOf fld = some .local) (hd : (fld == ("__debug__" : Str)) = false) {Q : Value → Shared → Prop}
    (hq : ∀ (y : Str) (t tk : Nat), Q (.str y t) { s with toks := tk }) :
    wpAny (model prog w) A (eval (.JoinedStr (.Constant (.str a) j p6 :: .FormattedValue (.Name fld p7) (-1) none p8 :: tl) p3) env) Q E s := by
  refine wpAny_JoinedStr ?_
  have e1 : evalEach (.Constant (.str a) j p6 :: .FormattedValue (.Name fld p7) (-1) none p8 :: tl) env = eval (.Constant (.str a) j p6) env :: eval (.FormattedValue (.Name fld p7) (-1) none p8) env :: evalEach tl env := by first | rfl | simp [evalEach]
  rw [e1]
  have e0 : ∀ y : Str, Str.empty ++ y = y := fun y => by first | rfl | simp [Str.empty_append]
  refine Calls.Constant_str ⟨a, _, rfl, ?_, ?_⟩
  · rw [sizeLine_eq, e0]
    omega
  refine fv_field (s := { s with toks := s.toks + 1 }) hv hn hm hk hl hd fun y t tk hy => ⟨y, t, rfl, ?_, ?_⟩
  · rw [e0, sizeLine_eq, Str.length_append]
    omega
  cases htl with
  | nil =>
    have e2 : evalEach [] env = [] := by first | rfl | simp [evalEach]
    rw [e2]
    refine ⟨?_, hq _ _ _⟩
    rw [e0, sizeLine_eq, Str.length_append]
    omega
  | one b j' p' hb =>
    have e2 : evalEach [.Constant (.str b) j' p'] env = [eval (.Constant (.str b) j' p') env] := by first | rfl | simp [evalEach]
    rw [e2]
    refine Calls.Constant_str ⟨b, _, rfl, ?_, ?_⟩
    · rw [e0, sizeLine_eq, Str.length_append, Str.length_append]
      omega
    · refine ⟨?_, hq _ _ _⟩
      rw [e0, sizeLine_eq, Str.length_append, Str.length_append]
      omega
section
variable {R : Result → Shared → Prop} {s : Shared} {K : Frag} {mg : Str → Option Value} {cname fld a : Str} {tl : List Expr} {C fI : Addr}
/-- the built-in ValueError.__init__, bound to the object, called -/
theorem call_bwV {u e t0 : Addr} {rest : List Value} {nm q : Str} {N : Addr} {bs bm : List Value} {sn : List Str} {sub : List Value} {ab : Bool} {col : Option Bool} {dd : Option Addr} {k0 k1 k2 k3 k5 : Option Value} {Q : Value → Shared → Prop}
    (hC : s.heap.get? C = some (excClassObj nm q C N bs bm true sn sub ab col dd k0 k1 k2 k3 k5 "ValueError.__new__")) (he : s.heap.get? e = some (excO C t0)) (hu : s.heap.get? u = some (kxs_mw "ValueError.__init__" e)) (hrest : rest.length ≤ sizeLine)
    (hq : ∀ h' t1, (∀ b o, b ≠ e → s.heap.get? b = some o → h'.get? b = some o) → h'.get? e = some (excO C t1) → Q .none { s with heap := h' }) :
    wpAny (model prog w) A (call (.ref u) rest) Q E s := by
  obtain ⟨hh, g, d, tk, os⟩ := s
  refine wpAny_call (codeAny_of_tree ?_)
  show wpAny _ A.in1 (callAny (.ref u) ⟨rest, []⟩) _ _ _
  simp only [callAny]
  refine wpAny_bind (wpAny_load hu ?_)
  simp only [kxs_mw, show (Value.type "method-wrapper" == Value.type "method" || Value.type "method-wrapper" == Value.type "builtin_function_or_method" || Value.type "method-wrapper" == Value.type "method-wrapper") = true by decide, if_true]
  refine KFB.if_so (by decide) ?_
  refine wpAny_bind (check_bound_init PySem.F.excBase_ValueError.toExcCallFacts hC he rfl ?_)
  refine wpAny_bind (wpAny_pure (wpAny_pure ?_))
  refine ⟨plainId_quiet PySem.F.excBase_ValueError.init.plain _, codeAny_builtin PySem.F.excBase_ValueError.initEntry ?_⟩
  exact exc_init_tree (cls := .ref C) (t0 := t0) (dv := none) (c2 := .none) (c3 := .none) (b4 := .bool false) he hrest fun h' k e1 _ => hq h' _ k e1
theorem looks_mro_of {M : Model} {h : Heap} {cd : ClassData} (X : K.In h) (hc : clsIn K C = some cd) : Looks M h (mroOf (.ref C)) cd.mro :=
  fun A Q E s k q => wpAny_bind ((looks_clsIn X hc) A _ E s k (wpAny_pure q))
theorem fld_init (T : FldTxt prog K mg cname fld a tl C fI) {x t0 : Addr} {v : Value} {mb : Str → Option Value} (X : K.In s.heap) (hlim : s.heap.NoLimit) (hg : s.heap.Ns mainGlobals mg) (hb : s.heap.Ns builtinsNs mb) (hbs : mb "super" = some (.type "super"))
    (hx : s.heap.get? x = some (excO C t0)) (hnx : K.lookup x = none) (hroom : A.depth < recursionLimit) (hv : FV v)
    (hq : ∀ h' tk dx t1, InitEnd s.heap h' fld x C dx t1 v → R (.ok (.ret .none)) { s with heap := h', toks := tk }) :
    codeAny (model prog w) A (.call (.ref fI) ⟨[.ref x, v], []⟩) R s := by
  obtain ⟨qual, oc, od, doc, pm, an, cda, cc, ct, osl, r1, r2, p0, p1, p2, p3, p4, p5, p6, p7, p8, q1, q2, q3, q4, j, ho, hcd, ⟨ccl, cdd, vs, ccs, file, tf, hcode, hvs, hfile⟩, ⟨cl, cld, csl, hcell⟩, hevs⟩ := T.fn
  obtain ⟨nm, q, N, bs, bm, sn, sub, ab, col, dd, k0, k1, k2, k3, k5, hC, hbm, hal⟩ := T.cls
  have hcl : clsIn K C = some { name := nm, bases := bs, mro := .ref C :: bm, ns := N, qualname := q, hasDict := true, slotNames := sn, subclasses := sub, abstract := ab, collection := col, hasDel := false } := by unfold clsIn; rw [hC] <;> rfl
  have nm1 := T.nm
  have hlen : ∀ y ∈ (fS fld).names, y.2 ≠ .cell := by
    intro y hy
    simp only [fS, List.mem_cons, List.not_mem_nil, or_false] at hy
    rcases hy with rfl | rfl | rfl | rfl <;> intro z <;> cases z
  have hloc : ∀ y ∈ [((PySem.Str.ofString "self" : Str), Value.ref x), (fld, v)], (fS fld).names.lookup y.1 = some .local := by
    intro y hy
    simp only [List.mem_cons, List.not_mem_nil, or_false] at hy
    rcases hy with rfl | rfl
    · exact nm1.l1
    · exact nm1.l2
  refine ks_codeAny_call_defAt (fd := ksFn "__init__" qual (fA fld r1 r2) (fB fld a tl p0 p1 p2 p3 p4 p5 p6 p7 p8 q1 q2 q3 q4 j) (fS fld) .none .none doc pm an (.ref cda) ct cc) (body := fB fld a tl p0 p1 p2 p3 p4 p5 p6 p7 p8 q1 q2 q3 q4 j)
    (binds := [("self", .ref x), (fld, v)]) hroom (X _ _ ho) rfl hlim (codeRec_of X hcd) rfl (BindsTo.of_eq (nm1.bd _ _ _ _ _ _ _ _ _ _ _ _)) hlen hloc (fun h₁ hns k => ?_)
  have X₁ : K.In h₁ := X.keeps k
  have hx₁ := k _ _ hx
  have hxC : x ≠ C := fun z => by
    have hc := X _ _ hC
    rw [← z, hx] at hc
    exact absurd (Option.some.inj hc) (by intro y; cases y)
  have mself : (fun y => List.lookup y [(PySem.Str.ofString "self", Value.ref x), (fld, v)].reverse) (PySem.Str.ofString "self") = some (Value.ref x) := by
    show List.lookup (PySem.Str.ofString "self") [(fld, v), (PySem.Str.ofString "self", Value.ref x)] = some (Value.ref x)
    simp [List.lookup, nm1.sf]
  have mfld : (fun y => List.lookup y [(PySem.Str.ofString "self", Value.ref x), (fld, v)].reverse) fld = some v := by
    show List.lookup fld [(fld, v), (PySem.Str.ofString "self", Value.ref x)] = some v
    simp [List.lookup]
  obtain ⟨pl, hev⟩ := hevs s.heap.objs.size fI
  refine ks_wpAt_execs_cons (ks_wpAt_Expr_any (ks_wpAt_MethodCall (pl := pl) ?_ hev))
  refine ks_wpAt_super_base (env := ksEnv qual (fS fld) s.heap.objs.size fI (.ref cda) cc) (attr := "__init__") (ar := { arg := "self", annotation := none, pos := r1 }) nm1.l3 nm1.l4 (by decide) rfl (X₁ _ _ ho) rfl rfl rfl (X₁ _ _ hcode) rfl hvs hfile T.top ?_
  refine ks_loadName_global (env := ksEnv qual (fS fld) s.heap.objs.size fI (.ref cda) cc) rfl nm1.l3 (Calls.loadGlobal_builtin (env := ksEnv qual (fS fld) s.heap.objs.size fI (.ref cda) cc) (hg.keeps k) T.sup (hb.keeps k) hbs ⟨rfl, ?_⟩)
  refine wpAny_loadName_free rfl nm1.l4 rfl ⟨_, X₁ _ _ hcell, rfl⟩ ?_
  refine wpAny_loadName_local rfl nm1.l1 hns mself ?_
  refine ks_wpAny_isType_cls (X₁ _ _ hC) rfl ⟨rfl, ?_⟩
  refine ks_wpAny_call_super (X₁ _ _ hC) rfl hx₁ rfl (fun c e => by cases e) (looks_mroIn X₁ T.mroC) (fun h2 e2 k2 => ?_)
  have X₂ : K.In h2 := X₁.keeps k2
  have hx₂ := k2 _ _ hx₁
  have hns2 : h2.Ns s.heap.objs.size _ := hns.keeps k2
  have I2 : InstAt h2 x (excO C t0) C none := ⟨hx₂, rfl, rfl, trivial⟩
  refine kxs_getMethod kxs_ValueError e2 (looks_opaque X₂ T.opq) (l₀ := .ref C :: bm) (looks_mro_of X₂ hcl) (by simp [List.dropWhile_cons]) X₂ hal (I2.type.andThen (looks_subIn X₂ T.exV)) hxC (by decide) ?_
  have hx₃ : (h2.push (kxs_mw "ValueError.__init__" x)).get? x = some (excO C t0) := Heap.get?_push_of_some _ hx₂
  have hu₃ : (h2.push (kxs_mw "ValueError.__init__" x)).get? h2.objs.size = some (kxs_mw "ValueError.__init__" x) := Heap.get?_push_at rfl rfl
  have k3 : ∀ b o, h₁.get? b = some o → (h2.push (kxs_mw "ValueError.__init__" x)).get? b = some o := fun b o e => Heap.get?_push_of_some _ (k2 b o e)
  have hns3 := hns.keeps k3
  refine kxs_callWith (i := "ValueError.__init__") (x := x) (by rfl) (evalArgs_plain ?_)
  show wpAny _ _ (spliced ((false, eval (.JoinedStr (.Constant (.str a) j p6 :: .FormattedValue (.Name fld p7) (-1) none p8 :: tl) p3) (ksEnv qual (fS fld) s.heap.objs.size fI (.ref cda) cc)) :: backTo p4 (starEach [] (ksEnv qual (fS fld) s.heap.objs.size fI (.ref cda) cc)))) _ _ _
  refine Calls.spliced_cons (fv_joined (env := ksEnv qual (fS fld) s.heap.objs.size fI (.ref cda) cc) (fld := fld) hv T.al T.tlo hns3 mfld rfl nm1.l2 nm1.db fun y t tk => ?_)
  refine Calls.spliced_nil ⟨hu₃, ?_⟩
  refine call_bwV ((X₁.keeps k3) _ _ hC) hx₃ hu₃ (one_size _) fun h4 t4 k4 hx4 => ?_
  have xL : s.heap.objs.size ≠ x := Nat.ne_of_gt (Heap.lt_size hx)
  have hns4 : h4.Ns s.heap.objs.size (fun y => List.lookup y [(PySem.Str.ofString "self", Value.ref x), (fld, v)].reverse) := by
    obtain ⟨oL, es, ep, hL, r⟩ := hns3
    exact ⟨oL, es, ep, k4 _ _ xL hL, r⟩
  have X₄ : K.In h4 := kept_but (X₁.keeps k3) hnx k4
  have k04 : ∀ b o, b ≠ x → s.heap.get? b = some o → h4.get? b = some o := fun b o hb e => k4 b o hb (k3 b o (k b o e))
  show wpAt _ _ _ (execs [Stmt.Assign [(Expr.Name (Str.ofString "self") q1).Attribute fld q2] (Expr.Name fld q3) q4] _) _ _ _
  refine ks_wpAt_execs_cons (ks_wpAt_Assign_Attr (wpAt_of_wpAny ?_))
  refine PySem.ESX.ldL (env := ksEnv qual (fS fld) s.heap.objs.size fI (.ref cda) cc) hns4 mfld ?_ rfl nm1.l2 nm1.db
  refine PySem.ESX.ldL (env := ksEnv qual (fS fld) s.heap.objs.size fI (.ref cda) cc) hns4 mself ?_ rfl nm1.l1 (by decide)
  refine set_plain X₄ (ox := excO C t4) (od := none) ⟨hx4, rfl, rfl, trivial⟩ T.sa ?_
  refine exc_osa X₄ hx4 hcl (show refsVE (.ref C :: bm) = true from hbm) rfl T.noN (fun h₅ tk₅ dx k₅ dn dne hx₅ hn₅ => ?_)
  show wpAt _ _ _ (execs [] _) _ _ _
  refine wpAt_of_wpAny (wpAny_execs_nil (hq h₅ tk₅ dx t4 ⟨fun b o hb e => k₅ b o hb (k04 b o hb e), hx₅, ?_, dne, hn₅⟩))
  have z : s.heap.objs.size < h4.objs.size := hns4.lt
  exact Nat.le_of_lt (Nat.lt_of_lt_of_le z dn)
theorem fld_made (T : FldTxt prog K mg cname fld a tl C fI) {v : Value} {mb : Str → Option Value} (X : K.In s.heap) (hlim : s.heap.NoLimit) (hg : s.heap.Ns mainGlobals mg) (hb : s.heap.Ns builtinsNs mb) (hbs : mb "super" = some (.type "super"))
    (hroom : A.depth + 1 < recursionLimit) (hv : FV v)
    (hq : ∀ h' tk e d, FMade s.heap h' fld e C d v → R (.ok (.ret (.ref e))) { s with heap := h', toks := tk }) :
    codeAny (model prog w) A (.call (.ref C) ⟨[v], []⟩) R s := by
  obtain ⟨nm, q, N, bs, bm, sn, sub, ab, col, dd, k0, k1, k2, k3, k5, hC, hbm, hal⟩ := T.cls
  obtain ⟨hp, g, dr, tk, os⟩ := s
  have k : ∀ b o, hp.get? b = some o → ((hp.push (kdv_tup [v])).push (excO C hp.objs.size)).get? b = some o := fun b o e => Heap.get?_push_of_some _ (Heap.get?_push_of_some _ e)
  have hget : ((hp.push (kdv_tup [v])).push (excO C hp.objs.size)).get? (hp.objs.size + 1) = some (excO C hp.objs.size) := by heap_get
  have hnx : K.lookup (hp.objs.size + 1) = none := by
    cases e : K.lookup (hp.objs.size + 1) with
    | none => rfl
    | some o =>
      have z : hp.get? (hp.objs.size + 1) = some o := X _ _ e
      exact absurd (Nat.lt_of_succ_lt (Heap.lt_size z)) (Nat.lt_irrefl _)
  refine call_own F.excBase_ValueError (fun X => refsVE_contains X bm hbm) (X _ _ hC) (looks_findIn X T.iC) (fun self => bind_fn X self T.tC) (one_size v) ?_
  refine fld_init (s := ⟨(hp.push (kdv_tup [v])).push (excO C hp.objs.size), g, dr, tk, os⟩) T (X.keeps k) (hlim.keeps k) (hg.keeps k) (hb.keeps k) hbs hget hnx ?_ hv fun h' tk' dx t1 ⟨k', hx, dn, dne, hns⟩ => ?_
  · show A.depth + 1 < recursionLimit
    exact hroom
  · have old : ∀ b o, hp.get? b = some o → h'.get? b = some o := fun b o e => k' b o (Nat.ne_of_lt (Nat.lt_succ_of_lt (Heap.lt_size e))) (k b o e)
    have z : hp.objs.size + 1 + 1 ≤ dx := by
      first
        | (simpa only [Heap.size_push] using dn)
        | exact dn
        | (have q := dn; rw [Heap.size_push, Heap.size_push] at q; exact q)
    exact ⟨rfl, hq h' tk' (hp.objs.size + 1) dx ⟨old, Nat.le_succ _, ⟨_, hx⟩, Nat.le_trans (Nat.le_trans (Nat.le_succ _) (Nat.le_succ _)) z, dne, hns⟩⟩
end
end
end FX
end PySem
namespace L2
open PySem PySem.Spec PyProof.Rows
/-- an exception of the class at C with its own dict at d, not raised, at a -/
def ExF (C d a : Addr) : HO := .ext fun h => ∃ t1 : Addr, h.get? a = some ({ cls := .ref C, dict := some d, data := .fields #[.ref t1, .none, .none, .none, .bool false, .none] } : Obj)
theorem exF_ok {P : Program} {w : World} {H : Hp} {h : Heap} {a C d t1 : Addr} (e : h.get? a = some ({ cls := .ref C, dict := some d, data := .fields #[.ref t1, .none, .none, .none, .bool false, .none] } : Obj)) : ObjOk P w H h a (ExF C d a) :=
  ⟨⟨t1, e⟩, ⟨_, e⟩, fun _ _ ⟨t, q⟩ k => ⟨t, k _ q⟩⟩
/-- what such a class is called with -/
def FldV (v : V) : Prop := v = .non ∨ ∃ i : Int, v = .int i ∧ i.natAbs.log2 < 1920
theorem FldV.of {v : V} {u : Value} (h : FldV v) (r : RelV v u) : PySem.FX.FV u := by
  rcases h with rfl | ⟨i, rfl, hi⟩
  · cases (show u = Value.none from r)
    exact .non
  · obtain ⟨t, rfl⟩ := (show ∃ t, u = Value.int i t from r)
    exact .int i t hi
theorem relO_one {v : V} {v' : Value} (fld : Str) (r : RelV v v') (f : Str) : RelO (List.lookup f [(fld, v)]) (if f = fld then some v' else none) := by
  by_cases hw : f = fld
  · subst hw
    rw [if_pos rfl]
    have q : List.lookup f [(f, v)] = some v := by simp [List.lookup]
    rw [q]
    exact r
  · rw [if_neg hw]
    have qw : (f == fld) = false := by simpa using hw
    have q2 : List.lookup f [(fld, v)] = none := by simp [List.lookup, qw]
    rw [q2]
    trivial
section
variable {X : Cx}
/-- C(e), C an own exception class with one field: the new exception, its dict -/
def tMkF (C : Addr) (fld : Str) (te : TE) : TE := fun σ H Q => te σ H fun v H1 => FldV v ∧ ∀ a d, H1 a = none → H1 d = none → d ≠ a → Q (.ref a) (upd (upd H1 d (.xd [(fld, v)])) a (ExF C d a))
theorem pe_mkF {cname fld fa : Str} {tl : List Expr} {C fI : Addr} {e : Expr} {te : TE} {p pos : Pos} {k : Nat} (T : PySem.FX.FldTxt X.prog X.K X.mg cname fld fa tl C fI) (hr : Room k X.A) (hg : Gl X cname)
    (he : PE X e te) (hs : starEach [e] X.env = (false, eval e X.env) :: starEach [] X.env := by rfl) (hdb : (cname == ("__debug__" : Str)) = false := by decide) :
    PE X (.Call (.Name cname p) [e] [] pos) (tMkF C fld te) := by
  refine ⟨fun pins s σ H Q I h => ?_⟩
  refine wpAny_Call_Name_kw (ld_glob I hg T.gC ?_ hdb)
  refine PySem.W.callWith_K (h₀ := X.base) I.ok.mod.kin T.kC ?_ hs (by rfl)
  rw [hs]
  show wpAny _ _ (spliced ((false, eval e X.env) :: backTo pos (starEach [] X.env))) _ _ s
  refine Calls.spliced_cons (thn (he.run pins s σ H _ I h) fun u s1 ⟨v, H1, I1, r1, hfv, q1⟩ => ?_)
  refine Calls.spliced_nil ⟨I1.kIn, ?_⟩
  show wpAny _ _ (call (.ref C) [u]) _ _ _
  obtain ⟨mb, b1, b2⟩ := I1.mod.blt
  have hlim := I1.nolimit
  have hgl := I1.mod.glob.keeps I1.bk
  have hbl := b1.keeps I1.bk
  have hbs : mb "super" = some (.type "super") := (b2 _ (by decide)).trans (by first | exact PyProof.Rows.Boot.super | rfl | decide +kernel)
  obtain ⟨hp, g, dr, tk, os⟩ := s1
  refine wpAny_call (PySem.FX.fld_made T I1.kIn hlim hgl hbl hbs (by have := hr.dp; omega) (hfv.of r1) fun h' tk' a d M => ?_)
  obtain ⟨t1, hoe⟩ := M.obj
  have hns := M.ns
  obtain ⟨G', g1, g2⟩ := restrict h' fun b => decide (b ≠ a)
  have gk : ∀ b, b ≠ a → G'.get? b = h'.get? b := fun b hb => g1 b (decide_eq_true hb)
  have ge : G'.get? a = none := g2 a (by simp)
  have old : ∀ b o, hp.get? b = some o → G'.get? b = some o := fun b o q => (gk b (Nat.ne_of_lt (Nat.lt_of_lt_of_le (Heap.lt_size q) M.new))).trans (M.keep b o q)
  have ob : ObjOk X.prog X.w (upd H1 d (.xd [(fld, v)])) G' d (.xd [(fld, v)]) := ⟨_, hns.at (fun o q => (gk d M.dne).trans q), fun f => relO_one fld r1 f⟩
  have J : Inv X pins σ (upd H1 d (.xd [(fld, v)])) ⟨G', g, dr, tk', os⟩ := I1.laid (t' := tk') old M.dbig ob
  have na : H1 a = none := I1.hok.fresh M.new
  have nd : H1 d = none := I1.hok.fresh M.dbig
  have na2 : (upd H1 d (.xd [(fld, v)])) a = none := by rw [upd_ne (Ne.symm M.dne)]; exact na
  have sub : ∀ b o, G'.get? b = some o → h'.get? b = some o := fun b o q => by
    by_cases hb : b = a
    · rw [hb, ge] at q; cases q
    · exact (gk b hb).symm.trans q
  have J2 := J.laidN (t' := tk') (a := a) (o := ExF C d a) (h' := h') sub ge na2 (exF_ok hoe)
  exact ⟨.ref a, _, J2, rfl, q1 a d na nd M.dne⟩
end
end L2
namespace L2
open PySem PySem.Spec PyProof.Rows
/-- at a: an exception object of the class at D, without an own dict or with one -/
def IsX (H : Hp) (a D : Addr) : Prop := H a = some (ExO (.ref D) a) ∨ ∃ d fs, H a = some (ExF D d a) ∧ H d = some (.xd fs)
theorem isX_inst {X : Cx} {pins : List (Addr × Obj)} {σ : St} {H : Hp} {s : Shared} {a D : Addr} (I : Inv X pins σ H s) (h : IsX H a D) : ∃ oe od, PySem.W.InstAt s.heap a oe D od := by
  rcases h with h | ⟨d, fs, h, hd⟩
  · obtain ⟨⟨oe, vs, ho, hz, hv, _⟩, _, _⟩ := I.hok a _ h
    refine ⟨oe, none, ?_⟩
    obtain ⟨oc, od, oda, osl⟩ := oe
    obtain ⟨h1, h2⟩ := hz
    dsimp only at h1 h2 hv
    subst h1 h2 hv
    exact ⟨ho, rfl, rfl, trivial⟩
  · obtain ⟨⟨t1, ho⟩, _, _⟩ := I.hok a _ h
    obtain ⟨mA, ⟨od, es, ep, hod, _⟩, _⟩ := (show ObjOk X.prog X.w H s.heap d (.xd fs) from I.hok d _ hd)
    exact ⟨_, some od, ho, rfl, rfl, hod⟩
/-- isinstance(e, c), e a tracked exception object -/
def rIsX (K : PySem.W.Frag) : List V → Hp → VK → Prop := fun xs H Q => ∃ (a D : Addr) (c : V) (cv : Value) (b : Bool), xs = [.ref a, c] ∧ IsX H a D ∧ ExcC K D ∧ (∀ u, RelV c u → u = cv) ∧ PySem.W.kitOne K (.ref D) cv = some b ∧ Q (.bl b) H
theorem call_isX {X : Cx} : CallR X (.builtin "isinstance") (rIsX X.K) := by
  intro pins s σ H xs us Q I r h
  obtain ⟨a, D, c, cv, b, rfl, hx, C, hcv, e, q⟩ := h
  cases r with
  | cons rx rr =>
    cases rr with
    | cons rt rr =>
      cases rr
      cases rx
      have ec := hcv _ rt
      subst ec
      obtain ⟨oe, od, J⟩ := isX_inst I hx
      have hcl : (PySem.W.clsIn X.K D).isSome = true := by
        obtain ⟨cd, hc, _⟩ := PySem.W.any_some C.hd
        rw [hc] <;> rfl
      exact PySem.W.kia_one (PySem.W.kitx_exc hcl C.hg C.hk C.hs C.ha C.hn C.ht C.hm) I.kIn J e (fun z => nomatch z) fun tk => ⟨.bl b, H, I.kept (t' := tk) fun _ _ z => z, rfl, q⟩
/-- e.fld, e a tracked exception with its own dict -/
def tFldX (K : PySem.W.Frag) (fld : Str) (te : TE) : TE := fun σ H Q => te σ H fun x H1 => ∃ (a d C : Addr) (fs : List (Str × V)) (v : V), x = .ref a ∧ H1 a = some (ExF C d a) ∧ H1 d = some (.xd fs) ∧ fs.lookup fld = some v ∧ ExcC K C ∧ PySem.W.findIn K (.ref C) fld = some none ∧ Q v H1
theorem pe_fldX {X : Cx} {e : Expr} {te : TE} {fld : Str} {pos : Pos} (he : PE X e te) (hb : attributeBase e fld X.env (eval e X.env) = eval e X.env := by rfl) : PE X (.Attribute e fld pos) (tFldX X.K fld te) := by
  refine ⟨fun pins s σ H Q I h => ?_⟩
  refine attr_of hb (thn (he.run pins s σ H _ I h) fun u s1 hh => ?_)
  obtain ⟨x, H1, I1, rx, a, d, C, fs, v, ex, ha, hd, hl, T, hno, q⟩ := hh
  subst ex
  obtain rfl : u = Value.ref a := rx
  obtain ⟨⟨t1, ho⟩, _, _⟩ := I1.hok a _ ha
  obtain ⟨mA, hns, hr⟩ := (show ObjOk X.prog X.w H1 s1.heap d (.xd fs) from I1.hok d _ hd)
  obtain ⟨od, hod, hlk⟩ := lookIn_ns hns
  obtain ⟨w', hw, rw'⟩ := RelO.some_of (v := v) (o := mA fld) (by rw [← hl]; exact hr fld)
  have J : PySem.W.InstAt s1.heap a _ C (some od) := ⟨ho, rfl, rfl, hod⟩
  exact HandSPX.exc_get I1.kIn J T.hg T.hk T.hs (PySem.W.findObj_own T.hd hno rfl (by rw [hlk, hw])) (handed_of rw') ⟨v, H1, I1.tok _, rw', q⟩
end L2
/-! try: .. except X as n: suite, where the suite keeps the exception (known = n): the exception is tracked from the catch on. -/
namespace L2
open PySem PySem.Spec PyProof.Rows
/-- at a: an exception of the class cls, its own dict d, caught once -/
def ExT (cls : Value) (d : Option Addr) (a : Addr) : HO := .ext fun h => ∃ (oe : Obj) (vs : Array Value), h.get? a = some oe ∧ Zc cls d oe ∧ oe.data = .fields vs
theorem exT_ok {P : Program} {w : World} {H : Hp} {h : Heap} {a : Addr} {cls : Value} {d : Option Addr} {oe : Obj} {vs : Array Value} (e : h.get? a = some oe) (z : Zc cls d oe) (hd : oe.data = .fields vs) : ObjOk P w H h a (ExT cls d a) :=
  ⟨⟨oe, vs, e, z, hd⟩, ⟨oe, e⟩, fun _ _ ⟨o, v, q, r⟩ k => ⟨o, v, k o q, r⟩⟩
section
variable {X : Cx} {pins : List (Addr × Obj)} {σ : L2.St} {H : Hp} {s : Shared}
/-- an object that came into being behind the entry is tracked from now on -/
theorem Inv.track {a : Addr} {o : HO} (I : Inv X pins σ H s) (na : H a = none) (n0 : X.s_0.heap.get? a = none) (nL : a ≠ X.env.locals) (nc : ∀ x c, X.env.cells.lookup x = some c → c ≠ a) (np : ∀ p ∈ X.pn ++ pins, p.1 ≠ a)
    (new : ObjOk X.prog X.w (upd H a o) s.heap a o) : Inv X pins σ (upd H a o) s := by
  have off : ∀ {b : Addr} {u : HO}, H b = some u → b ≠ a := fun {b u} e z => by rw [z, na] at e; cases e
  have old : ∀ {b : Addr} {u : Obj}, X.s_0.heap.get? b = some u → b ≠ a := fun {b u} e z => by rw [z, n0] at e; cases e
  exact {
    ok := I.ok, os := I.os, bare := I.bare, loc := I.loc, cell := I.cell, len := I.len
    base := { keep := I.base.keep, slot := I.base.slot, there := I.base.there
              free := fun b u e n hx => by rw [upd_ne (old e)]; exact I.base.free b u e n hx
              tups := fun b xs e => by rw [upd_ne (off (I.base.tups b xs e))]; exact I.base.tups b xs e
              frzs := fun b u t e => by rw [upd_ne (off (I.base.frzs b u t e))]; exact I.base.frzs b u t e
              tbls := fun b ps e => by
                obtain ⟨m, q⟩ := I.base.tbls b ps e
                exact ⟨m, by rw [upd_ne (off q)]; exact q⟩ }
    free := by rw [upd_ne (Ne.symm nL)]; exact I.free
    freeC := fun x c e => by rw [upd_ne (nc x c e)]; exact I.freeC x c e
    pin := fun p hp => by
      obtain ⟨h1, h2, h3⟩ := I.pin p hp
      exact ⟨h1, by rw [upd_ne (np p hp)]; exact h2, h3⟩
    hok := I.hok.laidN (fun _ _ e => e) na new }
/-- the wish of such a clause: the suite goes on from the heap with the exception tracked -/
def wTrk (K : PySem.W.Frag) (c : Value) (i : Nat) (ts : Addr → TS) (Wout : WX) (D : Ends) : WX := fun cls d σ H =>
  ∃ b, PySem.W.exmOne K cls c = some b ∧ (b = true → ∀ a, H a = none → ts a { nx := fun σ' H' => D.nx (σ'.set i none) H', rt := D.rt, bk := fun σ' H' => D.bk (σ'.set i none) H', ct := fun σ' H' => D.ct (σ'.set i none) H' } (σ.set i (some (.ref a))) (upd H a (ExT cls d a))) ∧
    (b = false → Wout cls d σ H)
theorem suite_plain {a : Addr} (I : Inv X pins σ H s) : Inv (X.suite a (X.pn ++ pins)) [] σ H s :=
  ⟨I.ok.suite _ _, I.os, I.bare, I.base, I.loc, I.cell, I.free, I.freeC, fun p hp => I.pin p (by rw [List.append_nil] at hp; exact hp), I.hok, I.len⟩
theorem unsuite_plain {a : Addr} {pn' : List (Addr × Obj)} (I : Inv (X.suite a (X.pn ++ pins)) pn' σ H s) (ok : X.Ok) : Inv X pins σ H s :=
  ⟨ok, I.os, I.bare, I.base, I.loc, I.cell, I.free, I.freeC, fun p hp => I.pin p (List.mem_append_left _ hp), I.hok, I.len⟩
end
section
variable {X : Cx} {x n : Str} {c : Value} {i : Nat} {body suite : List Stmt} {b₀ : Stmt} {np pos pos' : Pos} {tb : WX → TS} {ts : Addr → TS} {Wout : WX}
theorem ps_try_trk (hs : X.stack = X.env :: X.outer) (hf : X.env.frame = some X.env.locals) (hex : X.ex = []) (hN : X.N.Nodup) (hi : X.N[i]? = some n) (hln : X.env.kindOf n = some .local) (hc : Names X x c) (tk : Takes X Wout)
    (hb : ∀ (W : WX) (pn : List (Addr × Obj)) (xe : Value → Shared → Prop), Takes (X.tr pn xe) W → PassesOwn (model X.prog X.w) X.A X.env xe → PSs (X.tr pn xe) body (tb W))
    (hsu : ∀ (a : Addr) (pn : List (Addr × Obj)), PSs (X.suite a pn) (b₀ :: suite) (ts a)) :
    PS X (.Try body [.ExceptHandler (some (.Name x np)) (some n) (b₀ :: suite) pos'] [] [] pos) (fun D σ H => tb (wTrk X.K c i ts Wout D) D σ H) := by
  constructor
  intro pins s σ H D I h
  have ok := I.ok
  have frames : X.A.frames = some (X.env :: X.outer) := ok.frames.trans (by rw [hs])
  refine wpAny_Try_except (wpAny_mono ((hb (wTrk X.K c i ts Wout D) (X.pn ++ pins) (fun e s₁ => wpAny (model X.prog X.w) X.A (noteFrame e X.env) (fun _ s₂ => wpAny (model X.prog X.w) X.A (setFlight e none) (fun _ s₃ =>
    wpAny (model X.prog X.w) X.A (handleBy e X.env [.ExceptHandler (some (.Name x np)) (some n) (b₀ :: suite) pos']) (SP X pins D) X.xe s₃) X.xe s₂) X.xe s₁) ?caught PassesOwn.looking).run [] s σ H D (I.toTry _) h) ?_ (fun e s1 he => he))
  case caught =>
    rintro u s' ⟨a, B, sI, pins', σ', H', cls, d, rfl, J', nb, up, sky, na, os, ag, b, test, yes, no⟩
    have J : Inv X pins σ' H' sI := J'.ofTry ok
    rw [hs] at sky
    refine Sky.land Zc.steady frames hf sky fun h3 fly up3 => ?_
    have J3 : Inv X pins σ' H' { s' with heap := h3 } := J.landed nb fly.1 (up.trans up3) os ag
    obtain ⟨oe, vs, at_a, zc, dat⟩ := fly.there
    -- the exception is no frame, no cell, and came behind the state sI
    have noframe : a ∉ frs (X.env :: X.outer) := fun hm => by
      obtain ⟨_, o', e', nf⟩ := fly.2.2.1.mem hm
      rw [at_a] at e'
      cases e'
      exact nf _ dat
    have noloc : a ≠ X.env.locals := fun z => noframe (List.mem_filterMap.mpr ⟨X.env, .head _, by rw [hf, z]⟩)
    have noI : sI.heap.get? a = none := by
      cases e : sI.heap.get? a with
      | none => rfl
      | some o =>
        have z := nb a o e (by rw [hs]; exact noframe)
        rw [fly.2.1] at z
        cases z
    have no0 : X.s_0.heap.get? a = none := by
      cases e : X.s_0.heap.get? a with
      | none => rfl
      | some o =>
        obtain ⟨o', q⟩ := J.base.there a o e (by rw [hex]; exact fun z => nomatch z)
        rw [noI] at q
        cases q
    have nopin : ∀ p ∈ X.pn ++ pins, p.1 ≠ a := fun p hp z => by
      have q := (J.pin p hp).1
      rw [z, noI] at q
      cases q
    have nocell : ∀ {h : Heap} {vs : Array Value} {o : Obj}, h.get? a = some o → o.data = .fields vs → (∀ x c, X.env.cells.lookup x = some c → ∃ v, h.IsCell c v) → ∀ x c, X.env.cells.lookup x = some c → c ≠ a := fun {h vs o} e dd cs x c hx z => by
      obtain ⟨v, o', q, q'⟩ := cs x c hx
      rw [z, e] at q
      cases q
      rw [dd] at q'
      cases q'
    have looks : PySem.W.Looks (model X.prog X.w) h3 (typeOf (.ref a)) cls := fun A Q E s k q => wpAny_typeOf_ref (k _ _ at_a) (by rw [zc.1]; exact q)
    have S3 := suite_plain (a := a) J3
    refine wpAny_handleBy_cons (codeAny_handlers_test ?_) (by rintro ⟨⟩)
    have ask : ∀ {Q : Value → Shared → Prop} {E : Value → Shared → Prop}, Q c { s' with heap := h3 } → wpAny (model X.prog X.w) (X.A.mark (some (.ref a))) (eval (.Name x np) X.env) Q E { s' with heap := h3 } := fun {Q E} q => by
      obtain ⟨hg, hdbg, hm | ⟨hm, hv, hnn⟩⟩ := hc
      · exact ld_glob (X := X.suite a (X.pn ++ pins)) S3 hg hm q hdbg
      · exact ld_blt (X := X.suite a (X.pn ++ pins)) S3 hg hm hv q hnn hdbg
    refine ask ((PySem.W.exm_one (M := model X.prog X.w) J3.kIn looks test).here ?_)
    cases b with
    | true =>
      refine codeAny_handlers_suite_as (HandSPX.lands_againZ fly fun h4 fly4 up4 => ?_)
      have J4 : Inv X pins σ' H' { s' with heap := h4 } := J.landed nb fly4.1 ((up.trans up3).trans up4) os ag
      obtain ⟨oe4, vs4, at4, zc4, dat4⟩ := fly4.there
      have T4 : Inv X pins σ' (upd H' a (ExT cls d a)) { s' with heap := h4 } := J4.track na no0 noloc (nocell at4 dat4 J4.cell) nopin (exT_ok at4 zc4 dat4)
      refine store_ok (X := X.suite a (X.pn ++ pins)) (v := .ref a) (suite_plain T4) hN hi (.inl hln) rfl (fun s5 S5 => ?_) (.inr hln)
      refine wpAny_mono ((hsu a (X.pn ++ pins)).run [] s5 _ _ _ S5 (yes rfl a na)) (fun f s6 q => ?_) (fun _ _ z => False.elim z)
      have behind : ∀ {σ6 : L2.St} {H6 : Hp} {Q : Shared → Prop}, Inv (X.suite a (X.pn ++ pins)) [] σ6 H6 s6 → (∀ s7, Inv X pins (σ6.set i none) H6 s7 → Q s7) →
          wpAny (model X.prog X.w) X.A (do bindName X.env n .none; unbindBehindTheSuite X.env n pos') (fun _ s7 => Q s7) X.xe s6 := fun {σ6 H6 Q} S6 k => gone_ok (unsuite_plain S6 ok) hN hi hln k
      cases f with
      | next =>
        obtain ⟨σ6, H6, S6, q6⟩ := q
        exact behind S6 fun s7 J7 => ⟨_, _, J7, q6⟩
      | brk =>
        obtain ⟨σ6, H6, S6, q6⟩ := q
        exact behind S6 fun s7 J7 => ⟨_, _, J7, q6⟩
      | cont =>
        obtain ⟨σ6, H6, S6, q6⟩ := q
        exact behind S6 fun s7 J7 => ⟨_, _, J7, q6⟩
      | ret u =>
        obtain ⟨v6, σ6, H6, S6, r6, q6⟩ := q
        exact behind S6 fun s7 J7 => ⟨_, _, _, J7, r6, q6⟩
    | false =>
      show wpAny _ X.A (handleBy (.ref a) X.env []) _ _ _
      refine wpAny_handleBy_nil ?_
      obtain ⟨k1, k2, k3, oe', vs', T, oT, ts', he, hz, hd, h1, hr⟩ := id fly
      unfold PySem.passOn
      refine wpAny_bind (wpAny_field he hd h1 ?_)
      rw [if_neg (show ¬ ((Value.ref T == Value.none) = true) from by simp)]
      have out : wpAny (model X.prog X.w) X.A (setFlight (.ref a) X.env.frame) (fun _ s4 => wpAny (model X.prog X.w) X.A (throw (.ref a) : Sem Flow) (SP X pins D) X.xe s4) X.xe { s' with heap := h3 } := by
        rw [hf]
        refine HandSPX.setFlight_upZ fly fun h4 held up4 => wpAny_throw (tk _ _ ?_)
        exact ⟨a, B, sI, pins, σ', H', cls, d, rfl, J, nb, (up.trans up3).trans up4, .inr (.inr (by rw [hs]; exact held)), na, os, ag, no rfl⟩
      first
        | exact wpAny_bind (wpAny_pure (wpAny_bind out))
        | exact wpAny_bind out
  · intro f s1 q
    cases f with
    | next =>
      obtain ⟨σ', H', J', q⟩ := q
      exact wpAny_execs_nil ⟨σ', H', J'.ofTry ok, q⟩
    | brk =>
      obtain ⟨σ', H', J', q⟩ := q
      exact ⟨σ', H', J'.ofTry ok, q⟩
    | cont =>
      obtain ⟨σ', H', J', q⟩ := q
      exact ⟨σ', H', J'.ofTry ok, q⟩
    | ret u =>
      obtain ⟨v, σ', H', J', r, q⟩ := q
      exact ⟨v, σ', H', J'.ofTry ok, r, q⟩
end
end L2
namespace L2
open PySem PySem.Spec PyProof.Rows
section
variable {X : Cx}
/-- raise C(e), C an own class with one field -/
theorem pmk_fld {cname fld fa : Str} {tl : List Expr} {C fI : Addr} {e : Expr} {te : TE} {p pos : Pos} {k : Nat} (T : PySem.FX.FldTxt X.prog X.K X.mg cname fld fa tl C fI) (ra : Raises X (.ref C)) (hr : Room k X.A) (hg : Gl X cname)
    (he : PE X e te) (hs : starEach [e] X.env = (false, eval e X.env) :: starEach [] X.env := by rfl) (hdb : (cname == ("__debug__" : Str)) = false := by decide) :
    PMk X (.Call (.Name cname p) [e] [] pos) (fun σ H Q => te σ H fun v H1 => FldV v ∧ ∀ d, H1 d = none → Q (.ref C) (some d) (upd H1 d (.xd [(fld, v)]))) := by
  intro pins s σ H Q I h
  refine wpAny_Call_Name_kw (ld_glob I hg T.gC ?_ hdb)
  refine PySem.W.callWith_K (h₀ := X.base) I.ok.mod.kin T.kC ?_ hs (by rfl)
  rw [hs]
  show wpAny _ _ (spliced ((false, eval e X.env) :: backTo pos (starEach [] X.env))) _ _ s
  refine Calls.spliced_cons (thn (he.run pins s σ H _ I h) fun u s1 ⟨v, H1, I1, r1, hfv, q1⟩ => ?_)
  refine Calls.spliced_nil ⟨I1.kIn, ?_⟩
  show wpAny _ _ (call (.ref C) [u]) _ _ _
  obtain ⟨mb, b1, b2⟩ := I1.mod.blt
  have hlim := I1.nolimit
  have hgl := I1.mod.glob.keeps I1.bk
  have hbl := b1.keeps I1.bk
  have hbs : mb "super" = some (.type "super") := (b2 _ (by decide)).trans (by first | exact PyProof.Rows.Boot.super | rfl | decide +kernel)
  obtain ⟨hp, g, dr, tk, os⟩ := s1
  refine wpAny_call (PySem.FX.fld_made T I1.kIn hlim hgl hbl hbs (by have := hr.dp; omega) (hfv.of r1) fun h' tk' a d M => ?_)
  show MkP X pins σ Q (.ref a) ⟨h', g, dr, tk', os⟩
  obtain ⟨t1, hoe⟩ := M.obj
  have hns := M.ns
  obtain ⟨G', g1, g2⟩ := restrict h' fun b => decide (b ≠ a)
  have gk : ∀ b, b ≠ a → G'.get? b = h'.get? b := fun b hb => g1 b (decide_eq_true hb)
  have ge : G'.get? a = none := g2 a (by simp)
  have old : ∀ b o, hp.get? b = some o → G'.get? b = some o := fun b o q => (gk b (Nat.ne_of_lt (Nat.lt_of_lt_of_le (Heap.lt_size q) M.new))).trans (M.keep b o q)
  have ob : ObjOk X.prog X.w (upd H1 d (.xd [(fld, v)])) G' d (.xd [(fld, v)]) := ⟨_, hns.at (fun o q => (gk d M.dne).trans q), fun f => relO_one fld r1 f⟩
  have J : Inv X pins σ (upd H1 d (.xd [(fld, v)])) ⟨G', g, dr, tk', os⟩ := I1.laid (t' := tk') old M.dbig ob
  have na : H1 a = none := I1.hok.fresh M.new
  have nd : H1 d = none := I1.hok.fresh M.dbig
  have na2 : (upd H1 d (.xd [(fld, v)])) a = none := by rw [upd_ne (Ne.symm M.dne)]; exact na
  have sub : ∀ b o, G'.get? b = some o → h'.get? b = some o := fun b o q => by
    by_cases hb : b = a
    · rw [hb, ge] at q; cases q
    · exact (gk b hb).symm.trans q
  exact ⟨a, _, _, ⟨G', g, dr, tk', os⟩, _, .ref C, some d, rfl, J, sub, ge, hoe, ⟨rfl, rfl⟩, rfl, rfl, na2, rfl, I1.bare, ra, q1 d nd⟩
/-- a caught exception of the class at D -/
def IsT (H : Hp) (a D : Addr) : Prop := H a = some (ExT (.ref D) none a) ∨ ∃ d fs, H a = some (ExT (.ref D) (some d) a) ∧ H d = some (.xd fs)
theorem isT_inst {pins : List (Addr × Obj)} {σ : L2.St} {H : Hp} {s : Shared} {a D : Addr} (I : Inv X pins σ H s) (h : IsT H a D) : ∃ oe od, PySem.W.InstAt s.heap a oe D od := by
  rcases h with h | ⟨d, fs, h, hd⟩
  · obtain ⟨⟨⟨oc, od, oda, osl⟩, vs, ho, ⟨h1, h2⟩, hv⟩, _, _⟩ := I.hok a _ h
    dsimp only at h1 h2 hv
    subst h1 h2 hv
    exact ⟨_, none, ho, rfl, rfl, trivial⟩
  · obtain ⟨⟨⟨oc, od, oda, osl⟩, vs, ho, ⟨h1, h2⟩, hv⟩, _, _⟩ := I.hok a _ h
    dsimp only at h1 h2 hv
    subst h1 h2 hv
    obtain ⟨mA, ⟨ob, es, ep, hob, _⟩, _⟩ := (show ObjOk X.prog X.w H s.heap d (.xd fs) from I.hok d _ hd)
    exact ⟨_, some ob, ho, rfl, rfl, hob⟩
/-- isinstance(e, c), e a caught exception that is kept -/
def rIsT (K : PySem.W.Frag) : List V → Hp → VK → Prop := fun xs H Q => ∃ (a D : Addr) (c : V) (cv : Value) (b : Bool), xs = [.ref a, c] ∧ IsT H a D ∧ ExcC K D ∧ (∀ u, RelV c u → u = cv) ∧ PySem.W.kitOne K (.ref D) cv = some b ∧ Q (.bl b) H
theorem call_isT1 : CallR X (.builtin "isinstance") (rIsT X.K) := by
  intro pins s σ H xs us Q I r h
  obtain ⟨a, D, c, cv, b, rfl, hx, C, hcv, e, q⟩ := h
  obtain ⟨u1, u2, rfl, r1, r2⟩ := vals2 r
  cases (show u1 = Value.ref a from r1)
  have ec := hcv _ r2
  subst ec
  obtain ⟨oe, od, J⟩ := isT_inst I hx
  have hcl : (PySem.W.clsIn X.K D).isSome = true := by
    obtain ⟨cd, hc, _⟩ := PySem.W.any_some C.hd
    rw [hc] <;> rfl
  exact PySem.W.kia_one (PySem.W.kitx_exc hcl C.hg C.hk C.hs C.ha C.hn C.ht C.hm) I.kIn J e (fun z => nomatch z) fun tk => ⟨.bl b, H, I.kept (t' := tk) fun _ _ z => z, rfl, q⟩
/-- e.fld, e such an exception with its own dict -/
def tFldT (K : PySem.W.Frag) (fld : Str) (te : TE) : TE := fun σ H Q => te σ H fun x H1 => ∃ (a d C : Addr) (fs : List (Str × V)) (v : V), x = .ref a ∧ H1 a = some (ExT (.ref C) (some d) a) ∧ H1 d = some (.xd fs) ∧ fs.lookup fld = some v ∧ ExcC K C ∧ PySem.W.findIn K (.ref C) fld = some none ∧ Q v H1
theorem pe_fldT {e : Expr} {te : TE} {fld : Str} {pos : Pos} (he : PE X e te) (hb : attributeBase e fld X.env (eval e X.env) = eval e X.env := by rfl) : PE X (.Attribute e fld pos) (tFldT X.K fld te) := by
  constructor
  intro pins s σ H Q I h
  refine attr_of hb (thn (he.run pins s σ H _ I h) ?_)
  rintro u s1 ⟨x, H1, I1, rx, a, d, C, fs, v, rfl, ha, hd, hl, T, hno, q⟩
  obtain rfl : u = Value.ref a := rx
  obtain ⟨⟨⟨oc, od', oda, osl⟩, vs, ho, ⟨h1, h2⟩, hv⟩, _, _⟩ := I1.hok a _ ha
  dsimp only at h1 h2 hv
  subst h1 h2 hv
  obtain ⟨mA, hns, hr⟩ := (show ObjOk X.prog X.w H1 s1.heap d (.xd fs) from I1.hok d _ hd)
  obtain ⟨od, hod, hlk⟩ := lookIn_ns hns
  obtain ⟨w', hw, rw'⟩ := RelO.some_of (v := v) (o := mA fld) (by rw [← hl]; exact hr fld)
  have J : PySem.W.InstAt s1.heap a _ C (some od) := ⟨ho, rfl, rfl, hod⟩
  exact HandSPX.exc_get I1.kIn J T.hg T.hk T.hs (PySem.W.findObj_own T.hd hno rfl (by rw [hlk, hw])) (handed_of rw') ⟨v, H1, I1.tok _, rw', q⟩
end
end L2
/-! Promises of defs that run where no repr is under way: what repr hands back for data is then told. -/
namespace L2
open PySem PySem.Spec PyProof.Rows
structure FnG (P : Program) (w : World) (K : PySem.W.Frag) (mg : Str → Option Value) (base : Heap) (CX : CXT) (k : Nat) (f : Addr) (fd : FuncData) (ps : List Str) (sp : Sp) : Prop where
  many : ∀ {vs : List V} {H : Hp} {Q : VK} {E : XK}, sp vs H Q E → vs.length = ps.length
  goes : ∀ {A : Around} {outer : List Env} {s : Shared} {H : Hp} {args : Args} {us : List Value} {vs : List V} {Q : VK} {E : XK}, A.guards = some [] → Room k A → Env0 P w K mg base A outer s H →
    BindsTo s fd args (ps.zip us) → Vals vs us → sp vs H Q E → codeAny (model P w) A (.call (.ref f) args) (CR CX outer P w H s Q E) s
section
variable {P : Program} {w : World} {K : PySem.W.Frag} {mg : Str → Option Value} {base : Heap} {CX : CXT}
theorem FnG.of_ok {k : Nat} {f : Addr} {fd : FuncData} {ps : List Str} {sp : Sp} (F : FnOk P w K mg base CX k f fd ps sp) : FnG P w K mg base CX k f fd ps sp :=
  ⟨fun h => F.len _ _ _ _ h, fun _ hr e b r h => F.run _ _ _ _ _ _ _ _ _ hr e b r h⟩
theorem fnG_of {x qual : Str} {st : Stmt} {f : Addr} {fd : FuncData} {N ps : List Str} {k : Nat} {sp : Sp} (F : Fun K x qual st f fd) (S : FnScope N ps (defScope st)) (len : ∀ vs H Q E, sp vs H Q E → vs.length = ps.length)
    (body : ∀ (cdv : Value) (A : Around) (outer : List Env) (s : Shared) (H : Hp) (vs : List V) (Q : VK) (E : XK), (A.deeper (envOfC qual (defScope st) s.heap.objs.size f cdv)).guards = some [] → Room k (A.deeper (envOfC qual (defScope st) s.heap.objs.size f cdv)) → sp vs H Q E →
      ∃ t, PSs (cxOf CX P w K mg base N qual (defScope st) f cdv A outer s H E) (defBody st) t ∧ t { nx := fun _ H' => Q .non H', rt := Q } (start N vs) H) : FnG P w K mg base CX (k + 1) f fd ps sp := by
  obtain ⟨oc, od, kV, doc, pm, an, cdv, ct, osl, rfl, at_f, code_f⟩ := F.ex
  constructor
  · intro vs H Q E h
    exact len vs H Q E h
  intro A outer s H args us vs Q E grd room env0 bnd rel told
  have cnt := len vs H Q E told
  have old : ∀ b o, base.get? b = some o → s.heap.get? b = some o := fun b o e => (env0.bs b o e).1
  have KX := env0.mod.kin.keeps old
  have kinds : ∀ y ∈ ps.zip us, (defScope st).names.lookup y.1 = some .local ∨ ((defScope st).names.lookup y.1 = some .cell ∧ ((cellsFrom (s.heap.objs.size + 1) (defScope st).names []).lookup y.1).isSome = true) := by
    rintro ⟨n, v⟩ hy
    have z := S.par n (List.of_mem_zip hy).1
    cases z with
    | inl q => exact .inl q
    | inr q => exact .inr ⟨q, PySem.W.cellsFrom_some _ _ _ (.inl q)⟩
  refine codeAny_call_function room.depth (KX _ _ at_f) rfl S.co S.gen rfl (PySem.W.codeRec_of KX code_f) (bnd _ _ _ _ ?_)
  refine wpAny_newFunctionEnv_cells S.kind kinds fun env he s1 IC => ?_
  subst he
  have started : Inv (cxOf CX P w K mg base N qual (defScope st) f cdv A outer s H E) [] (start N vs) H s1 := inv_start S room.hd env0 cnt rel IC
  obtain ⟨t, tt, q⟩ := body cdv A outer s H vs Q E grd (room.deeper _) told
  refine ⟨(env0.mod.nolimit.keeps old).keeps IC.toInCall.keep, codeAny_func (wpAny_mono (tt.run [] s1 (start N vs) H _ started q) (fun fl s' z => ?_) fun _ _ z => z)⟩
  cases fl with
  | ret u =>
    obtain ⟨v, σ', H', J, r, q'⟩ := z
    exact ⟨v, H', J.os, J.bare, J.base, J.hok, r, q'⟩
  | next =>
    obtain ⟨σ', H', J, q'⟩ := z
    exact ⟨V.non, H', J.os, J.bare, J.base, J.hok, rfl, q'⟩
  | brk =>
    obtain ⟨_, _, _, q'⟩ := z
    exact q'.elim
  | cont =>
    obtain ⟨_, _, _, q'⟩ := z
    exact q'.elim
end
section
variable {X : Cx} {CX : CXT} {k : Nat} {f : Addr} {fd : FuncData} {ps : List Str} {sp : Sp} {dvs : List V} {ds : List Value} {E : XK} {x : Str} {p pos : Pos} {e : Expr} {es : List Expr} {t : TA}
theorem goesG {pins : List (Addr × Obj)} {σ : St} {H : Hp} {s : Shared} {Q : VK} {us : List Value} {vs : List V} (F : FnG X.prog X.w X.K X.mg X.base CX k f fd ps sp) (gd : X.A.guards = some []) (hr : Room k X.A) (hb : Binds X.K fd ps ds) (hd : Vals dvs ds) (hx : Passes CX X E)
    (I : Inv X pins σ H s) (r : Vals vs us) (h : sp (vs ++ dvs) H Q E) : wpAny (model X.prog X.w) X.A (call (.ref f) us) (EP X pins σ Q) X.xe s := by
  have both : Vals (vs ++ dvs) (us ++ ds) := r.append hd
  have n : (us ++ ds).length = ps.length := both.length.symm.trans (F.many h)
  refine wpAny_call (codeAny_mono (F.goes gd hr I.env0 (hb s us I.kIn n) both h) ?_)
  rintro (er | fl) s' q
  · exact hx pins σ H s er s' I q
  · cases fl with
    | ret u => exact I.after q
    | next => exact q.elim
    | brk => exact q.elim
    | cont => exact q.elim
theorem pe_callG (F : FnG X.prog X.w X.K X.mg X.base CX k f fd ps sp) (gd : X.A.guards = some []) (hr : Room k X.A) (hg : Gl X x) (hm : X.mg x = some (.ref f)) (hk : PySem.W.keepIn X.K (.ref f) = true) (hb : Binds X.K fd ps ds) (hd : Vals dvs ds) (hx : Passes CX X E)
    (ha : PA X (e :: es) t) (hdb : (x == ("__debug__" : Str)) = false := by decide) (he : starEach (e :: es) X.env = (false, eval e X.env) :: starEach es X.env := by rfl) (hpl : (backTo pos (starEach es X.env)).any (·.1) = false := by rfl) :
    PE X (.Call (.Name x p) (e :: es) [] pos) (tCall sp dvs E t) := by
  constructor
  intro pins s σ H Q I h
  refine wpAny_Call_Name_kw (ld_glob I hg hm (PySem.W.callWith_K (h₀ := X.base) I.ok.mod.kin hk (thn (ha.run pos pins s σ H _ I h) ?_) he hpl) hdb)
  rintro us s1 ⟨vs, H1, I1, r, q⟩
  exact ⟨I1.kIn, goesG F gd hr hb hd hx I1 r q⟩
/-- repr(x), x data -/
def rRepr (K : PySem.W.Frag) : List V → Hp → VK → Prop := fun xs H Q => ∃ (x : V) (d : PyData), xs = [x] ∧ Dp K H x d ∧ SeqAt.shaped d = true ∧ d.showable = true ∧ d.shown.length ≤ sizeLine ∧ Q (.str d.shown) H
theorem kept_inv {X : Cx} {pins : List (Addr × Obj)} {σ : St} {H : Hp} {s : Shared} {h' : Heap} {tk : Nat} (I : Inv X pins σ H s) (k : ∀ b o, s.heap.get? b = some o → h'.get? b = some o) : Inv X pins σ H { s with heap := h', toks := tk } := I.kept (t' := tk) k
theorem call_repr (gd : X.A.guards = some []) (hu : X.A.units + 80 < cLine) : CallR X (.builtin "repr") (rRepr X.K) := by
  intro pins s σ H xs us Q I r h
  obtain ⟨x, d, rfl, dp, sh, sw, sz, q⟩ := h
  obtain ⟨u, rfl, rx⟩ := vals1 r
  have key : ∀ {a : Addr}, u = .ref a → wpAny (model X.prog X.w) X.A (call (.builtin "repr") [u]) (EP X pins σ Q) X.xe s := fun {a} e => by
    subst e
    obtain ⟨as, rd⟩ := Dp.reads I d x (.ref a) dp rx
    have dep := SeqAt.depth_of_shaped sh
    have nod := PyData.hasDict_of_canLay d (SeqAt.canLay_of_shaped sh)
    exact repr_of_reads' rd sw (fun z => absurd z (by rw [nod]; exact Bool.false_ne_true)) gd (by omega) (fun _ _ e => e) (fun h' u tk k => ⟨.str d.shown, H, I.kept (t' := tk) k, ⟨u, rfl⟩, q⟩) sz
  cases dp with
  | non =>
    cases (show u = Value.none from rx)
    exact PySem.P.repr_of_none ⟨.str "None", H, I.tok _, ⟨_, rfl⟩, q⟩
  | bl b =>
    cases (show u = Value.bool b from rx)
    exact PySem.P.repr_of_bool ⟨.str (if b then "True" else "False"), H, I.tok _, ⟨_, rfl⟩, q⟩
  | int i =>
    obtain ⟨t, rfl⟩ := (show ∃ t, u = Value.int i t from rx)
    exact PySem.P.repr_of_int (of_decide_eq_true sw) ⟨.str (toString i), H, I.tok _, ⟨_, rfl⟩, q⟩
  | str y =>
    obtain ⟨t, rfl⟩ := (show ∃ t, u = Value.str y t from rx)
    exact PySem.P.repr_of_str ⟨.str (reprText y), H, I.tok _, ⟨_, rfl⟩, q⟩ sz
  | lst hs ha => exact key (show u = Value.ref _ from rx)
  | tup hs ha => exact key (show u = Value.ref _ from rx)
end
/-! the law's own call -/
section
variable {P : Program} {w : World} {K : PySem.W.Frag} {mg mb : Str → Option Value} {CX : CXT} {k : Nat} {fa a : Addr} {fd : FuncData} {x : Str} {sp : Sp} {s₁ : Shared} {vs : List Value} {ns : List Int}
/-- the call from an abstract heap in which the script alone may be tracked -/
theorem lawG_core {H : Hp} (KX : K.In s₁.heap) (hns : s₁.heap.Ns mainGlobals mg) (hb : s₁.heap.Ns builtinsNs mb) (hbb : ∀ x : Str, x ≠ "__name__" → mb x = bootBuiltins x) (hlim : s₁.heap.NoLimit) (hg : s₁.gens = #[])
    (script : ∃ o, s₁.heap.get? a = some o ∧ ∀ es ep, o.data ≠ .dict es ep) (hr : Room k callerA)
    (F : ∀ base : Heap, K.In base → base.Ns mainGlobals mg → FnG P w K mg base CX k fa fd [x] sp) (hbind : ∀ (s : Shared) (u : Value), BindsTo s fd ⟨[u], []⟩ [(x, u)])
    (only : Only H) (promise : sp [.ref a] H (fun v _ => v = .bl true) fun _ _ _ => False) (noexc : ∀ e s', CX [] H s₁ (fun _ _ _ => False) e s' → False)
    (ok : HOk P w H s₁.heap) (hA : ∀ b, H b ≠ none → b = a) (hK : H a ≠ none → K.lookup a = none) :
    codeAny (model P w) callerA (.call (.ref fa) ⟨[.ref a], []⟩) (fun r s' => r = .ok (.ret (.bool true)) ∧ OldK s₁.heap s'.heap ∧ s'.os = s₁.os ∧ AllBare s'.gens) s₁ := by
  have tracked : ∀ {b : Addr} {u : HO}, H b = some u → b = a := fun {b u} e => hA b (by rw [e]; exact fun z => nomatch z)
  -- what stands and is not tracked is the base
  have stays : ∀ {b : Addr} {o : Obj}, s₁.heap.get? b = some o → b ≠ a ∨ H a = none → (hidT s₁.heap H).get? b = some o := fun {b o} e h => by
    refine hidT_get e ?_
    cases q : H b with
    | none => rfl
    | some u =>
      have z := tracked q
      rcases h with h | h
      · exact absurd z h
      · rw [z, h] at q; cases q
  have spaces : ∀ {b : Addr} {m : Str → Option Value}, s₁.heap.Ns b m → (hidT s₁.heap H).Ns b m := fun {b m} ⟨o, es, ep, e, d, r⟩ => by
    refine ⟨o, es, ep, stays e ?_, d, r⟩
    by_cases hb : b = a
    · subst hb
      obtain ⟨o', e', nd⟩ := script
      rw [e] at e'
      cases e'
      exact absurd d (nd es ep)
    · exact .inl hb
  have KB : K.In (hidT s₁.heap H) := fun b o e => stays (KX b o e) (by
    by_cases hb : b = a
    · subst hb
      refine .inr ?_
      cases q : H b with
      | none => rfl
      | some u =>
        have z := hK (by rw [q]; exact fun y => nomatch y)
        rw [z] at e; cases e
    · exact .inl hb)
  obtain ⟨mc, l1, l2⟩ := hlim
  have start0 : Env0 P w K mg (hidT s₁.heap H) callerA [] s₁ H :=
    { frames := rfl, mod := { kin := KB, glob := spaces hns, blt := ⟨mb, spaces hb, hbb⟩, nolimit := ⟨mc, spaces l1, l2⟩ }, bs := fun b o e => of_hidT e, bsz := Nat.le_of_eq (hidT_size _ _), funs := trivial,
      frf := fun b hb => (by cases hb), hok := ok, bare := .of_eq hg }
  refine codeAny_mono ((F _ KB (spaces hns)).goes (outer := []) (args := ⟨[.ref a], []⟩) (us := [.ref a]) (vs := [.ref a]) rfl hr start0 (hbind s₁ (.ref a)) (.cons rfl .nil) promise) ?_
  rintro (er | fl) s' z
  · exact (noexc er s' z).elim
  cases fl with
  | next => exact z.elim
  | brk => exact z.elim
  | cont => exact z.elim
  | ret u =>
    obtain ⟨v, H', os, bare, un, ok', rv, q⟩ := z
    cases (show v = .bl true from q)
    cases (show u = Value.bool true from rv)
    refine ⟨rfl, OldK.of_keep fun b o e => ?_, os, bare⟩
    cases q : H b with
    | none => exact un.keep b o e q (fun y => by cases y) (fun y => by cases y)
    | some t =>
      rcases only b with y | ⟨ob, xs, y⟩
      · rw [q] at y; cases y
      · have o1 := (ok b _ y).1
        have o2 := (ok' b _ (un.frzs b ob _ y)).1
        rw [e] at o1
        cases o1
        exact o2
theorem lawG_call (KX : K.In s₁.heap) (hns : s₁.heap.Ns mainGlobals mg) (hb : s₁.heap.Ns builtinsNs mb) (hbb : ∀ x : Str, x ≠ "__name__" → mb x = bootBuiltins x) (hlim : s₁.heap.NoLimit) (hg : s₁.gens = #[])
    (ha : s₁.heap.get? a = some { cls := .type "list", data := .seq vs.toArray }) (hi : IntsAre vs ns) (hl : ns.length ≤ sizeLine) (hr : Room k callerA)
    (F : ∀ base : Heap, K.In base → base.Ns mainGlobals mg → FnG P w K mg base CX k fa fd [x] sp) (hbind : ∀ (s : Shared) (u : Value), BindsTo s fd ⟨[u], []⟩ [(x, u)])
    (hsp : ∀ H : Hp, Only H → SqL K H a (ns.map V.int) → sp [.ref a] H (fun v _ => v = .bl true) fun _ _ _ => False) (hCX : ∀ H e s', CX [] H s₁ (fun _ _ _ => False) e s' → False) :
    codeAny (model P w) callerA (.call (.ref fa) ⟨[.ref a], []⟩) (fun r s' => r = .ok (.ret (.bool true)) ∧ OldK s₁.heap s'.heap ∧ s'.os = s₁.os ∧ AllBare s'.gens) s₁ := by
  have script : ∃ o, s₁.heap.get? a = some o ∧ ∀ es ep, o.data ≠ .dict es ep := ⟨_, ha, fun es ep z => by cases z⟩
  have vals := vals_ints hi
  cases lk : K.lookup a with
  | some o =>
    have e := KX a o lk
    rw [ha] at e
    cases e
    have O : Only (fun _ => none : Hp) := fun _ => .inl rfl
    have sq : SqL K (fun _ => none : Hp) a (ns.map V.int) := .inr ⟨_, vs.toArray, _, lk, rfl, rfl, rfl, by rw [List.size_toArray, hi.length]; exact hl, by simpa using vals⟩
    exact lawG_core KX hns hb hbb hlim hg script hr F hbind O (hsp _ O sq) (hCX _) (fun b u z => (by cases z)) (fun b z => absurd rfl z) (fun z => absurd rfl z)
  | none =>
    let S : Obj := { cls := .type "list", data := .seq vs.toArray }
    let H : Hp := fun b => if b = a then some (.frz S (.lst (ns.map V.int))) else none
    have at_a : H a = some (.frz S (.lst (ns.map V.int))) := if_pos rfl
    have off : ∀ b, b ≠ a → H b = none := fun b h => if_neg h
    have O : Only H := fun b => by
      by_cases h : b = a
      · subst h
        exact .inr ⟨_, _, at_a⟩
      · exact .inl (off b h)
    refine lawG_core (H := H) KX hns hb hbb hlim hg script hr F hbind O (hsp _ O (.inl (.inr ⟨S, at_a⟩))) (hCX _) (fun b u z => ?_) (fun b z => ?_) (fun _ => lk)
    · by_cases h : b = a
      · subst h
        rw [at_a] at z
        cases z
        exact ⟨ha, by rw [List.length_map]; exact hl, vs, _, vals, ha⟩
      · rw [off b h] at z
        cases z
    · by_cases h : b = a
      · exact h
      · exact absurd (off b h) z
end
theorem walk_G {l : PySem.W.OpenLaw} {n k : Nat} {q : Program} {loose : List Str} {XP : (Str → Option Value) → Heap → Prop} {YP : World → Heap → Prop} {d : DefRec} {K : Params → PySem.W.Frag} {CX : World → CXT} {sp : World → Sp} {x : Str}
    (hn : l.most = some n) (hn2 : n ≤ sizeLine) (hdf : d.params.defaults = []) (hr : Room k callerA) (hY : ∀ (w : World) (h : Heap), YP w h → (K w.params).In h)
    (F : ∀ (w : World) (mg : Str → Option Value) (fa : Addr) (h : Heap), (K w.params).In h → h.Ns mainGlobals mg → XP mg h → mg d.name = some (.ref fa) →
      ∃ fd : FuncData, (∀ (s : Shared) (u : Value), BindsTo s fd ⟨[u], []⟩ [(x, u)]) ∧ ∀ base : Heap, (K w.params).In base → base.Ns mainGlobals mg → FnG l.prog w (K w.params) mg base (CX w) k fa fd [x] (sp w))
    (hsp : ∀ (w : World) (H : Hp) (a : Addr) (ns : List Int), ns.length ≤ n → Only H → SqL (K w.params) H a (ns.map V.int) → sp w [.ref a] H (fun v _ => v = .bl true) fun _ _ _ => False)
    (hCX : ∀ (w : World) (H : Hp) (s : Shared) (e : Value) (s' : Shared), CX w [] H s (fun _ _ _ => False) e s' → False) : PySem.W.WalkO q loose XP YP l.row.toRowW d [] (fun f vs => PySem.call f vs) := by
  refine Att.attach_call hn hdf fun w s₀ s₁ mg mb fa o pm cd doc a vs ns G Y ho hd hcd hmg hobj hints hlen hg => ?_
  obtain ⟨fd, bnd, FF⟩ := F w mg fa _ (hY w _ Y) G.T.g G.X hmg
  exact lawG_call (hY w _ Y) G.T.g G.T.b G.T.builtins G.T.nolimit hg hobj hints (Nat.le_trans hlen hn2) hr FF bnd (fun H O S => hsp w H a ns hlen O S) fun H e s' => hCX w H s₁ e s'
end L2
/-! Common tools: a def's promise with its place; data that stands; data that never changes. -/
namespace L2
open PySem PySem.Spec PyProof.Rows
/-- a def with its promise and where it stands -/
structure Def (P : Program) (w : World) (K : PySem.W.Frag) (mg : Str → Option Value) (base : Heap) (CX : CXT) (lv : Nat) (x : Str) (ps : List Str) (sp : Sp) : Prop where
  ex : ∃ (f : Addr) (fd : FuncData), FnOk P w K mg base CX lv f fd ps sp ∧ mg x = some (.ref f) ∧ PySem.W.keepIn K (.ref f) = true ∧ Binds K fd ps []
/-- the same where no repr is under way -/
structure DefG (P : Program) (w : World) (K : PySem.W.Frag) (mg : Str → Option Value) (base : Heap) (CX : CXT) (lv : Nat) (x : Str) (ps : List Str) (sp : Sp) : Prop where
  ex : ∃ (f : Addr) (fd : FuncData), FnG P w K mg base CX lv f fd ps sp ∧ mg x = some (.ref f) ∧ PySem.W.keepIn K (.ref f) = true ∧ Binds K fd ps []
/-- what is still a built-in -/
def Bt (mg : Str → Option Value) (l : List Str) : Prop := ∀ x ∈ l, mg x = none
theorem bt_of {K : PySem.W.Frag} {h : Heap} {mg : Str → Option Value} {l : List Str} (X : K.In h) (G : h.Ns mainGlobals mg) (e : (l.all fun x => PySem.W.nsIn K mainGlobals x == some none) = true) : Bt mg l := fun x hx => by
  have z := List.all_eq_true.mp e x hx
  exact PySem.W.mg_none_of X G (beq_iff_eq.mp z)
section
variable {X : Cx} {CX : CXT} {k j : Nat} {ps : List Str} {sp : Sp} {x : Str} {p pos : Pos} {e : Expr} {es : List Expr} {t : TA}
theorem pe_callD {E : XK} (D : Def X.prog X.w X.K X.mg X.base CX k x ps sp) (hr : Room j X.A) (hkj : k ≤ j) (hx : Passes CX X E) (ha : PA X (e :: es) t) (hg : Gl X x := by rfl) (hdb : (x == ("__debug__" : Str)) = false := by decide)
    (he : starEach (e :: es) X.env = (false, eval e X.env) :: starEach es X.env := by rfl) (hpl : (backTo pos (starEach es X.env)).any (·.1) = false := by rfl) : PE X (.Call (.Name x p) (e :: es) [] pos) (tCall sp [] E t) := by
  obtain ⟨f, fd, F, hm, hk, hb⟩ := D.ex
  exact pe_call F (hr.mono hkj) hg hm hk hb .nil hx ha hdb he hpl
theorem pe_callDG {E : XK} (D : DefG X.prog X.w X.K X.mg X.base CX k x ps sp) (gd : X.A.guards = some []) (hr : Room j X.A) (hkj : k ≤ j) (hx : Passes CX X E) (ha : PA X (e :: es) t) (hg : Gl X x := by rfl) (hdb : (x == ("__debug__" : Str)) = false := by decide)
    (he : starEach (e :: es) X.env = (false, eval e X.env) :: starEach es X.env := by rfl) (hpl : (backTo pos (starEach es X.env)).any (·.1) = false := by rfl) : PE X (.Call (.Name x p) (e :: es) [] pos) (tCall sp [] E t) := by
  obtain ⟨f, fd, F, hm, hk, hb⟩ := D.ex
  exact pe_callG F gd (hr.mono hkj) hg hm hk hb .nil hx ha hdb he hpl
end
theorem same1 {H : Hp} {a : Addr} {o : HO} (n : H a = none) : Same H (upd H a o) := fun b x e => by rw [upd_ne (ne_of_none e n)]; exact e
/-! ### data that stands -/
mutual
theorem dp_same {K : PySem.W.Frag} {H H' : Hp} (s : Same H H') : ∀ {v : V} (d : PyData), Dp K H v d → Dp K H' v d
  | _, .none, h => by cases h; exact .non
  | _, .bool b, h => by cases h; exact .bl b
  | _, .int i, h => by cases h; exact .int i
  | _, .str x, h => by cases h; exact .str x
  | _, .list ds, h => by
    cases h with
    | lst hs ha => exact .lst (s.seq hs) (dpAll_same s ds ha)
  | _, .tuple ds, h => by
    cases h with
    | tup hs ha =>
      refine .tup ?_ (dpAll_same s ds ha)
      rcases hs with (h | ⟨o, h⟩) | h
      · exact .inl (.inl (s _ _ h))
      · exact .inl (.inr ⟨o, s _ _ h⟩)
      · exact .inr h
  | _, .dict _, h => by cases h
theorem dpAll_same {K : PySem.W.Frag} {H H' : Hp} (s : Same H H') : ∀ {vs : List V} (ds : List PyData), DpAll K H vs ds → DpAll K H' vs ds
  | _, [], h => by cases h; exact .nil
  | _, d :: ds, h => by
    cases h with
    | cons h1 h2 => exact .cons (dp_same s d h1) (dpAll_same s ds h2)
end
theorem dpAll_len {K : PySem.W.Frag} {H : Hp} : ∀ {vs : List V} {ds : List PyData}, DpAll K H vs ds → vs.length = ds.length
  | _, _, .nil => rfl
  | _, _, .cons _ t => by rw [List.length_cons, List.length_cons, dpAll_len t]
theorem dpAll_get {K : PySem.W.Frag} {H : Hp} : ∀ {vs : List V} {ds : List PyData} {i : Nat} {d : PyData}, DpAll K H vs ds → ds[i]? = some d → ∃ v, vs[i]? = some v ∧ Dp K H v d
  | _, _, _, _, .nil, e => by simp at e
  | _, _, 0, _, .cons h _, e => by
    simp at e
    subst e
    exact ⟨_, rfl, h⟩
  | _, _, i + 1, d, .cons _ t, e => by
    obtain ⟨v, h1, h2⟩ := dpAll_get (i := i) (d := d) t (by simpa using e)
    exact ⟨v, by simpa using h1, h2⟩
theorem dpAll_getV {K : PySem.W.Frag} {H : Hp} : ∀ {vs : List V} {ds : List PyData} {i : Nat} {v : V}, DpAll K H vs ds → vs[i]? = some v → ∃ d, ds[i]? = some d ∧ Dp K H v d
  | _, _, _, _, .nil, e => by simp at e
  | _, _, 0, _, .cons h _, e => by
    simp at e
    subst e
    exact ⟨_, rfl, h⟩
  | _, _, i + 1, v, .cons _ t, e => by
    obtain ⟨d, h1, h2⟩ := dpAll_getV (i := i) (v := v) t (by simpa using e)
    exact ⟨d, by simpa using h1, h2⟩
theorem dpAll_append {K : PySem.W.Frag} {H : Hp} : ∀ {vs ws : List V} {ds es : List PyData}, DpAll K H vs ds → DpAll K H ws es → DpAll K H (vs ++ ws) (ds ++ es)
  | _, _, _, _, .nil, h => h
  | _, _, _, _, .cons h t, s => .cons h (dpAll_append t s)
theorem dpAll_take {K : PySem.W.Frag} {H : Hp} : ∀ {vs : List V} {ds : List PyData} (n : Nat), DpAll K H vs ds → DpAll K H (vs.take n) (ds.take n)
  | _, _, 0, _ => .nil
  | _, _, _ + 1, .nil => .nil
  | _, _, n + 1, .cons h t => .cons h (dpAll_take n t)
theorem dpAll_drop {K : PySem.W.Frag} {H : Hp} : ∀ {vs : List V} {ds : List PyData} (n : Nat), DpAll K H vs ds → DpAll K H (vs.drop n) (ds.drop n)
  | _, _, 0, h => h
  | _, _, _ + 1, .nil => .nil
  | _, _, n + 1, .cons _ t => dpAll_drop n t
theorem dpAll_set {K : PySem.W.Frag} {H : Hp} : ∀ {vs : List V} {ds : List PyData} (n : Nat) {v : V} {d : PyData}, DpAll K H vs ds → Dp K H v d → DpAll K H (vs.set n v) (ds.set n d)
  | _, _, 0, _, _, .nil, _ => .nil
  | _, _, _ + 1, _, _, .nil, _ => .nil
  | _, _, 0, _, _, .cons _ t, h => .cons h t
  | _, _, n + 1, _, _, .cons h t, g => .cons h (dpAll_set n t g)
theorem dpAll_ints {K : PySem.W.Frag} {H : Hp} : ∀ ns : List Int, DpAll K H (ns.map V.int) (ns.map PyData.int)
  | [] => .nil
  | n :: ns => .cons (.int n) (dpAll_ints ns)
theorem ints_of_dpAll {K : PySem.W.Frag} {H : Hp} : ∀ {ns : List Int} {vs : List V}, DpAll K H vs (ns.map PyData.int) → vs = ns.map V.int
  | [], _, h => by cases h; rfl
  | n :: ns, _, h => by
    cases h with
    | cons h1 h2 =>
      cases h1
      rw [ints_of_dpAll h2]
      rfl
theorem dp_lst {K : PySem.W.Frag} {H : Hp} {v : V} {ds : List PyData} (h : Dp K H v (.list ds)) : ∃ a xs, v = .ref a ∧ SqL K H a xs ∧ DpAll K H xs ds := by
  cases h with
  | lst hs ha => exact ⟨_, _, rfl, hs, ha⟩
theorem dp_tup {K : PySem.W.Frag} {H : Hp} {v : V} {ds : List PyData} (h : Dp K H v (.tuple ds)) : ∃ a xs, v = .ref a ∧ SqT K H a xs ∧ DpAll K H xs ds := by
  cases h with
  | tup hs ha => exact ⟨_, _, rfl, hs, ha⟩
theorem dp_int {K : PySem.W.Frag} {H : Hp} {v : V} {i : Int} (h : Dp K H v (.int i)) : v = .int i := by
  cases h
  rfl
/-! ### data without lists: it stands whatever is written -/
mutual
def imm : PyData → Bool
  | .none => true | .bool _ => true | .int _ => true | .str _ => true
  | .tuple ds => immAll ds
  | .list _ => false | .dict _ => false
def immAll : List PyData → Bool
  | [] => true
  | d :: ds => imm d && immAll ds
end
/-- tuples and locked things stand -/
def TSt (H H' : Hp) : Prop := (∀ b xs, H b = some (.tup xs) → H' b = some (.tup xs)) ∧ ∀ b o u, H b = some (.frz o u) → H' b = some (.frz o u)
theorem TSt.refl (H : Hp) : TSt H H := ⟨fun _ _ h => h, fun _ _ _ h => h⟩
theorem TSt.trans {H H1 H2 : Hp} (a : TSt H H1) (b : TSt H1 H2) : TSt H H2 := ⟨fun c xs h => b.1 c xs (a.1 c xs h), fun c o u h => b.2 c o u (a.2 c o u h)⟩
theorem Same.ts {H H' : Hp} (s : Same H H') : TSt H H' := ⟨fun _ _ h => s _ _ h, fun _ _ _ h => s _ _ h⟩
theorem ts_lst {H : Hp} {a : Addr} {xs ys : List V} (h : H a = some (.lst xs)) : TSt H (upd H a (.lst ys)) := by
  constructor
  · intro b zs e
    rw [upd_ne (fun z => by rw [z, h] at e; cases e)]
    exact e
  · intro b o u e
    rw [upd_ne (fun z => by rw [z, h] at e; cases e)]
    exact e
theorem SqT.ts {K : PySem.W.Frag} {H H' : Hp} {a : Addr} {xs : List V} (s : TSt H H') (h : SqT K H a xs) : SqT K H' a xs := by
  rcases h with (h | ⟨o, h⟩) | h
  · exact .inl (.inl (s.1 _ _ h))
  · exact .inl (.inr ⟨o, s.2 _ _ _ h⟩)
  · exact .inr h
mutual
theorem dp_imm {K : PySem.W.Frag} {H H' : Hp} (s : TSt H H') : ∀ {v : V} (d : PyData), imm d = true → Dp K H v d → Dp K H' v d
  | _, .none, _, h => by cases h; exact .non
  | _, .bool b, _, h => by cases h; exact .bl b
  | _, .int i, _, h => by cases h; exact .int i
  | _, .str x, _, h => by cases h; exact .str x
  | _, .list ds, i, h => by simp [imm] at i
  | _, .tuple ds, i, h => by
    cases h with
    | tup hs ha => exact .tup (hs.ts s) (dpAll_imm s ds (by simpa [imm] using i) ha)
  | _, .dict _, _, h => by cases h
theorem dpAll_imm {K : PySem.W.Frag} {H H' : Hp} (s : TSt H H') : ∀ {vs : List V} (ds : List PyData), immAll ds = true → DpAll K H vs ds → DpAll K H' vs ds
  | _, [], _, h => by cases h; exact .nil
  | _, d :: ds, i, h => by
    cases h with
    | cons h1 h2 =>
      have i' : imm d = true ∧ immAll ds = true := by simpa [immAll] using i
      exact .cons (dp_imm s d i'.1 h1) (dpAll_imm s ds i'.2 h2)
end
theorem immAll_of : ∀ {ds : List PyData}, (∀ d ∈ ds, imm d = true) → immAll ds = true
  | [], _ => rfl
  | d :: ds, h => by
    simp only [immAll, Bool.and_eq_true]
    exact ⟨h d (.head _), immAll_of fun x hx => h x (.tail _ hx)⟩
/-! ### a list of ours that grows and changes, its items data without lists -/
/-- the promise of a def that makes data and changes nothing -/
def gives (K : PySem.W.Frag) (H : Hp) (d : PyData) (Q : VK) : Prop := ∀ H' v, Same H H' → Dp K H' v d → Q v H'
end L2
/-! range over integers of any size -/
namespace L2
open PySem PySem.Spec PyProof.Rows
theorem turn_rangeL {P : Program} {w : World} {K : PySem.W.Frag} {tg : Expr} (it : Addr) (lo : Int) (n : Nat) : Turn P w K tg (Itr lo n) [it] it (fun i h => IsLongIter h it (lo + (i : Nat) * 1) ((n : Int) - (i : Nat)) 1) where
  mem := by simp
  obj := fun i h st b hb => by
    have e : b = it := by simpa using hb
    subst e
    exact ⟨_, st, fun v z => by
      have z' : Data.fields _ = Data.cell v := z
      cases z'⟩
  keep := fun i h h' st k => k it (by simp) _ st
  item := by
    intro X hP hw hK hc i pins s σ H E I hf st hg
    subst hP hw hK
    obtain ⟨f0, f1, f2, f3, f4, f5⟩ := hf it (by simp)
    have W := Walks.longrange (prog := X.prog) (w := X.w) (I.ok.hd hc) it lo 1 n
    refine W.item i s _ _ hg st fun v h' tk hv st' kk => ?_
    obtain ⟨t, rfl⟩ := hv
    have I1 : Inv X pins σ H { s with heap := h', toks := tk } := I.turned (fun b o hb e => kk b o (by simpa using hb) e) f0 f1 f3 f4 f5
    refine ⟨_, rfl, go_of (s := { s with heap := h', toks := tk }) (n := "longrange_iterator") st' rfl rfl (by decide) ⟨.int (lo + i), H, I1, ⟨t, ?_⟩, ⟨rfl, rfl⟩, st', fun b hb => (hf b hb).1⟩⟩
    rw [Int.mul_one]
  done := by
    intro X hP hw hK hc i pins s σ H E I hf st hg
    subst hP hw hK
    obtain ⟨f0, f1, f2, f3, f4, f5⟩ := hf it (by simp)
    exact wpAny_pyNext_long_end (I.ok.hd hc) st (by have : n ≤ i := hg; omega) fun h' eb => ⟨rfl, I.turned (t' := s.toks) (fun b o hb e => eb b o hb e) f0 f1 f3 f4 f5⟩
  self := fun _ _ _ _ _ st h => wpAny_pyIter_longiter st h
section
variable {X : Cx} {tg : Expr}
theorem range_itL {pins : List (Addr × Obj)} {σ : St} {H : Hp} {s : Shared} {R : It → Hp → Prop} {E : Value → Shared → Prop} {lo hi : Int} {t u v : Tok} {tk : Nat} (I : Inv X pins σ H s)
    (q : R (Itr lo (hi - lo).toNat) H) : wpAny (model X.prog X.w) X.A (pyIter (.ref s.heap.objs.size)) (PIE X pins σ tg R) E { s with heap := s.heap.push { cls := .type "range", data := .fields #[.int lo t, .int hi u, .int 1 v] }, toks := tk } := by
  have e1 : lo + ((0 : Nat) : Int) * 1 = lo := by simp
  have e2 : (((hi - lo).toNat : Nat) : Int) - ((0 : Nat) : Int) = Builtin.Range.rangeSize lo hi 1 := by rw [rangeSize_one]; split <;> omega
  have I1 : Inv X pins σ H { s with heap := s.heap.push { cls := .type "range", data := .fields #[.int lo t, .int hi u, .int 1 v] }, toks := tk } := I.kept fun b o e => Heap.get?_push_of_some _ e
  by_cases hs : Builtin.Range.small lo hi 1 = true
  · refine wpAny_pyIter_range (IsRange.new ..) hs ?_
    refine ⟨(s.heap.push { cls := .type "range", data := .fields #[.int lo t, .int hi u, .int 1 v] }).objs.size, [(s.heap.push { cls := .type "range", data := .fields #[.int lo t, .int hi u, .int 1 v] }).objs.size], _, _, H, rfl,
      I1.kept (t' := tk) fun b o e => Heap.get?_push_of_some _ e, turn_range _ lo (hi - lo).toNat, ?_, fun b hb => ?_, q⟩
    · show IsRangeIter _ _ (lo + ((0 : Nat) : Int) * 1) ((((hi - lo).toNat : Nat) : Int) - ((0 : Nat) : Int)) 1
      rw [e1, e2]
      exact Heap.get?_push_size _ rfl
    · have e : b = (s.heap.push { cls := .type "range", data := .fields #[.int lo t, .int hi u, .int 1 v] }).objs.size := by simpa using hb
      subst e
      exact I1.fpOk (Nat.le_refl _) (I1.hok.fresh (Nat.le_refl _))
  · refine wpAny_pyIter_longrange (IsRange.new ..) (by simpa using hs) ?_
    refine ⟨(s.heap.push { cls := .type "range", data := .fields #[.int lo t, .int hi u, .int 1 v] }).objs.size, [(s.heap.push { cls := .type "range", data := .fields #[.int lo t, .int hi u, .int 1 v] }).objs.size], _, _, H, rfl,
      I1.kept (t' := tk) fun b o e => Heap.get?_push_of_some _ e, turn_rangeL _ lo (hi - lo).toNat, ?_, fun b hb => ?_, q⟩
    · show IsLongIter _ _ (lo + ((0 : Nat) : Int) * 1) ((((hi - lo).toNat : Nat) : Int) - ((0 : Nat) : Int)) 1
      rw [e1, e2]
      exact Heap.get?_push_size _ rfl
    · have e : b = (s.heap.push { cls := .type "range", data := .fields #[.int lo t, .int hi u, .int 1 v] }).objs.size := by simpa using hb
      subst e
      exact I1.fpOk (Nat.le_refl _) (I1.hok.fresh (Nat.le_refl _))
def iRng1L (ta : TA) : TI := fun σ H R => ta σ H fun vs H1 => ∃ j : Int, vs = [.int j] ∧ R (Itr 0 j.toNat) H1
def iRng2L (ta : TA) : TI := fun σ H R => ta σ H fun vs H1 => ∃ i j : Int, vs = [.int i, .int j] ∧ R (Itr i (j - i).toNat) H1
theorem pi_range1L {a : Expr} {ta : TA} {p pos : Pos} (hg : Gl X "range") (hm : X.mg "range" = none) (ha : PA X [a] ta) (hs : starEach [a] X.env = [(false, eval a X.env)] := by rfl) : PI X tg (.Call (.Name "range" p) [a] [] pos) (iRng1L ta) := by
  refine ⟨fun pins s σ H R I h => ?_⟩
  refine Call_ (ld_blt I hg hm boot_range (PyProof.Rows.callWith_type1 (thn (ha.run pos pins s σ H _ I h) fun us s1 ⟨vs, H1, I1, r1, q1⟩ => ?_) hs rfl))
  obtain ⟨j, e, q⟩ := q1
  subst e
  cases r1 with
  | cons r rr =>
    cases rr
    obtain ⟨t, rfl⟩ := r
    exact call_range_1 (range_itL I1 (by simpa using q))
theorem pi_range2L {a b : Expr} {ta : TA} {p pos : Pos} (hg : Gl X "range") (hm : X.mg "range" = none) (ha : PA X [a, b] ta) (hs : starEach [a, b] X.env = [(false, eval a X.env), (false, eval b X.env)] := by rfl) (hs2 : starEach [b] X.env = [(false, eval b X.env)] := by rfl) :
    PI X tg (.Call (.Name "range" p) [a, b] [] pos) (iRng2L ta) := by
  refine ⟨fun pins s σ H R I h => ?_⟩
  refine Call_ (ld_blt I hg hm boot_range (PyProof.Rows.callWith_type1 (thn (ha.run pos pins s σ H _ I h) fun us s1 ⟨vs, H1, I1, r1, q1⟩ => ?_) (by rw [hs, hs2]) (by rw [hs2]; rfl)))
  obtain ⟨i, j, e, q⟩ := q1
  subst e
  cases r1 with
  | cons r rr =>
    cases rr with
    | cons r' rr =>
      cases rr
      obtain ⟨t, rfl⟩ := r
      obtain ⟨t', rfl⟩ := r'
      exact call_range_2 (range_itL I1 q)
end
section
variable {X : Cx} {tg : Expr}
/-- a range object that stands, walked -/
def iRngV (te : TE) : TI := fun σ H R => te σ H fun x H1 => ∃ p lo hi, x = .ref p ∧ H1 p = some (.rng lo hi) ∧ R (Itr lo (hi - lo).toNat) H1
theorem pi_rngV {e : Expr} {te : TE} (he : PE X e te) : PI X tg e (iRngV te) := by
  refine ⟨fun pins s σ H R I h => ?_⟩
  refine thn (he.run pins s σ H _ I h) fun v s1 ⟨x, H1, I1, r1, q1⟩ => ?_
  obtain ⟨p, lo, hi, rfl, hp, q⟩ := q1
  cases r1
  obtain ⟨t, u, v, hr⟩ : ∃ t u v, s1.heap.get? p = some { cls := .type "range", data := .fields #[.int lo t, .int hi u, .int 1 v] } := I1.hok p _ hp
  have e1 : lo + ((0 : Nat) : Int) * 1 = lo := by simp
  have e2 : (((hi - lo).toNat : Nat) : Int) - ((0 : Nat) : Int) = Builtin.Range.rangeSize lo hi 1 := by rw [rangeSize_one]; split <;> omega
  by_cases hs : Builtin.Range.small lo hi 1 = true
  · refine wpAny_pyIter_range hr hs ?_
    refine ⟨s1.heap.objs.size, [s1.heap.objs.size], _, _, H1, rfl, I1.kept (t' := s1.toks) fun b o e => Heap.get?_push_of_some _ e, turn_range _ lo (hi - lo).toNat, ?_, fun b hb => ?_, q⟩
    · show IsRangeIter _ _ (lo + ((0 : Nat) : Int) * 1) ((((hi - lo).toNat : Nat) : Int) - ((0 : Nat) : Int)) 1
      rw [e1, e2]
      exact Heap.get?_push_size _ rfl
    · have e : b = s1.heap.objs.size := by simpa using hb
      subst e
      exact I1.fpOk (Nat.le_refl _) (I1.hok.fresh (Nat.le_refl _))
  · refine wpAny_pyIter_longrange hr (by simpa using hs) ?_
    refine ⟨s1.heap.objs.size, [s1.heap.objs.size], _, _, H1, rfl, I1.kept (t' := s1.toks) fun b o e => Heap.get?_push_of_some _ e, turn_rangeL _ lo (hi - lo).toNat, ?_, fun b hb => ?_, q⟩
    · show IsLongIter _ _ (lo + ((0 : Nat) : Int) * 1) ((((hi - lo).toNat : Nat) : Int) - ((0 : Nat) : Int)) 1
      rw [e1, e2]
      exact Heap.get?_push_size _ rfl
    · have e : b = s1.heap.objs.size := by simpa using hb
      subst e
      exact I1.fpOk (Nat.le_refl _) (I1.hok.fresh (Nat.le_refl _))
end
/-- a constant of a module -/
structure GInt (mg : Str → Option Value) (x : Str) (n : Int) : Prop where
  ex : ∃ u, mg x = some u ∧ RelV (.int n) u
theorem pe_globI {X : Cx} {x : Str} {n : Int} {pos : Pos} (g : GInt X.mg x n) (hg : Gl X x := by rfl) (hd : (x == ("__debug__" : Str)) = false := by decide) : PE X (.Name x pos) (tC (.int n)) := by
  obtain ⟨u, h1, h2⟩ := g.ex
  exact pe_glob hg h1 h2 hd
end L2
/-! words of bits: naturals under &, |, ^, <<, >>, and the lowest bit -/
namespace L2
open PySem PySem.Spec PyProof.Rows
def rN2 (f : Nat → Nat → Nat) : V → V → Hp → VK → Prop := fun x y H Q => ∃ n m : Nat, x = .int (n : Int) ∧ y = .int (m : Int) ∧ Q (.int (f n m : Nat)) H
theorem opN {X : Cx} {f : Value → Value → Sem Value} {g : Int → Int → Int} {k : Nat → Nat → Nat} (o : OpR X f (rI0 fun i j => .int (g i j))) (e : ∀ n m : Nat, g n m = (k n m : Nat)) : OpR X f (rN2 k) := by
  intro pins s σ H x y v u Q I rx ry h
  obtain ⟨n, m, rfl, rfl, q⟩ := h
  refine o pins s σ H _ _ v u Q I rx ry ⟨n, m, rfl, rfl, ?_⟩
  show Q (.int (g n m)) H
  rw [e]
  exact q
theorem bitXor_nn (n m : Nat) : Builtin.bitXor n m = (n ^^^ m : Nat) := by
  have key : ∀ n m : Nat, (n ^^^ m) + 2 * (n &&& m) = n + m := by
    intro n
    induction n using Nat.strongRecOn with
    | _ n ih =>
      intro m
      by_cases h : n = 0
      · subst h
        simp
      · have z := ih (n / 2) (by omega) (m / 2)
        have e1 : n ^^^ m = 2 * ((n / 2) ^^^ (m / 2)) + (n + m) % 2 := by
          have a := Nat.xor_div_two_pow (a := n) (b := m) (n := 1)
          have b : (n ^^^ m) % 2 = (n + m) % 2 := by
            have c := Nat.xor_mod_two_pow (a := n) (b := m) (n := 1)
            simp only [Nat.pow_one] at c
            rcases Nat.mod_two_eq_zero_or_one n with h1 | h1 <;> rcases Nat.mod_two_eq_zero_or_one m with h2 | h2 <;> rw [c, h1, h2] <;> (try simp) <;> omega
          simp only [Nat.pow_one] at a
          omega
        have e2 : n &&& m = 2 * ((n / 2) &&& (m / 2)) + (n &&& m) % 2 := by
          have a := Nat.and_div_two_pow (a := n) (b := m) (n := 1)
          simp only [Nat.pow_one] at a
          omega
        have e3 : (n &&& m) % 2 = n % 2 * (m % 2) := by
          have a := Nat.and_mod_two_pow (a := n) (b := m) (n := 1)
          simp only [Nat.pow_one] at a
          rcases Nat.mod_two_eq_zero_or_one n with h1 | h1 <;> rcases Nat.mod_two_eq_zero_or_one m with h2 | h2 <;> rw [a, h1, h2] <;> rfl
        rw [e1, e2, e3]
        rcases Nat.mod_two_eq_zero_or_one n with h1 | h1 <;> rcases Nat.mod_two_eq_zero_or_one m with h2 | h2 <;> rw [h1, h2] <;> omega
  rw [bitXor_and, PySem.W.os_band]
  have := key n m
  omega
section
variable {X : Cx}
theorem op_orN : OpR X (binaryOp .BitOr) (rN2 fun n m => n ||| m) := opN op_or fun n m => by rw [bitOr_nn (Int.natCast_nonneg _) (Int.natCast_nonneg _), Int.toNat_natCast, Int.toNat_natCast]
theorem op_andN : OpR X (binaryOp .BitAnd) (rN2 fun n m => n &&& m) := opN op_and fun n m => PySem.W.os_band n m
theorem op_xorN : OpR X (binaryOp .BitXor) (rN2 fun n m => n ^^^ m) := opN op_xor bitXor_nn
theorem ip_orN : PIp X .BitOr (rN2 fun n m => n ||| m) := opN iop_or fun n m => by rw [bitOr_nn (Int.natCast_nonneg _) (Int.natCast_nonneg _), Int.toNat_natCast, Int.toNat_natCast]
theorem op_shrN2 : OpR X (binaryOp .RShift) (rN2 fun n m => n >>> m) := by
  intro pins s σ H x y v u Q I rx ry h
  obtain ⟨n, m, rfl, rfl, q⟩ := h
  refine op_shrN pins s σ H _ _ v u Q I rx ry ⟨n, m, rfl, rfl, ?_⟩
  have e : (n : Int) / 2 ^ m = ((n >>> m : Nat) : Int) := by
    rw [Nat.shiftRight_eq_div_pow, Int.natCast_ediv, PySem.W.kbt_cast]
  rw [e]
  exact q
theorem op_shl1N : OpR X (binaryOp .LShift) (fun x y H Q => ∃ k : Nat, x = .int 1 ∧ y = .int (k : Int) ∧ k ≤ 134217727 ∧ Q (.int (1 <<< k : Nat)) H) := by
  intro pins s σ H x y v u Q I rx ry h
  obtain ⟨k, rfl, rfl, hk, q⟩ := h
  refine op_oneShl pins s σ H _ _ v u Q I rx ry ⟨k, rfl, rfl, hk, ?_⟩
  rw [← PySem.W.kbt_cast, ← Nat.one_shiftLeft]
  exact q
end
/-- the lowest bit of a number -/
theorem low_parts {n : Nat} (h : n ≠ 0) : ∃ k a, n = 2 ^ k * (2 * a + 1) := by
  induction n using Nat.strongRecOn with
  | _ n ih =>
    rcases Nat.mod_two_eq_zero_or_one n with e | e
    · obtain ⟨k, a, z⟩ := ih (n / 2) (by omega) (by omega)
      refine ⟨k + 1, a, ?_⟩
      rw [Nat.pow_succ, Nat.mul_comm (2 ^ k) 2, Nat.mul_assoc, ← z]
      omega
    · exact ⟨0, n / 2, by rw [Nat.pow_zero, Nat.one_mul]; omega⟩
theorem low_bit (k a j : Nat) : (2 ^ k * (2 * a + 1)).testBit j = (decide (k ≤ j) && (2 * a + 1).testBit (j - k)) := by
  rw [Nat.testBit_two_pow_mul]
theorem low_at (k a : Nat) : (2 ^ k * (2 * a + 1)).testBit k = true := by
  rw [low_bit, Nat.sub_self, decide_eq_true (Nat.le_refl k), Bool.true_and, Nat.testBit_zero]
  exact decide_eq_true (by omega)
theorem low_below (k a : Nat) {j : Nat} (h : j < k) : (2 ^ k * (2 * a + 1)).testBit j = false := by
  rw [low_bit, decide_eq_false (by omega), Bool.false_and]
theorem intBits_pow (k : Nat) : Builtin.Int.intBits (2 ^ k : Int) = k + 1 := by
  have h : ((2 : Int) ^ k) = ((2 ^ k : Nat) : Int) := (PySem.W.kbt_cast k).symm
  unfold Builtin.Int.intBits
  rw [h, if_neg, Int.natAbs_natCast, Nat.log2_two_pow]
  have := Nat.two_pow_pos k
  simp only [beq_iff_eq]
  omega
theorem low_and (n k a : Nat) (e : n = 2 ^ k * (2 * a + 1)) : Builtin.bitAnd (n : Int) (-(n : Int)) = 2 ^ k := by
  have h : (n : Int) = 2 ^ k * (2 * (a : Int) + 1) := by
    rw [e, Int.natCast_mul, PySem.W.kbt_cast]
    rfl
  rw [h]
  exact PySem.W.kbt_low k a
end L2
namespace L2
open PySem PySem.Spec PyProof.Rows
/-- a[j] for `a[j] op= ..` -/
def rGetL (K : PySem.W.Frag) : V → V → Hp → VK → Prop := fun x y H Q => ∃ p xs, ∃ (j : Nat) (v : V), x = .ref p ∧ y = .int (j : Int) ∧ SqL K H p xs ∧ xs[j]? = some v ∧ Q v H
theorem get_list {X : Cx} : PGet X (rGetL X.K) := by
  intro pins s σ H x y v u Q I rx ry h
  obtain ⟨p, xs, j, z, rfl, rfl, hq, he, q⟩ := h
  cases rx
  obtain ⟨t, rfl⟩ := ry
  obtain ⟨its, r, pl, hz⟩ := I.list hq
  obtain ⟨w, ew, rw'⟩ := r.get he
  have hl := r.length
  have hn := line63
  have hj : j < xs.length := by
    rw [List.getElem?_eq_some_iff] at he
    exact he.1
  exact wpAny_getItem_list pl.isList (Int.natCast_nonneg _) (by omega) (by rw [Int.toNat_natCast]; simpa using ew) ⟨z, H, I, rw', q⟩
end L2
/-! xs[:] = a tuple -/
namespace L2
open PySem PySem.Spec PyProof.Rows
section
variable {prog : Program} {w : World} {A : Around} {E : Value → Shared → Prop} {s : Shared}
theorem bounds_whole (n : Nat) : sliceBounds none none none n = ((0 : Int), (n : Int), 1) := by
  simp only [sliceBounds, Option.getD_none]
  rfl
theorem setItem_whole {l b sl : Addr} {items new : Array Value} {n n2 : Nat} {ob : Obj} {Q : Unit → Shared → Prop}
    (e : s.heap.get? l = some { cls := .type "list", data := .seq items n }) (e2 : s.heap.get? b = some ob) (ec : ob.cls = .type "tuple") (ed : ob.data = .seq new n2) (hne : l ≠ b)
    (hs : s.heap.IsSliceOf sl .none .none .none)
    (hsz : items.size + new.size ≤ sizeLine) (h : Q () { s with heap := s.heap.update l (Obj.mapSeq fun xs => xs.extract 0 0 ++ new ++ xs.extract items.size xs.size) }) :
    wpAny (model prog w) A (setItem (.ref l) (.ref sl) (.ref b)) Q E s := by
  have hl : s.heap.IsList l items := PySem.IsL.isList e
  have hb : s.TypeIs (.ref b) "tuple" := ⟨ob, e2, ec⟩
  obtain ⟨os, hos, hcs, hds⟩ := id hs
  have hTs : s.TypeIs (.ref sl) "slice" := ⟨os, hos, hcs⟩
  have hstep : ¬ ((rawPart none == rawInt 0) = true) := Bool.false_ne_true
  have hsame : Builtin.List.listSameRef (.ref l) (.ref b) = false := by
    unfold Builtin.List.listSameRef
    exact beq_eq_false_iff_ne.mpr hne
  have hmax : (max (0 : Int) (items.size : Int)).toNat = items.size := by omega
  have hz' : ((fun xs : Array Value => xs.extract 0 0 ++ new ++ xs.extract items.size xs.size) items).size ≤ sizeLine + 1 := by
    simp only [Array.size_append, Array.size_extract]
    omega
  unfold setItem
  try with_reducible refine wpAny_holding ?_
  first | refine wpAny_bind (wpAny_pure ?_) | skip
  refine wpAny_bind (wpAny_sequenceKey hl.typeIs (by decide) ?_)
  refine wpAny_bind (wpAny_callSpecial?_slot (name := Str.ofString "__setitem__") hl.typeIs slot_list_setitem
    (wpAny_call_entry slot_list_setitem hl.typeIs entry_list_setitem ?_ (args_list_setitem _ _ _)))
  show wpAny _ _ (Builtin.List.listSubscript? (.ref sl) >>= _) _ _ s
  refine wpAny_bind ?_
  unfold Builtin.List.listSubscript?
  refine wpAny_bind (wpAny_specialOf hTs slice_no_index ?_)
  simp only [Option.isNone_none, if_true]
  refine wpAny_pure ?_
  show wpAny _ _ (typeOf (.ref sl) >>= _) _ _ s
  refine wpAny_bind (wpAny_typeOf hTs ?_)
  first
    | rw [if_neg (by decide)]
    | refine PySem.W.KFB.if_not (by decide) ?_
  rw [listSliceParts_eq]
  refine wpAny_bind (wpAny_bind (wpAny_field hos hds (x := .none) rfl (wpAny_bind (wpAny_listPart .none ?_))))
  rw [if_neg hstep]
  refine wpAny_bind (wpAny_field hos hds (x := .none) rfl (wpAny_bind (wpAny_listPart .none ?_)))
  refine wpAny_bind (wpAny_field hos hds (x := .none) rfl (wpAny_bind (wpAny_listPart .none (wpAny_pure ?_))))
  first
    | simp only [hsame, Bool.false_eq_true, if_false]
    | refine PySem.W.KFB.if_not hsame ?_
    | (dsimp only
       rw [if_neg (by rw [hsame]; exact Bool.false_ne_true)])
  refine wpAny_bind (m := Builtin.List.listAllItems (.ref b) "must assign iterable to extended slice") ?_
  unfold Builtin.List.listAllItems
  refine wpAny_bind (wpAny_typeOf hb ?_)
  first
    | refine PySem.W.KFB.if_so (by decide) ?_
    | rw [if_pos (by decide)]
    | simp only [beq_self_eq_true, Bool.true_or, if_true]
  unfold Builtin.List.listItems
  refine wpAny_bind (wpAny_seqItems e2 ed (wpAny_pure ?_))
  refine wpAny_bind (wpAny_bind (wpAny_seqItems e rfl (wpAny_pure ?_)))
  refine wpAny_bind (wpAny_of_eq ((sliceIndices_raw none none none items.size (by simp)).trans (congrArg (pure : Int × Int × Int → Sem (Int × Int × Int)) (bounds_whole items.size))) ?_)
  show wpAny _ _ (if ((1 : Int) == 1) = true then _ else _) _ _ s
  rw [if_pos (by decide)]
  refine wpAny_bind (wpAny_rule ?_)
  first
    | simp only [notLongL hsz, Bool.false_eq_true, if_false]
    | refine PySem.W.KFB.if_not (notLongL hsz) ?_
  first | refine wpAny_bind (wpAny_pure ?_) | skip
  show wpAny _ _ (updateSeq l (fun xs => xs.extract 0 ((0 : Int)).toNat ++ new ++ xs.extract (max (0 : Int) (items.size : Int)).toNat xs.size) >>= _) _ _ s
  rw [hmax, show ((0 : Int)).toNat = 0 from rfl]
  refine wpAny_bind (wpAny_updateSeq (hz := Nat.le_trans (Nat.le_add_right _ _) hsz) (_hz' := hz') e rfl ?_)
  refine wpAny_bind (wpAny_letGo ?_)
  first
    | exact wpAny_bind (wpAny_pure (wpAny_pure ⟨.none, rfl, wpAny_pure h⟩))
    | exact wpAny_pure ⟨.none, rfl, wpAny_pure h⟩
end
/-- o[:] = a tuple -/
def gAll (K : PySem.W.Frag) (to : TE) : TG := fun v σ H Q => to σ H fun x H1 => ∃ l b xs ys, x = .ref l ∧ v = .ref b ∧ H1 l = some (.lst xs) ∧ SqT K H1 b ys ∧ xs.length + ys.length ≤ sizeLine ∧ Q σ (upd H1 l (.lst ys))
theorem pg_all {X : Cx} {o : Expr} {to : TE} {pos p2 : Pos} (ho : PE X o to) : PG X (.Subscript o (.Slice none none none p2) pos) (gAll X.K to) := by
  refine ⟨fun pins s σ H v u Q I r h => ?_⟩
  rw [arm_assign_Subscript]
  refine wpAny_bind (wpAny_holding (thn (ho.run pins s σ H _ I h) fun ov s1 ⟨x, H1, I1, r1, q1⟩ => ?_))
  obtain ⟨l, b, xs, ys, rfl, rfl, hl, hb, hz, q⟩ := q1
  cases r1
  cases r
  refine wpAny_bind (wpAny_holding (wpAny_Slice ?_))
  rw [evalPart_none]
  refine wpAny_pure ?_
  refine wpAny_pure ?_
  refine wpAny_pure ?_
  have I2 : Inv X pins σ H1 { s1 with heap := s1.heap.push { cls := .type "slice", data := .fields #[.none, .none, .none] } } := I1.kept (t' := s1.toks) fun b ob q => Heap.get?_push_of_some _ q
  have hs : ({ s1 with heap := s1.heap.push { cls := .type "slice", data := .fields #[.none, .none, .none] } } : Shared).heap.IsSliceOf s1.heap.objs.size .none .none .none := Heap.IsSliceOf.new ..
  obtain ⟨z, its, n, r, hlen, e⟩ := I2.lstM hl
  obtain ⟨its2, r2, ⟨ob, e2, ec, n2, ed⟩, hz2⟩ := I2.tuple hb
  have l2 := r2.length
  refine wpAny_bind (wpAny_standAt (wpAny_bind (wpAny_holding (setItem_whole e e2 ec ed ?_ hs ?_ ?_))))
  · rintro rfl
    rw [e] at e2
    injection e2 with e3
    rw [← e3] at ec
    exact absurd ec (by
      intro z
      injection z with z
      exact absurd z (by decide))
  · rw [List.size_toArray, List.size_toArray]
    omega
  · refine wpAny_release ⟨σ, _, I2.lset (its' := its2) (t' := s1.toks) hl e ?_ r2 hz2, q⟩
    simp
end L2
/-! Common tools: classes of one's own by their place. -/
namespace L2
open PySem PySem.Spec PyProof.Rows
/-- a class that is called: its __init__ and its promise -/
structure DMake (P : Program) (w : World) (K : PySem.W.Frag) (mg : Str → Option Value) (base : Heap) (CX : CXT) (lv : Nat) (x : Str) (C : Addr) (ps : List Str) (sp : Sp) : Prop where
  gC : mg x = some (.ref C)
  ex : ∃ (f : Addr) (fd : FuncData), Mk K C f ∧ FnOk P w K mg base CX lv f fd ps sp ∧ Binds K fd ps []
/-- a method -/
structure DMeth (P : Program) (w : World) (K : PySem.W.Frag) (mg : Str → Option Value) (base : Heap) (CX : CXT) (lv : Nat) (C : Addr) (m : Str) (ps : List Str) (sp : Sp) : Prop where
  cl : Cls K C
  ex : ∃ (f : Addr) (fd : FuncData), Meth K C m f ∧ FnOk P w K mg base CX lv f fd ps sp ∧ Binds K fd ps []
/-- a property -/
structure DProp (P : Program) (w : World) (K : PySem.W.Frag) (mg : Str → Option Value) (base : Heap) (CX : CXT) (lv : Nat) (C : Addr) (m : Str) (sp : Sp) : Prop where
  cl : Cls K C
  ex : ∃ (p g : Addr) (fd : FuncData), PropOf K C m p g ∧ FnOk P w K mg base CX lv g fd ["self"] sp ∧ Binds K fd ["self"] []
section
variable {X : Cx} {CX : CXT} {k j : Nat} {ps : List Str} {sp : Sp} {x m : Str} {C : Addr} {p pos apos : Pos} {e o : Expr} {es : List Expr} {t : TA} {ta : TE}
theorem pe_makeD {E : XK} (D : DMake X.prog X.w X.K X.mg X.base CX k x C ps sp) (hr : Room j X.A) (hkj : k + 1 ≤ j) (hx : Passes CX X E) (ha : PA X (e :: es) t) (hg : Gl X x := by rfl) (hdb : (x == ("__debug__" : Str)) = false := by decide)
    (he : starEach (e :: es) X.env = (false, eval e X.env) :: starEach es X.env := by rfl) (hpl : (backTo pos (starEach es X.env)).any (·.1) = false := by rfl) : PE X (.Call (.Name x p) (e :: es) [] pos) (tMake C sp [] E t) := by
  obtain ⟨f, fd, M, F, hb⟩ := D.ex
  exact pe_make M F (hr.mono hkj) hg D.gC hb .nil hx ha hdb he hpl
theorem pe_methD {E : XK} {pl : Sem Bool} (D : DMeth X.prog X.w X.K X.mg X.base CX k C m ps sp) (hr : Room j X.A) (hkj : k ≤ j) (hx : Passes CX X E) (ho : PE X o ta) (ha : PA X (e :: es) t)
    (hst : starEach (e :: es) X.env = (false, eval e X.env) :: starEach es X.env := by rfl) (hpl : (backTo pos (starEach es X.env)).any (·.1) = false := by rfl)
    (ht : eval (.Call (.Attribute o m apos) (e :: es) [] pos) X.env = (do
      let ov ← eval o X.env
      standAt apos.atName
      let (f, first) ← holding [ov] (getMethod ov m pl)
      callWith pos f first (backTo pos (starEach (e :: es) X.env)) (backToKw pos (keywordEach [] X.env))) := by rfl) : PE X (.Call (.Attribute o m apos) (e :: es) [] pos) (tMeth C m sp [] E ta t) := by
  obtain ⟨f, fd, M, F, hb⟩ := D.ex
  exact pe_meth ho D.cl M F (hr.mono hkj) hb .nil hx ha hst hpl ht
theorem pe_methD0 {E : XK} {pl : Sem Bool} (D : DMeth X.prog X.w X.K X.mg X.base CX k C m ps sp) (hr : Room j X.A) (hkj : k ≤ j) (hx : Passes CX X E) (ho : PE X o ta)
    (ht : eval (.Call (.Attribute o m apos) [] [] pos) X.env = (do
      let ov ← eval o X.env
      standAt apos.atName
      let (f, first) ← holding [ov] (getMethod ov m pl)
      callWith pos f first (backTo pos (starEach [] X.env)) (backToKw pos (keywordEach [] X.env))) := by rfl) : PE X (.Call (.Attribute o m apos) [] [] pos) (tMeth C m sp [] E ta tNil) := by
  obtain ⟨f, fd, M, F, hb⟩ := D.ex
  exact pe_meth0 ho D.cl M F (hr.mono hkj) hb .nil hx ht
theorem pe_propD {E : XK} (D : DProp X.prog X.w X.K X.mg X.base CX k C m sp) (hr : Room j X.A) (hkj : k + 1 ≤ j) (hx : Passes CX X.nox E) (ho : PE X o ta) (hab : attributeBase o m X.env (eval o X.env) = eval o X.env := by rfl) :
    PE X (.Attribute o m pos) (tProp C sp [] E ta) := by
  obtain ⟨p, g, fd, M, F, hb⟩ := D.ex
  exact pe_prop ho D.cl M F (hr.mono hkj) hb .nil hx hab
end
/-- the heap but for one place -/
def SameBut (a : Addr) (H H' : Hp) : Prop := ∀ b o, b ≠ a → H b = some o → H' b = some o
end L2
/-! any values: ints, lists, tuples, and others, of which the kind alone is known -/
namespace L2
open PySem PySem.Spec PyProof.Rows
inductive J where
  | int (i : Int)
  | odd
  | list (l : List J)
  | tup (l : List J)
/-- a kind that is neither a plain int nor a list nor a tuple -/
def OddKind (K : PySem.W.Frag) (t : Value) : Prop := ∃ bi bb, PySem.W.kitOne K t (.type "int") = some bi ∧ PySem.W.kitOne K t (.type "bool") = some bb ∧ PySem.W.kitOne K t (.type "list") = some false ∧ PySem.W.kitOne K t (.type "tuple") = some false ∧ (bi = true → bb = true)
mutual
inductive Jr (K : PySem.W.Frag) (H : Hp) : V → J → Prop where
  | int (i : Int) : Jr K H (.int i) (.int i)
  | odd {v : V} {t : Value} (ty : TyX K H v t) (k : OddKind K t) (n : ∀ i, v ≠ .int i) : Jr K H v .odd
  | lst {a : Addr} {vs : List V} {js : List J} (s : SqL K H a vs) (ty : TyX K H (.ref a) (.type "list")) (h : JrAll K H vs js) : Jr K H (.ref a) (.list js)
  | tup {a : Addr} {vs : List V} {js : List J} (s : SqT K H a vs) (ty : TyX K H (.ref a) (.type "tuple")) (h : JrAll K H vs js) : Jr K H (.ref a) (.tup js)
inductive JrAll (K : PySem.W.Frag) (H : Hp) : List V → List J → Prop where
  | nil : JrAll K H [] []
  | cons {v : V} {j : J} {vs : List V} {js : List J} (h : Jr K H v j) (t : JrAll K H vs js) : JrAll K H (v :: vs) (j :: js)
end
theorem tyOf_same {K : PySem.W.Frag} {H H' : Hp} (S : Same H H') {v : V} {t : Value} (h : TyOf K H v t) : TyOf K H' v t := by
  cases h with
  | non => exact .non
  | bl x => exact .bl x
  | int i => exact .int i
  | str x => exact .str x
  | flt x => exact .flt x
  | lst e => exact .lst (S _ _ e)
  | frz e => exact .frz (S _ _ e)
  | tup e => exact .tup (S _ _ e)
  | dK e => exact .dK (S _ _ e)
  | dT e => exact .dT (S _ _ e)
  | ins e cl ha hn htk hm => exact .ins (S _ _ e) cl ha hn htk hm
theorem ty_same {K : PySem.W.Frag} {H H' : Hp} (S : Same H H') {v : V} {t : Value} (h : TyX K H v t) : TyX K H' v t := by
  cases h with
  | base b => exact .base (tyOf_same S b)
  | byt b => exact .byt b
  | set e => exact .set (S _ _ e)
  | kList e c => exact .kList e c
  | kTuple e c => exact .kTuple e c
  | kDict e c => exact .kDict e c
  | fTuple e => exact .fTuple (S _ _ e)
  | fDict e => exact .fDict (S _ _ e)
theorem sqt_same {K : PySem.W.Frag} {H H' : Hp} (S : Same H H') {a : Addr} {xs : List V} (h : SqT K H a xs) : SqT K H' a xs := SqT.ts S.ts h
mutual
theorem jr_same {K : PySem.W.Frag} {H H' : Hp} (S : Same H H') : ∀ {v : V} (j : J), Jr K H v j → Jr K H' v j
  | _, .int i, h => by cases h; exact .int i
  | _, .odd, h => by
    cases h with
    | odd ty k n => exact .odd (ty_same S ty) k n
  | _, .list js, h => by
    cases h with
    | lst s ty h => exact .lst (S.seq s) (ty_same S ty) (jrAll_same S js h)
  | _, .tup js, h => by
    cases h with
    | tup s ty h => exact .tup (sqt_same S s) (ty_same S ty) (jrAll_same S js h)
theorem jrAll_same {K : PySem.W.Frag} {H H' : Hp} (S : Same H H') : ∀ {vs : List V} (js : List J), JrAll K H vs js → JrAll K H' vs js
  | _, [], h => by cases h; exact .nil
  | _, j :: js, h => by
    cases h with
    | cons h1 h2 => exact .cons (jr_same S j h1) (jrAll_same S js h2)
end
theorem jrAll_len {K : PySem.W.Frag} {H : Hp} : ∀ {vs : List V} {js : List J}, JrAll K H vs js → vs.length = js.length
  | _, _, .nil => rfl
  | _, _, .cons _ t => by rw [List.length_cons, List.length_cons, jrAll_len t]
theorem jrAll_getV {K : PySem.W.Frag} {H : Hp} : ∀ {vs : List V} {js : List J} {i : Nat} {v : V}, JrAll K H vs js → vs[i]? = some v → ∃ d, js[i]? = some d ∧ Jr K H v d
  | _, _, _, _, .nil, e => by simp at e
  | _, _, 0, _, .cons h _, e => by
    simp at e
    subst e
    exact ⟨_, rfl, h⟩
  | _, _, i + 1, v, .cons _ t, e => by
    obtain ⟨d, h1, h2⟩ := jrAll_getV (i := i) (v := v) t (by simpa using e)
    exact ⟨d, by simpa using h1, h2⟩
/-- its kind -/
theorem Jr.kind {K : PySem.W.Frag} {H : Hp} {v : V} {j : J} (h : Jr K H v j) : ∃ t bi bb, TyX K H v t ∧ PySem.W.kitOne K t (.type "int") = some bi ∧ PySem.W.kitOne K t (.type "bool") = some bb ∧
    PySem.W.kitOne K t (.type "list") = some (match j with | .list _ => true | _ => false) ∧ PySem.W.kitOne K t (.type "tuple") = some (match j with | .tup _ => true | _ => false) ∧ (match j with | .int _ => bi = true ∧ bb = false | _ => bi = true → bb = true) := by
  cases h with
  | int i => exact ⟨_, true, false, .base (.int i), kit_ty (show kitB "int" "int" = some true by decide +kernel), kit_ty (show kitB "int" "bool" = some false by decide +kernel), kit_ty (show kitB "int" "list" = some false by decide +kernel), kit_ty (show kitB "int" "tuple" = some false by decide +kernel), rfl, rfl⟩
  | odd ty k _ =>
    obtain ⟨bi, bb, k1, k2, k3, k4, k5⟩ := k
    exact ⟨_, bi, bb, ty, k1, k2, k3, k4, k5⟩
  | lst _ ty _ => exact ⟨_, false, false, ty, kit_ty (show kitB "list" "int" = some false by decide +kernel), kit_ty (show kitB "list" "bool" = some false by decide +kernel), kit_ty (show kitB "list" "list" = some true by decide +kernel), kit_ty (show kitB "list" "tuple" = some false by decide +kernel), fun z => z⟩
  | tup _ ty _ => exact ⟨_, false, false, ty, kit_ty (show kitB "tuple" "int" = some false by decide +kernel), kit_ty (show kitB "tuple" "bool" = some false by decide +kernel), kit_ty (show kitB "tuple" "list" = some false by decide +kernel), kit_ty (show kitB "tuple" "tuple" = some true by decide +kernel), fun z => z⟩
/- data as such a value: the texts, None and bools are odd -/
mutual
def toJ : PyData → J
  | .int i => .int i
  | .list ds => .list (toJs ds)
  | .tuple ds => .tup (toJs ds)
  | _ => .odd
def toJs : List PyData → List J
  | [] => []
  | d :: ds => toJ d :: toJs ds
end
end L2
/-! Own exceptions by their place. -/
namespace L2
open PySem PySem.Spec PyProof.Rows
/-- one with a field -/
structure DErrF (P : Program) (K : PySem.W.Frag) (mg : Str → Option Value) (x fld : Str) (C : Addr) : Prop where
  ex : ∃ (fa : Str) (tl : List Expr) (fI : Addr), PySem.FX.FldTxt P K mg x fld fa tl C fI
  b : PySem.W.subIn K (.ref C) (.type "BaseException") = some true
  t : PySem.W.typeIn K (.ref C) = some (.type "type")
/-- one with a message -/
structure DErrM (K : PySem.W.Frag) (mg : Str → Option Value) (x : Str) (C : Addr) : Prop where
  ex : PySem.W.excIn K C [.type "ValueError", .type "Exception", .type "BaseException", .type "object"] "ValueError.__new__" = true
  gC : mg x = some (.ref C)
  kC : PySem.W.keepIn K (.ref C) = true
  b : PySem.W.subIn K (.ref C) (.type "BaseException") = some true
  t : PySem.W.typeIn K (.ref C) = some (.type "type")
section
variable {X : Cx} {x fld : Str} {C : Addr} {e : Expr} {te : TE} {p pos : Pos} {k : Nat}
theorem pmk_fldD (D : DErrF X.prog X.K X.mg x fld C) (hr : Room k X.A) (he : PE X e te) (hg : Gl X x := by rfl) (hs : starEach [e] X.env = (false, eval e X.env) :: starEach [] X.env := by rfl) (hdb : (x == ("__debug__" : Str)) = false := by decide) :
    PMk X (.Call (.Name x p) [e] [] pos) (fun σ H Q => te σ H fun v H1 => FldV v ∧ ∀ d, H1 d = none → Q (.ref C) (some d) (upd H1 d (.xd [(fld, v)]))) := by
  obtain ⟨fa, tl, fI, T⟩ := D.ex
  exact pmk_fld T (raises_own D.b D.t) hr hg he hs hdb
theorem pmk_msgD (D : DErrM X.K X.mg x C) (he : PE X e te) (hg : Gl X x := by rfl) (hs : starEach [e] X.env = (false, eval e X.env) :: starEach [] X.env := by rfl) (hdb : (x == ("__debug__" : Str)) = false := by decide) :
    PMk X (.Call (.Name x p) [e] [] pos) (fun σ H Q => te σ H fun _ H1 => Q (.ref C) none H1) := by
  exact SkE.pmk_own1 PySem.F.excBase_ValueError D.ex D.gC D.kC (raises_own D.b D.t) hg he hs hdb
end
end L2
/-! The head by a Hook of one's own: facts by Booleans over a part of the heap that the names reach. -/
namespace Hx
open PySem PySem.Spec PyProof.Rows L2 He
abbrev Fct := PySem.W.Frag → Bool
/-- a def: where it stands, its name, qualified name, its statement -/
structure FnX where
  at_ : PySem.W.Frag → Addr
  name : Str
  qual : Str
  st : Stmt
def fnV (K : PySem.W.Frag) (f : Addr) : FnV := match K.lookup f with
  | some ⟨_, _, .func fd, _⟩ => some (fd.name, fd.qualname, fd.params, fd.body, fd.scope, fd.globals, fd.closure, fd.defaults, fd.builtins)
  | _ => none
def FnX.val (d : FnX) : FnV := some (d.name, d.qual, defArgs d.st, .stmts (defBody d.st), defScope d.st, mainGlobals, [], .none, builtinsNs)
def FnX.ok (K : PySem.W.Frag) (d : FnX) : Bool := PySem.W.keepIn K (.ref (d.at_ K)) && (match K.lookup (d.at_ K) with
  | some ⟨_, _, .func fd, _⟩ => PySem.W.codeIn K fd.code d.qual
  | _ => false)
theorem FnX.fun_ {K : PySem.W.Frag} {d : FnX} (e : fnV K (d.at_ K) = d.val) (c : d.ok K = true) : ∃ fd, Fun K d.name d.qual d.st (d.at_ K) fd := by
  obtain ⟨kp, c2⟩ := ba c
  unfold fnV at e
  cases q : K.lookup (d.at_ K) with
  | none =>
    rw [q] at c2
    cases c2
  | some o =>
    obtain ⟨oc, od, dt, osl⟩ := o
    rw [q] at c2 e
    cases dt with
    | func fd =>
      obtain ⟨n1, n2, n3, n4, n5, n6, n7, n8, n9, n10, n11, n12, n13, n14, n15⟩ := fd
      have e2 : (some (n1, n2, n3, n4, n5, n6, n7, n8, n15) : FnV) = some (d.name, d.qual, defArgs d.st, .stmts (defBody d.st), defScope d.st, mainGlobals, [], .none, builtinsNs) := e
      simp only [Option.some.injEq, Prod.mk.injEq] at e2
      obtain ⟨h1, h2, h3, h4, h5, h6, h7, h8, h9⟩ := e2
      subst h1 h2 h3 h4 h5 h6 h7 h8 h9
      exact ⟨_, ⟨oc, od, n9, n10, n11, n12, n13, n14, osl, rfl, q, c2⟩, kp⟩
    | _ => cases c2
/-! ### own exceptions with a field -/
structure FxD where
  x : Str
  fld : Str
  a : Str
  tl : List Expr
  qual : Str
  r1 : Pos
  r2 : Pos
  p0 : Pos
  p1 : Pos
  p2 : Pos
  p3 : Pos
  p4 : Pos
  p5 : Pos
  p6 : Pos
  p7 : Pos
  p8 : Pos
  q1 : Pos
  q2 : Pos
  q3 : Pos
  q4 : Pos
  j : Nat
abbrev FxV : Type := Option (Str × Str × Arguments × FuncBody × Scope × Addr × List Str × Value × Value × Addr)
def fxV (K : PySem.W.Frag) (f : Addr) : FxV := match K.lookup f with
  | some ⟨_, _, .func fd, _⟩ => some (fd.name, fd.qualname, fd.params, fd.body, fd.scope, fd.globals, fd.closure.map (·.1), fd.defaults, fd.kwdefaults, fd.builtins)
  | _ => none
def FxD.val (d : FxD) : FxV := some ("__init__", d.qual, PySem.FX.fA d.fld d.r1 d.r2, .stmts (PySem.FX.fB d.fld d.a d.tl d.p0 d.p1 d.p2 d.p3 d.p4 d.p5 d.p6 d.p7 d.p8 d.q1 d.q2 d.q3 d.q4 d.j), PySem.FX.fS d.fld, mainGlobals, ["__class__"], .none, .none, builtinsNs)
def fxC (K : PySem.W.Frag) (C : Addr) : Bool := match K.lookup C with
  | some ⟨.type t, _, .cls ⟨_, _, .ref c :: bm, _, _, hd, _, _, _, _, del⟩, ⟨[_, _, _, _, some (.builtin b), _]⟩⟩ => decide (t = "type") && (decide (c = C) && (hd && (!del && (decide (b = "ValueError.__new__") && (PySem.HandSPX.refsVE bm && eqO (PySem.W.alongIn K "__init__" bm) (some (some (.builtin "ValueError.__init__"))))))))
  | _ => false
theorem fxC_ok {K : PySem.W.Frag} {C : Addr} (h : fxC K C = true) : ∃ nm q N bs bm sn sub ab col dd k0 k1 k2 k3 k5, K.lookup C = some (PySem.excClassObj nm q C N bs bm true sn sub ab col dd k0 k1 k2 k3 k5 "ValueError.__new__") ∧ PySem.HandSPX.refsVE bm = true ∧ PySem.W.alongIn K "__init__" bm = some (some (.builtin "ValueError.__init__")) := by
  unfold fxC at h
  split at h
  · rename_i t dd nm bs c bm N q hd sn sub ab col del k0 k1 k2 k3 b k5 e
    obtain ⟨h1, h⟩ := ba h
    obtain ⟨h2, h⟩ := ba h
    obtain ⟨h3, h⟩ := ba h
    obtain ⟨h4, h⟩ := ba h
    obtain ⟨h5, h⟩ := ba h
    obtain ⟨h6, h7⟩ := ba h
    have g1 := of_decide_eq_true h1
    have g2 := of_decide_eq_true h2
    have g5 := of_decide_eq_true h5
    subst g1 g2 g5 h3
    have g4 : del = false := by
      cases del
      · rfl
      · cases h4
    subst g4
    exact ⟨nm, q, N, bs, bm, sn, sub, ab, col, dd, k0, k1, k2, k3, k5, e, h6, eqO_ok h7⟩
  · cases h
def fxI (K : PySem.W.Frag) (C I : Addr) (qual file : Str) : Bool := match K.lookup I with
  | some ⟨_, _, .func fd, _⟩ => (match fd.code with
    | .ref cda => PySem.W.codeIn K (.ref cda) qual && (match K.lookup cda with
      | some ⟨_, _, .fields vs, _⟩ => (match (vs[2]? : Option Value) with
        | some (.str f _) => decide (f = file)
        | _ => false)
      | _ => false)
    | _ => false) && (match fd.closure with
    | [(_, cc)] => (match K.lookup cc with
      | some ⟨_, _, .cell (some (.ref c)), _⟩ => decide (c = C)
      | _ => false)
    | _ => false)
  | _ => false
def FxD.ok (K : PySem.W.Frag) (file : Str) (d : FxD) : Bool :=
  let C := ga K d.x
  let I := ma K C "__init__"
  fxC K C && (eqO (PySem.W.nsIn K mainGlobals d.x) (some (some (.ref C))) && (eqO (PySem.W.findIn K (.ref C) "__setattr__") (some (some (.builtin "object.__setattr__"))) && (eqO (PySem.W.findIn K (.ref C) d.fld) (some none) && (eqO (PySem.W.findIn K (.ref C) "__init__") (some (some (.ref I))) &&
    (decide (PySem.W.typeIn K (.ref I) = some (.type "function")) && (PySem.W.keepIn K (.ref C) && (decide (PySem.W.subIn K (.ref C) (.type "ValueError") = some true) && (decide (PySem.W.mroIn K C (.ref C) = some true) && (eqO (PySem.W.nsIn K cStatics "thirdparty.any") (some none) &&
    (fxI K C I d.qual file && (decide (PySem.W.subIn K (.ref C) (.type "BaseException") = some true) && decide (PySem.W.typeIn K (.ref C) = some (.type "type")))))))))))))
theorem FxD.fld_ {P : Program} {K : PySem.W.Frag} {mg : Str → Option Value} {h : Heap} {d : FxD} (X : K.In h) (G : h.Ns mainGlobals mg) (nm : PySem.FX.FldName d.fld) (sup : mg "super" = none) (tlo : PySem.FX.Tl d.tl) (al : d.a.length ≤ 1000)
    (top : (P.main.scope.names.lookup ("super" : Str)).isSome = false) (ev : ∀ cda cc, PySem.FX.EvOk d.qual d.fld d.a d.tl d.p0 d.p1 d.p2 d.p3 d.p4 d.p6 d.p7 d.p8 d.j (.ref cda) cc)
    (e : fxV K (ma K (ga K d.x) "__init__") = d.val) (c : d.ok K P.main.file = true) : DErrF P K mg d.x d.fld (ga K d.x) := by
  unfold FxD.ok at c
  obtain ⟨c1, c⟩ := ba c
  obtain ⟨c2, c⟩ := ba c
  obtain ⟨c3, c⟩ := ba c
  obtain ⟨c4, c⟩ := ba c
  obtain ⟨c5, c⟩ := ba c
  obtain ⟨c6, c⟩ := ba c
  obtain ⟨c7, c⟩ := ba c
  obtain ⟨c8, c⟩ := ba c
  obtain ⟨c9, c⟩ := ba c
  obtain ⟨c10, c⟩ := ba c
  obtain ⟨c11, c⟩ := ba c
  obtain ⟨c12, c13⟩ := ba c
  refine ⟨⟨d.a, d.tl, ma K (ga K d.x) "__init__", ⟨nm, PySem.W.mg_of X G (eqO_ok c2), fxC_ok c1, eqO_ok c3, eqO_ok c4, eqO_ok c5, of_decide_eq_true c6, c7, of_decide_eq_true c8, of_decide_eq_true c9, eqO_ok c10, sup, tlo, al, top, ?_⟩⟩, of_decide_eq_true c12, of_decide_eq_true c13⟩
  generalize ga K d.x = C at *
  generalize ma K C "__init__" = I at *
  unfold fxV at e
  unfold fxI at c11
  cases q : K.lookup I with
  | none =>
    rw [q] at c11
    cases c11
  | some o =>
    obtain ⟨oc, od, dt, osl⟩ := o
    rw [q] at c11 e
    cases dt with
    | func fd =>
      obtain ⟨n1, n2, n3, n4, n5, n6, n7, n8, n9, n10, n11, n12, n13, n14, n15⟩ := fd
      have e2 : (some (n1, n2, n3, n4, n5, n6, n7.map (·.1), n8, n9, n15) : FxV) = (some ("__init__", d.qual, PySem.FX.fA d.fld d.r1 d.r2, .stmts (PySem.FX.fB d.fld d.a d.tl d.p0 d.p1 d.p2 d.p3 d.p4 d.p5 d.p6 d.p7 d.p8 d.q1 d.q2 d.q3 d.q4 d.j), PySem.FX.fS d.fld, mainGlobals, ["__class__"], .none, .none, builtinsNs) : FxV) := e
      simp only [Option.some.injEq, Prod.mk.injEq] at e2
      obtain ⟨h1, h2, h3, h4, h5, h6, h7, h8, h9, h10⟩ := e2
      obtain ⟨k1, k2⟩ := ba c11
      cases n13 with
      | ref cda =>
        obtain ⟨k3, k4⟩ := ba (show (PySem.W.codeIn K (.ref cda) d.qual && _) = true from k1)
        obtain ⟨ob, ek⟩ : ∃ ob, K.lookup cda = some ob := by
          cases z : K.lookup cda with
          | none => rw [z] at k4; cases k4
          | some ob => exact ⟨ob, rfl⟩
        rw [ek] at k4
        obtain ⟨ccl, cdd, dt2, ccs⟩ := ob
        cases dt2 with
        | fields vs =>
          obtain ⟨u, eu⟩ : ∃ u, vs[2]? = some u := by
            cases z : vs[2]? with
            | none =>
              have k5 : (match (vs[2]? : Option Value) with | some (.str f _) => decide (f = P.main.file) | _ => false) = true := k4
              rw [z] at k5
              cases k5
            | some u => exact ⟨u, rfl⟩
          have k5 : (match (vs[2]? : Option Value) with | some (.str f _) => decide (f = P.main.file) | _ => false) = true := k4
          rw [eu] at k5
          cases u with
          | str f tf =>
            have ef : f = P.main.file := of_decide_eq_true k5
            cases n7 with
            | nil => cases k2
            | cons p r =>
              obtain ⟨pn, cc⟩ := p
              cases r with
              | cons _ _ => cases k2
              | nil =>
                have k6 : (match K.lookup cc with | some ⟨_, _, .cell (some (.ref c)), _⟩ => decide (c = C) | _ => false) = true := k2
                obtain ⟨ob, eb⟩ : ∃ ob, K.lookup cc = some ob := by
                  cases z : K.lookup cc with
                  | none => rw [z] at k6; cases k6
                  | some ob => exact ⟨ob, rfl⟩
                rw [eb] at k6
                obtain ⟨cl, cld, dt3, csl⟩ := ob
                cases dt3 with
                | cell v =>
                  cases v with
                  | none => cases k6
                  | some v =>
                    cases v with
                    | ref c' =>
                      have ec : c' = C := of_decide_eq_true k6
                      subst ec
                      have hn7 : pn = ("__class__" : Str) := by
                        simpa using h7
                      subst h1 h2 h3 h4 h5 h6 h8 h9 h10 hn7
                      exact ⟨_, oc, od, n10, n11, n12, cda, cc, n14, osl, d.r1, d.r2, d.p0, d.p1, d.p2, d.p3, d.p4, d.p5, d.p6, d.p7, d.p8, d.q1, d.q2, d.q3, d.q4, d.j, rfl, k3, ⟨ccl, cdd, vs, ccs, f, tf, ek, eu, by rw [ef]; exact beq_self_eq_true _⟩, ⟨cl, cld, csl, eb⟩, ev cda cc⟩
                    | _ => cases k6
                | _ => cases k6
          | _ => cases k5
        | _ => cases k4
      | _ => cases k1
    | _ => cases c11
/-! ### the Hook -/
def nsOf (g : Addr → Option Obj) (a : Addr) : List Addr := match g a with
  | some ⟨_, _, .cls cd, _⟩ => [cd.ns]
  | _ => []
def valsOf (g : Addr → Option Obj) (a : Addr) : List Addr := match g a with
  | some ⟨_, _, .dict es _, _⟩ => es.toList.flatMap fun e => refV e.val
  | _ => []
def partsOf (g : Addr → Option Obj) (a : Addr) : List Addr := match g a with
  | some ⟨_, _, .func fd, _⟩ => refV fd.code ++ fd.closure.map (·.2)
  | some ⟨.type _, _, .fields vs, _⟩ => vs.toList.flatMap refV
  | _ => []
/-- the globals' values, the classes' names, what stands there, their codes and cells, the getters and their codes -/
def asY (g : Addr → Option Obj) : List Addr := (fun l1 => (fun ns => (fun ms => (fun p1 => cStatics :: mainGlobals :: (l1 ++ (ns ++ (ms ++ (p1 ++ p1.flatMap (partsOf g)))))) (l1.flatMap (partsOf g) ++ ms.flatMap (partsOf g))) (ns.flatMap (valsOf g))) (l1.flatMap (nsOf g))) (valsOf g mainGlobals)
abbrev AlX : Type := Bool × List FnV × List FxV
def obsK (fa : List Fct) (fn : List FnX) (fx : List FxD) (file : Str) (K : PySem.W.Frag) : AlX := ((fa.all fun f => f K) && (fn.all (FnX.ok K) && fx.all (FxD.ok K file)), fn.map fun d => fnV K (d.at_ K), fx.map fun d => fxV K (ma K (ga K d.x) "__init__"))
def valX (fn : List FnX) (fx : List FxD) : AlX := (true, fn.map FnX.val, fx.map FxD.val)
def SaysX (fa : List Fct) (fn : List FnX) (fx : List FxD) (file : Str) (K : PySem.W.Frag) : Prop := obsK fa fn fx file K = valX fn fx
def obsX (fa : List Fct) (fn : List FnX) (fx : List FxD) (file : Str) (g : Addr → Option Obj) : AlX := obsK fa fn fx file (frG g (asY g))
def hookX (fa : List Fct) (fn : List FnX) (fx : List FxD) (file : Str) : PySem.W.Hook where
  α := AlX
  obs := fun s => obsX fa fn fx file s.heap.get?
  val := fun _ => valX fn fx
  says := fun _ h => ∃ K : PySem.W.Frag, K.In h ∧ SaysX fa fn fx file K
  of := fun _ _ e => ⟨_, frG_in, e⟩
  keeps := fun _ _ _ ⟨K, hK, c⟩ k => ⟨K, PySem.W.Frag.In.keeps hK k, c⟩
theorem obsX_eq {fa : List Fct} {fn : List FnX} {fx : List FxD} {file : Str} {g : Addr → Option Obj} {s : Shared} (h : ∀ a, g a = s.heap.get? a) : obsX fa fn fx file g = (hookX fa fn fx file).obs s := by
  have e : g = s.heap.get? := funext h
  rw [e] <;> rfl
section
variable {fa : List Fct} {fn : List FnX} {fx : List FxD} {file : Str} {K : PySem.W.Frag}
theorem SaysX.fact (c : SaysX fa fn fx file K) (i : Nat) {f : Fct} (h : fa[i]? = some f := by rfl) : f K = true := by
  have c1 := (ba (show ((fa.all fun f => f K) && (fn.all (FnX.ok K) && fx.all (FxD.ok K file))) = true from congrArg (fun z : AlX => z.1) c)).1
  exact List.all_eq_true.mp c1 f (List.mem_of_getElem? h)
theorem SaysX.def_ (c : SaysX fa fn fx file K) (i : Nat) {d : FnX} (h : fn[i]? = some d := by rfl) : ∃ fd, Fun K d.name d.qual d.st (d.at_ K) fd := by
  have c2 := (ba (ba (show ((fa.all fun f => f K) && (fn.all (FnX.ok K) && fx.all (FxD.ok K file))) = true from congrArg (fun z : AlX => z.1) c)).2).1
  have e : fn.map (fun d => fnV K (d.at_ K)) = fn.map FnX.val := congrArg (fun z : AlX => z.2.1) c
  have e2 : (fn.map fun d => fnV K (d.at_ K))[i]? = (fn.map FnX.val)[i]? := by rw [e]
  rw [List.getElem?_map, List.getElem?_map, h] at e2
  exact FnX.fun_ (Option.some.inj e2) (List.all_eq_true.mp c2 d (List.mem_of_getElem? h))
theorem SaysX.fx_ (c : SaysX fa fn fx file K) (i : Nat) {d : FxD} (h : fx[i]? = some d := by rfl) : fxV K (ma K (ga K d.x) "__init__") = d.val ∧ d.ok K file = true := by
  have c2 := (ba (ba (show ((fa.all fun f => f K) && (fn.all (FnX.ok K) && fx.all (FxD.ok K file))) = true from congrArg (fun z : AlX => z.1) c)).2).2
  have e : fx.map (fun d => fxV K (ma K (ga K d.x) "__init__")) = fx.map FxD.val := congrArg (fun z : AlX => z.2.2) c
  have e2 : (fx.map fun d => fxV K (ma K (ga K d.x) "__init__"))[i]? = (fx.map FxD.val)[i]? := by rw [e]
  rw [List.getElem?_map, List.getElem?_map, h] at e2
  exact ⟨Option.some.inj e2, List.all_eq_true.mp c2 d (List.mem_of_getElem? h)⟩
end
end Hx
namespace L2
open PySem PySem.Spec PyProof.Rows
/-- a law, where no repr is under way: F gives the written part, the function object, the promise over every base -/
theorem walk_GE {l : PySem.W.OpenLaw} {n k : Nat} {q : Program} {loose : List Str} {XP : (Str → Option Value) → Heap → Prop} {YP : World → Heap → Prop} {d : DefRec} {CX : CXT} {x : Str}
    (hn : l.most = some n) (hn2 : n ≤ sizeLine) (hdf : d.params.defaults = []) (hr : Room k callerA)
    (F : ∀ (w : World) (mg : Str → Option Value) (fa : Addr) (h : Heap), YP w h → h.Ns mainGlobals mg → mg d.name = some (.ref fa) →
      ∃ (K : PySem.W.Frag) (fd : FuncData) (sp : Sp), K.In h ∧ (∀ (s : Shared) (u : Value), BindsTo s fd ⟨[u], []⟩ [(x, u)]) ∧
        (∀ (H : Hp) (a : Addr) (ns : List Int), ns.length ≤ n → Only H → SqL K H a (ns.map V.int) → sp [.ref a] H (fun v _ => v = .bl true) fun _ _ _ => False) ∧
        ∀ base : Heap, K.In base → base.Ns mainGlobals mg → FnG l.prog w K mg base CX k fa fd [x] sp)
    (hCX : ∀ (H : Hp) (s : Shared) (e : Value) (s' : Shared), CX [] H s (fun _ _ _ => False) e s' → False) :
    PySem.W.WalkO q loose XP YP l.row.toRowW d [] (fun f vs => PySem.call f vs) := by
  refine Att.attach_call hn hdf fun w s₀ s₁ mg mb fa o pm cd doc a vs ns G Y ho hd hcd hmg hobj hints hlen hg => ?_
  obtain ⟨K, fd, sp, KX, hb, hsp, hF⟩ := F w mg fa _ Y G.T.g hmg
  exact lawG_call KX G.T.g G.T.b G.T.builtins G.T.nolimit hg hobj hints (Nat.le_trans hlen hn2) hr hF hb (fun H hO hS => hsp H a ns hlen hO hS) fun H e s' => hCX H s₁ e s'
end L2
namespace Fb
open PySem PySem.Spec PyProof.Rows L2
def topS (i : Nat) : Stmt := PySem.Challenge.pw_fillbands_k15_errors_of_counts.main.body.getD i (.Pass ⟨0, 0, 0, 0⟩)
def clsBody : Stmt → List Stmt
  | .ClassDef _ _ _ b _ _ _ _ _ _ _ => b
  | _ => []
def clsS (i j : Nat) : Stmt := (clsBody (topS i)).getD j (.Pass ⟨0, 0, 0, 0⟩)
abbrev s_wall : Stmt := topS 1
abbrev nm_wall : List Str := ["k"]
abbrev s_InvalidZones_init : Stmt := clsS 4 0
abbrev nm_InvalidZones_init : List Str := ["self", "item"]
abbrev s_InvalidPlaces_init : Stmt := clsS 5 0
abbrev nm_InvalidPlaces_init : List Str := ["self", "item"]
abbrev s_InvalidText_init : Stmt := clsS 6 0
abbrev nm_InvalidText_init : List Str := ["self", "part"]
abbrev s_TooLarge_init : Stmt := clsS 7 0
abbrev nm_TooLarge_init : List Str := ["self", "limit"]
abbrev s_OverRoom_init : Stmt := clsS 8 0
abbrev nm_OverRoom_init : List Str := ["self", "count"]
abbrev s_is_integer : Stmt := topS 22
abbrev nm_is_integer : List Str := ["value"]
abbrev s_is_within : Stmt := topS 23
abbrev nm_is_within : List Str := ["value", "low", "high"]
abbrev s_check_unknown : Stmt := topS 24
abbrev nm_check_unknown : List Str := ["value", "number"]
abbrev s_check_span : Stmt := topS 25
abbrev nm_check_span : List Str := ["begin", "end", "number"]
abbrev s_check_integer : Stmt := topS 26
abbrev nm_check_integer : List Str := ["value"]
abbrev s_is_ascending : Stmt := topS 32
abbrev nm_is_ascending : List Str := ["value", "low", "high", "item", "following"]
abbrev s_is_zone : Stmt := topS 33
abbrev nm_is_zone : List Str := ["value", "borders", "count", "offsets", "touches"]
abbrev s_check_zones : Stmt := topS 34
abbrev nm_check_zones : List Str := ["value", "borders", "item", "zone"]
abbrev s_check_length : Stmt := topS 35
abbrev nm_check_length : List Str := ["zones"]
abbrev s_length_of : Stmt := topS 36
abbrev nm_length_of : List Str := ["zones", "zone"]
abbrev s_kept_zones : Stmt := topS 37
abbrev nm_kept_zones : List Str := ["zones", "count", "offsets", "touches"]
abbrev s_shown_zones : Stmt := topS 38
abbrev nm_shown_zones : List Str := ["zones", "count", "offsets", "touches"]
abbrev s_merged : Stmt := topS 39
abbrev nm_merged : List Str := ["zones", "parts", "count", "offsets", "touches"]
abbrev s_trimmed : Stmt := topS 40
abbrev nm_trimmed : List Str := ["zones", "length", "parts", "begin", "count", "offsets", "touches", "end", "safe", "unknown", "kept", "offset"]
abbrev s_cut_zones : Stmt := topS 41
abbrev nm_cut_zones : List Str := ["zones", "begin", "end", "parts", "place", "count", "offsets", "touches", "kept"]
abbrev s_begins_of : Stmt := topS 42
abbrev nm_begins_of : List Str := ["zones", "begins", "begin", "zone"]
abbrev s_standing_at : Stmt := topS 43
abbrev nm_standing_at : List Str := ["begins", "unknown", "low", "high", "middle"]
abbrev s_mask_of : Stmt := topS 46
abbrev nm_mask_of : List Str := ["offsets", "touches", "mask", "offset", "touch"]
abbrev s_lowest : Stmt := topS 47
abbrev nm_lowest : List Str := ["mask"]
abbrev s_size_of : Stmt := topS 48
abbrev nm_size_of : List Str := ["mask"]
abbrev s_hand_on : Stmt := topS 49
abbrev nm_hand_on : List Str := ["pending", "mask", "inner", "parent"]
abbrev s_lap_of : Stmt := topS 50
abbrev nm_lap_of : List Str := ["offsets", "period", "common", "offset"]
abbrev s_Stretch_init : Stmt := clsS 51 0
abbrev nm_Stretch_init : List Str := ["self", "begin", "end", "masks", "needless", "tail", "lap"]
abbrev s_Stretch_mask_at : Stmt := clsS 51 1
abbrev nm_Stretch_mask_at : List Str := ["self", "unknown", "at"]
abbrev s_Stretch_masks_between : Stmt := clsS 51 2
abbrev nm_Stretch_masks_between : List Str := ["self", "begin", "end", "found", "unknown"]
abbrev s_Stretch_kinds : Stmt := clsS 51 3
abbrev nm_Stretch_kinds : List Str := ["self", "begin", "end"]
abbrev s_Stretch_needless_kinds : Stmt := clsS 51 4
abbrev nm_Stretch_needless_kinds : List Str := ["self", "begin", "end"]
abbrev s_Stretch_needless_at : Stmt := clsS 51 5
abbrev nm_Stretch_needless_at : List Str := ["self", "unknown"]
abbrev s_Stretch_kinds_among : Stmt := clsS 51 6
abbrev nm_Stretch_kinds_among : List Str := ["self", "masks", "begin", "end", "period", "again", "found", "unknown", "at"]
abbrev s_Stretch_first_unlike : Stmt := clsS 51 7
abbrev nm_Stretch_first_unlike : List Str := ["self", "second", "begin", "end"]
abbrev s_Stretch_has_a_lap_from : Stmt := clsS 51 8
abbrev nm_Stretch_has_a_lap_from : List Str := ["self", "unknown"]
abbrev s_Stretch_first_having : Stmt := clsS 51 9
abbrev nm_Stretch_first_having : List Str := ["self", "bits"]
abbrev s_Stretch_all_having : Stmt := clsS 51 10
abbrev nm_Stretch_all_having : List Str := ["self", "bits", "most"]
abbrev s_walked : Stmt := topS 52
abbrev nm_walked : List Str := ["begin", "zone", "pending", "count", "offsets", "touches", "direct", "masks", "seen", "needless", "key", "tail", "period", "handed", "mask"]
abbrev s_Elimination_init : Stmt := clsS 53 0
abbrev nm_Elimination_init : List Str := ["self", "borders", "told", "pending", "begin", "zone"]
abbrev s_Elimination_eliminated_borders : Stmt := clsS 53 1
abbrev nm_Elimination_eliminated_borders : List Str := ["self", "borders", "last", "stretch", "mask", "touch"]
abbrev s_Elimination_stretch : Stmt := clsS 53 2
abbrev nm_Elimination_stretch : List Str := ["self", "unknown"]
abbrev s_Elimination_mask : Stmt := clsS 53 3
abbrev nm_Elimination_mask : List Str := ["self", "unknown", "stretch"]
abbrev s_Elimination_parent : Stmt := clsS 53 4
abbrev nm_Elimination_parent : List Str := ["self", "unknown", "mask"]
abbrev s_Elimination_kinds : Stmt := clsS 53 5
abbrev nm_Elimination_kinds : List Str := ["self", "begin", "end", "found", "stretch", "unknown"]
abbrev s_Elimination_needless_kinds : Stmt := clsS 53 6
abbrev nm_Elimination_needless_kinds : List Str := ["self", "begin", "end"]
abbrev s_Elimination_is_needless : Stmt := clsS 53 7
abbrev nm_Elimination_is_needless : List Str := ["self", "low", "high"]
abbrev s_Elimination_bit : Stmt := clsS 53 8
abbrev nm_Elimination_bit : List Str := ["self", "low", "high"]
abbrev s_Elimination_has : Stmt := clsS 53 9
abbrev nm_Elimination_has : List Str := ["self", "low", "high"]
abbrev s_Elimination_members : Stmt := clsS 53 10
abbrev nm_Elimination_members : List Str := ["self", "unknown"]
abbrev s_Elimination_told_by : Stmt := clsS 53 11
abbrev nm_Elimination_told_by : List Str := ["self", "unknown", "mask"]
abbrev s_Elimination_earlier_near : Stmt := clsS 53 12
abbrev nm_Elimination_earlier_near : List Str := ["self", "unknown"]
abbrev s_Elimination_first_unlike : Stmt := clsS 53 13
abbrev nm_Elimination_first_unlike : List Str := ["self", "second"]
abbrev s_Elimination_holders : Stmt := clsS 53 14
abbrev nm_Elimination_holders : List Str := ["self", "unknown", "most"]
abbrev s_Elimination_first_holding : Stmt := clsS 53 15
abbrev nm_Elimination_first_holding : List Str := ["self", "low", "high"]
abbrev s_hand_on_at_border : Stmt := topS 54
abbrev nm_hand_on_at_border : List Str := ["last", "mask", "parent"]
abbrev s_Handed_init : Stmt := clsS 56 0
abbrev nm_Handed_init : List Str := ["self", "borders"]
abbrev s_Handed_take_inner : Stmt := clsS 56 1
abbrev nm_Handed_take_inner : List Str := ["self", "mask", "level", "weight"]
abbrev s_Handed_take_border : Stmt := clsS 56 2
abbrev nm_Handed_take_border : List Str := ["self", "touch", "mask", "level", "weight"]
abbrev s_Handed_hand_on : Stmt := clsS 56 3
abbrev nm_Handed_hand_on : List Str := ["self", "mask", "level", "weight", "parent"]
abbrev s_Handed_take_all : Stmt := clsS 56 4
abbrev nm_Handed_take_all : List Str := ["self", "stretch", "begin", "end", "mask"]
abbrev s_Handed_take_laps : Stmt := clsS 56 5
abbrev nm_Handed_take_laps : List Str := ["self", "stretch", "begin", "laps", "levels", "weights", "taken"]
abbrev s_gone_on : Stmt := topS 57
abbrev nm_gone_on : List Str := ["before", "now", "laps", "earlier", "number"]
abbrev s_Course_init : Stmt := clsS 58 0
abbrev nm_Course_init : List Str := ["self", "told", "count", "lap"]
abbrev s_Course_at : Stmt := clsS 58 1
abbrev nm_Course_at : List Str := ["self", "place", "again", "laps", "more"]
abbrev s_Course_gain : Stmt := clsS 58 2
abbrev nm_Course_gain : List Str := ["self", "place"]
abbrev s_Course_greatest : Stmt := clsS 58 3
abbrev nm_Course_greatest : List Str := ["self", "last", "place"]
abbrev s_Course_having : Stmt := clsS 58 4
abbrev nm_Course_having : List Str := ["self", "number"]
abbrev s_Course_having_from : Stmt := clsS 58 5
abbrev nm_Course_having_from : List Str := ["self", "place", "number"]
abbrev s_Rise_init : Stmt := clsS 59 0
abbrev nm_Rise_init : List Str := ["self", "begin", "levels", "weights"]
abbrev s_risen : Stmt := topS 60
abbrev nm_risen : List Str := ["stretch", "handed", "count", "steady", "last", "laps", "rest", "taken"]
abbrev s_rise_of : Stmt := topS 61
abbrev nm_rise_of : List Str := ["begin", "taken", "count", "lap", "levels", "weights", "level", "_", "weight"]
abbrev s_Growth_init : Stmt := clsS 62 0
abbrev nm_Growth_init : List Str := ["self", "elimination", "handed", "taken", "stretch", "rise", "touch", "mask"]
abbrev s_Growth_rise : Stmt := clsS 62 1
abbrev nm_Growth_rise : List Str := ["self", "unknown"]
abbrev s_Growth_level : Stmt := clsS 62 2
abbrev nm_Growth_level : List Str := ["self", "unknown", "rise"]
abbrev s_Growth_descendants : Stmt := clsS 62 3
abbrev nm_Growth_descendants : List Str := ["self", "unknown", "rise"]
abbrev s_Growth_greatest_level : Stmt := clsS 62 4
abbrev nm_Growth_greatest_level : List Str := ["self"]
abbrev s_Growth_having : Stmt := clsS 62 5
abbrev nm_Growth_having : List Str := ["self", "number"]
abbrev s_System_init : Stmt := clsS 66 0
abbrev nm_System_init : List Str := ["self", "borders", "zones"]
abbrev s_System_take : Stmt := clsS 66 1
abbrev nm_System_take : List Str := ["self", "borders", "zones"]
abbrev s_System_borders : Stmt := clsS 66 2
abbrev nm_System_borders : List Str := ["self"]
abbrev s_System_length : Stmt := clsS 66 3
abbrev nm_System_length : List Str := ["self"]
abbrev s_System_unknowns : Stmt := clsS 66 4
abbrev nm_System_unknowns : List Str := ["self"]
abbrev s_System_zones : Stmt := clsS 66 5
abbrev nm_System_zones : List Str := ["self"]
abbrev s_System_eq : Stmt := clsS 66 6
abbrev nm_System_eq : List Str := ["self", "other"]
abbrev s_System_coupled : Stmt := clsS 66 7
abbrev nm_System_coupled : List Str := ["self", "one", "other"]
abbrev s_System_is_coupled : Stmt := clsS 66 8
abbrev nm_System_is_coupled : List Str := ["self", "low", "high", "_", "offsets", "touches"]
abbrev s_System_couplings : Stmt := clsS 66 9
abbrev nm_System_couplings : List Str := ["self"]
abbrev s_System_couplings_from : Stmt := clsS 66 10
abbrev nm_System_couplings_from : List Str := ["self", "begin", "end", "within", "count", "offsets", "touches"]
abbrev s_System_neighbours : Stmt := clsS 66 11
abbrev nm_System_neighbours : List Str := ["self", "unknown", "_", "offsets", "touches", "near", "earlier", "later", "low", "offset", "touch"]
abbrev s_System_touching : Stmt := clsS 66 12
abbrev nm_System_touching : List Str := ["self", "touch", "spans", "begin", "zone", "count", "unknown", "_"]
abbrev s_System_cut : Stmt := clsS 66 13
abbrev nm_System_cut : List Str := ["self", "begin", "end"]
abbrev s_System_joined : Stmt := clsS 66 14
abbrev nm_System_joined : List Str := ["self", "second"]
abbrev s_System_turned : Stmt := clsS 66 15
abbrev nm_System_turned : List Str := ["self"]
abbrev s_check_system : Stmt := topS 67
abbrev nm_check_system : List Str := ["value"]
abbrev s_check_part : Stmt := topS 68
abbrev nm_check_part : List Str := ["system", "begin", "end"]
abbrev s_room : Stmt := topS 70
abbrev nm_room : List Str := ["system", "begin", "end"]
abbrev s_fill : Stmt := topS 71
abbrev nm_fill : List Str := ["system", "begin", "end"]
abbrev s_work : Stmt := topS 72
abbrev nm_work : List Str := ["system", "begin", "end", "sizes", "_", "size", "many"]
abbrev s_widest : Stmt := topS 73
abbrev nm_widest : List Str := ["system", "begin", "end", "greatest", "first", "unknown", "size", "_"]
abbrev s_first_wide : Stmt := topS 74
abbrev nm_first_wide : List Str := ["system", "size", "unknown", "found", "_"]
abbrev s_room_of : Stmt := topS 75
abbrev nm_room_of : List Str := ["system", "begin", "end", "_", "size", "many"]
abbrev s_sizes_of : Stmt := topS 76
abbrev nm_sizes_of : List Str := ["system", "begin", "end", "unknown", "mask", "many"]
abbrev s_law_wound : Stmt := topS 78
abbrev nm_law_wound : List Str := ["_law_script", "_law_k", "_law_cell"]
abbrev s_law_spin : Stmt := topS 79
abbrev nm_law_spin : List Str := ["_law_reel", "_law_many", "_law_drawn", "_law_mixed"]
abbrev s_law_picked : Stmt := topS 80
abbrev nm_law_picked : List Str := ["_law_reel", "_law_low", "_law_high", "_law_share", "_law_number"]
abbrev s_law_zones : Stmt := topS 81
abbrev nm_law_zones : List Str := ["_law_reel", "_law_many", "_law_most", "_law_reach", "_law_borders", "_law_found", "_law_turn", "_law_offsets", "_law_touches"]
abbrev s_law_far_zones : Stmt := topS 82
abbrev nm_law_far_zones : List Str := ["_law_reel", "_law_many", "_law_reach", "_law_borders", "_law_found", "_law_turn", "_law_offsets", "_law_touches", "_law_count"]
abbrev s_law_kind : Stmt := topS 83
abbrev nm_law_kind : List Str := ["_law_e", "_law_found", "_law_key", "_law_told_here"]
abbrev s_law_kinds : Stmt := topS 84
abbrev nm_law_kinds : List Str := ["_law_e", "_law_found"]
abbrev s_law_called : Stmt := topS 85
abbrev nm_law_called : List Str := ["_law_door", "_law_one", "_law_two", "_law_three"]
abbrev s_law_told : Stmt := topS 86
abbrev nm_law_told : List Str := ["_law_door", "_law_one", "_law_two", "_law_three", "_law_kept", "_law_caught", "_law_e"]
abbrev s_law_right : Stmt := topS 87
abbrev nm_law_right : List Str := ["_law_reel", "_law_borders", "_law_zones_here", "_law_one", "_law_odd", "_law_whole", "_law_bad", "_law_two", "_law_three", "_law_begin", "_law_told_here", "_law_door", "_law_size"]
abbrev s_law : Stmt := topS 88
abbrev nm_law : List Str := ["_law_script", "_law_k", "_law_reel", "_law_borders"]
def bn : List Str := ["len", "max", "min", "isinstance", "sum", "sorted", "all", "any", "repr", "int", "tuple", "list", "str", "abs", "range", "enumerate", "zip", "bool", "ValueError", "divmod", "set", "dict"]
/-! ### the seventeen classes -/
def nmL : List Str := ["InvalidZones", "InvalidPlaces", "InvalidText", "TooLarge", "OverRoom", "InvalidBorders", "InvalidSystem", "InvalidUnknown", "InvalidSpan", "InvalidNumber", "InvalidBudget", "UnlikeSystems", "Bordered", "NotCoupled", "InvalidOperation", "Nothing", "InvalidCommand"]
def nm (i : Nat) : Str := nmL.getD i Str.empty
def flL : List Str := ["item", "item", "part", "limit", "count"]
def fl (i : Nat) : Str := flL.getD i Str.empty
/-- the places of the classes -/
structure Cs where
  sys : Addr
  el : Addr
  st : Addr
  gr : Addr
  hd : Addr
  ri : Addr
  co : Addr
end Fb
namespace Fe
open PySem PySem.Spec PyProof.Rows L2 He Hx Fb
abbrev PP : Program := PySem.Challenge.rw_fillbands_k15_errors_of_counts.prog
def file : Str := PP.main.file
def gt (K : PySem.W.Frag) (p : Addr) : Addr := match PySem.W.recIn K p "property" with
  | some (.ref g :: _) => g
  | _ => 0
abbrev csOf (K : PySem.W.Frag) : Cs := ⟨ga K "System", ga K "Elimination", ga K "Stretch", ga K "Growth", ga K "Handed", ga K "Rise", ga K "Course"⟩
abbrev EA (K : PySem.W.Frag) (i : Nat) : Addr := ga K (nm i)
def fn_0 : List FnX := [⟨fun K => ga K "is_integer", "is_integer", "is_integer", s_is_integer⟩, ⟨fun K => ga K "is_within", "is_within", "is_within", s_is_within⟩, ⟨fun K => ga K "length_of", "length_of", "length_of", s_length_of⟩, ⟨fun K => ga K "kept_zones", "kept_zones", "kept_zones", s_kept_zones⟩, ⟨fun K => ga K "begins_of", "begins_of", "begins_of", s_begins_of⟩, ⟨fun K => ga K "merged", "merged", "merged", s_merged⟩, ⟨fun K => ga K "trimmed", "trimmed", "trimmed", s_trimmed⟩, ⟨fun K => ga K "standing_at", "standing_at", "standing_at", s_standing_at⟩, ⟨fun K => ga K "mask_of", "mask_of", "mask_of", s_mask_of⟩, ⟨fun K => ga K "lowest", "lowest", "lowest", s_lowest⟩, ⟨fun K => ga K "hand_on", "hand_on", "hand_on", s_hand_on⟩, ⟨fun K => ma K (ga K "Stretch") "__init__", "__init__", "Stretch.__init__", s_Stretch_init⟩, ⟨fun K => ga K "lap_of", "lap_of", "lap_of", s_lap_of⟩, ⟨fun K => ga K "walked", "walked", "walked", s_walked⟩, ⟨fun K => ga K "hand_on_at_border", "hand_on_at_border", "hand_on_at_border", s_hand_on_at_border⟩, ⟨fun K => ma K (ga K "Elimination") "_eliminated_borders", "_eliminated_borders", "Elimination._eliminated_borders", s_Elimination_eliminated_borders⟩, ⟨fun K => ma K (ga K "Elimination") "__init__", "__init__", "Elimination.__init__", s_Elimination_init⟩, ⟨fun K => ma K (ga K "Stretch") "mask_at", "mask_at", "Stretch.mask_at", s_Stretch_mask_at⟩, ⟨fun K => ma K (ga K "Stretch") "masks_between", "masks_between", "Stretch.masks_between", s_Stretch_masks_between⟩, ⟨fun K => ma K (ga K "Handed") "__init__", "__init__", "Handed.__init__", s_Handed_init⟩, ⟨fun K => ma K (ga K "Handed") "_hand_on", "_hand_on", "Handed._hand_on", s_Handed_hand_on⟩, ⟨fun K => ma K (ga K "Handed") "take_inner", "take_inner", "Handed.take_inner", s_Handed_take_inner⟩, ⟨fun K => ma K (ga K "Handed") "take_border", "take_border", "Handed.take_border", s_Handed_take_border⟩, ⟨fun K => ma K (ga K "Handed") "take_all", "take_all", "Handed.take_all", s_Handed_take_all⟩, ⟨fun K => ga K "gone_on", "gone_on", "gone_on", s_gone_on⟩, ⟨fun K => ma K (ga K "Handed") "take_laps", "take_laps", "Handed.take_laps", s_Handed_take_laps⟩, ⟨fun K => ma K (ga K "Course") "__init__", "__init__", "Course.__init__", s_Course_init⟩, ⟨fun K => ma K (ga K "Rise") "__init__", "__init__", "Rise.__init__", s_Rise_init⟩, ⟨fun K => ga K "rise_of", "rise_of", "rise_of", s_rise_of⟩, ⟨fun K => ga K "risen", "risen", "risen", s_risen⟩]
def fn_1 : List FnX := [⟨fun K => ma K (ga K "Growth") "__init__", "__init__", "Growth.__init__", s_Growth_init⟩, ⟨fun K => ma K (ga K "System") "_take", "_take", "System._take", s_System_take⟩, ⟨fun K => ga K "is_ascending", "is_ascending", "is_ascending", s_is_ascending⟩, ⟨fun K => ga K "is_zone", "is_zone", "is_zone", s_is_zone⟩, ⟨fun K => ga K "check_length", "check_length", "check_length", s_check_length⟩, ⟨fun K => ga K "check_zones", "check_zones", "check_zones", s_check_zones⟩, ⟨fun K => ma K (ga K "System") "__init__", "__init__", "System.__init__", s_System_init⟩, ⟨fun K => ga K "_law_kinds", "_law_kinds", "_law_kinds", s_law_kinds⟩, ⟨fun K => gt K (ma K (ga K "System") "unknowns"), "unknowns", "System.unknowns", s_System_unknowns⟩, ⟨fun K => ga K "cut_zones", "cut_zones", "cut_zones", s_cut_zones⟩, ⟨fun K => ga K "_law_kind", "_law_kind", "_law_kind", s_law_kind⟩, ⟨fun K => ga K "size_of", "size_of", "size_of", s_size_of⟩, ⟨fun K => ma K (ga K "Stretch") "_kinds_among", "_kinds_among", "Stretch._kinds_among", s_Stretch_kinds_among⟩, ⟨fun K => ma K (ga K "Elimination") "stretch", "stretch", "Elimination.stretch", s_Elimination_stretch⟩, ⟨fun K => ma K (ga K "Elimination") "mask", "mask", "Elimination.mask", s_Elimination_mask⟩, ⟨fun K => ma K (ga K "Stretch") "kinds", "kinds", "Stretch.kinds", s_Stretch_kinds⟩, ⟨fun K => ma K (ga K "Elimination") "kinds", "kinds", "Elimination.kinds", s_Elimination_kinds⟩, ⟨fun K => ga K "sizes_of", "sizes_of", "sizes_of", s_sizes_of⟩, ⟨fun K => ga K "check_system", "check_system", "check_system", s_check_system⟩, ⟨fun K => ga K "check_span", "check_span", "check_span", s_check_span⟩, ⟨fun K => ga K "check_part", "check_part", "check_part", s_check_part⟩, ⟨fun K => ga K "room_of", "room_of", "room_of", s_room_of⟩, ⟨fun K => ga K "room", "room", "room", s_room⟩, ⟨fun K => ma K (ga K "System") "couplings_from", "couplings_from", "System.couplings_from", s_System_couplings_from⟩, ⟨fun K => ga K "fill", "fill", "fill", s_fill⟩, ⟨fun K => ga K "check_integer", "check_integer", "check_integer", s_check_integer⟩, ⟨fun K => ga K "work", "work", "work", s_work⟩, ⟨fun K => ga K "widest", "widest", "widest", s_widest⟩, ⟨fun K => ga K "first_wide", "first_wide", "first_wide", s_first_wide⟩, ⟨fun K => ga K "_law_called", "_law_called", "_law_called", s_law_called⟩]
def fn_2 : List FnX := [⟨fun K => ga K "_law_told", "_law_told", "_law_told", s_law_told⟩, ⟨fun K => ga K "_law_wound", "_law_wound", "_law_wound", s_law_wound⟩, ⟨fun K => ga K "_law_spin", "_law_spin", "_law_spin", s_law_spin⟩, ⟨fun K => ga K "_law_picked", "_law_picked", "_law_picked", s_law_picked⟩, ⟨fun K => ga K "_law_zones", "_law_zones", "_law_zones", s_law_zones⟩, ⟨fun K => ga K "_law_far_zones", "_law_far_zones", "_law_far_zones", s_law_far_zones⟩, ⟨fun K => ga K "_law_right", "_law_right", "_law_right", s_law_right⟩, ⟨fun K => ga K "law", "law", "law", s_law⟩]
def fn : List FnX := fn_0 ++ fn_1 ++ fn_2
def fx : List FxD := [⟨"InvalidZones", "item", "no valid zones, wrong item: ", [], "InvalidZones.__init__", ⟨10, 17, 10, 21⟩, ⟨10, 23, 10, 27⟩, ⟨11, 8, 11, 13⟩, ⟨11, 8, 11, 15⟩, ⟨11, 8, 11, 24⟩, ⟨11, 25, 11, 62⟩, ⟨11, 8, 11, 63⟩, ⟨11, 8, 11, 63⟩, ⟨11, 27, 11, 55⟩, ⟨11, 56, 11, 60⟩, ⟨11, 55, 11, 61⟩, ⟨12, 8, 12, 12⟩, ⟨12, 8, 12, 17⟩, ⟨12, 20, 12, 24⟩, ⟨12, 8, 12, 24⟩, 0⟩]
def gloL_0 : List Str := ["Bordered", "Course", "Elimination", "FillError", "Growth", "Handed", "InvalidBorders", "InvalidBudget", "InvalidCommand", "InvalidNumber", "InvalidOperation", "InvalidPlaces", "InvalidSpan", "InvalidSystem", "InvalidText", "InvalidUnknown", "InvalidZones", "NotCoupled", "Nothing", "OverRoom", "Rise", "Stretch", "System", "TooLarge", "UnlikeSystems", "_law_called", "_law_far_zones", "_law_kind", "_law_kinds", "_law_picked"]
def gloL_1 : List Str := ["_law_right", "_law_spin", "_law_told", "_law_wound", "_law_zones", "begins_of", "check_integer", "check_length", "check_part", "check_span", "check_system", "check_zones", "cut_zones", "fill", "first_wide", "gone_on", "hand_on", "hand_on_at_border", "is_ascending", "is_integer", "is_within", "is_zone", "kept_zones", "lap_of", "law", "length_of", "lowest", "mask_of", "merged", "rise_of"]
def gloL_2 : List Str := ["risen", "room", "room_of", "size_of", "sizes_of", "standing_at", "trimmed", "walked", "widest", "work"]
def gloL : List Str := gloL_0 ++ gloL_1 ++ gloL_2
def clsL_0 : List Str := ["Course", "Elimination", "Growth", "Handed", "Rise", "Stretch", "System"]
def clsL : List Str := clsL_0
def mkrL_0 : List Str := ["Course", "Elimination", "Growth", "Handed", "Rise", "Stretch", "System"]
def mkrL : List Str := mkrL_0
def noatL_0 : List (Str × Str) := [("Course", "count"), ("Course", "lap"), ("Course", "told"), ("Elimination", "_begins"), ("Elimination", "_inner"), ("Elimination", "last_masks"), ("Elimination", "stretches"), ("Growth", "_begins"), ("Growth", "_inner"), ("Growth", "_last"), ("Growth", "_rises"), ("Handed", "levels"), ("Handed", "weights"), ("Rise", "begin"), ("Rise", "levels"), ("Rise", "weights"), ("Stretch", "begin"), ("Stretch", "end"), ("Stretch", "lap"), ("Stretch", "masks"), ("Stretch", "needless"), ("Stretch", "tail"), ("System", "_begins"), ("System", "_borders"), ("System", "_length"), ("System", "_told"), ("System", "_zones"), ("System", "elimination"), ("System", "growth")]
def noatL : List (Str × Str) := noatL_0
def methL_0 : List (Str × Str) := [("Elimination", "_eliminated_borders"), ("Elimination", "kinds"), ("Elimination", "mask"), ("Elimination", "stretch"), ("Handed", "_hand_on"), ("Handed", "take_all"), ("Handed", "take_border"), ("Handed", "take_inner"), ("Handed", "take_laps"), ("Stretch", "_kinds_among"), ("Stretch", "kinds"), ("Stretch", "mask_at"), ("Stretch", "masks_between"), ("System", "_take"), ("System", "couplings_from")]
def methL : List (Str × Str) := methL_0
def propL_0 : List (Str × Str) := [("System", "unknowns")]
def propL : List (Str × Str) := propL_0
def intL_0 : List (Str × Int) := [("INNER", 65535), ("MOST_BORDERS", 6), ("MOST_ITEMS", 6), ("MOST_OFFSET", 16), ("MOST_UNKNOWNS", 1000000000000000000000000000000), ("MOST_ZONES", 12)]
def intL : List (Str × Int) := intL_0
def gfunL_0 : List (Str × String) := [("gcd", "math.gcd"), ("lcm", "math.lcm")]
def gfunL : List (Str × String) := gfunL_0
def excL_0 : List Str := ["InvalidBorders", "InvalidNumber", "InvalidSpan", "InvalidSystem"]
def excL : List Str := excL_0
def prOk (K : PySem.W.Frag) (p : Str × Str) : Bool := let q := ma K (ga K p.1) p.2
  eqO (PySem.W.findIn K (.ref (ga K p.1)) p.2) (some (some (.ref q))) && (eqO (PySem.W.specialIn K (.ref q) "__get__") (some (some (.builtin "property.__get__"))) && (decide (PySem.W.takesIn K (.ref q) = some true) &&
    (match PySem.W.recIn K q "property" with
    | some (.ref g :: _) => decide (g = gt K q)
    | _ => false)))
def exOk (K : PySem.W.Frag) (D : Addr) : Bool := eqO (PySem.W.findIn K (.ref D) "__getattribute__") (some (some (.builtin "BaseException.__getattribute__"))) && (eqO (PySem.W.findIn K (.ref D) "__getattr__") (some none) && (decide (PySem.W.subIn K (.ref D) (.type "BaseException") = some true) &&
  (PySem.W.hasDictIn K D && (eqO (PySem.W.findIn K (.ref D) "__class__") (some (some (.builtin "object.__class__"))) && (eqO (PySem.W.specialIn K (.builtin "object.__class__") "__get__") (some (some (.builtin "getset_descriptor.__get__"))) && (decide (PySem.W.takesIn K (.builtin "object.__class__") = some true) && decide (PySem.W.mroIn K D (.type "object") = some true)))))))
theorem exOk_ok {K : PySem.W.Frag} {D : Addr} (h : exOk K D = true) : ExcC K D := by
  unfold exOk at h
  obtain ⟨h1, h⟩ := ba h
  obtain ⟨h2, h⟩ := ba h
  obtain ⟨h3, h⟩ := ba h
  obtain ⟨h4, h⟩ := ba h
  obtain ⟨h5, h⟩ := ba h
  obtain ⟨h6, h⟩ := ba h
  obtain ⟨h7, h8⟩ := ba h
  exact ⟨eqO_ok h1, eqO_ok h2, of_decide_eq_true h3, h4, eqO_ok h5, eqO_ok h6, of_decide_eq_true h7, of_decide_eq_true h8⟩
def i17 : List Nat := List.range 17
def etOk (K : PySem.W.Frag) : Bool := i17.all fun i => exOk K (EA K i) && (decide (PySem.W.kitOne K (.ref (EA K i)) (.type "ValueError") = some true) && (decide (PySem.W.exmOne K (.ref (EA K i)) (.ref (ga K "FillError")) = some true) && i17.all fun j => decide (PySem.W.kitOne K (.ref (EA K i)) (.ref (EA K j)) = some (decide (i = j)))))
def nfOk (K : PySem.W.Frag) : Bool := (List.range 5).all fun i => eqO (PySem.W.findIn K (.ref (EA K i)) (fl i)) (some none)
def ksOk (K : PySem.W.Frag) : Bool := eqO (PySem.W.findIn K (.ref (ga K "System")) "__class__") (some (some (.builtin "object.__class__"))) && (eqO (PySem.W.specialIn K (.builtin "object.__class__") "__get__") (some (some (.builtin "getset_descriptor.__get__"))) && (decide (PySem.W.takesIn K (.builtin "object.__class__") = some true) && (decide (PySem.W.mroIn K (ga K "System") (.type "object") = some true) &&
  decide (PySem.W.kitOne K (.ref (ga K "System")) (.ref (ga K "System")) = some true))))
def tyL : List String := ["NoneType", "int", "bool", "str", "list", "tuple", "dict"]
def fa : List Fct := [fun K => bn.all fun x => PySem.W.nsIn K mainGlobals x == some none, fun K => gloL.all fun x => (Fa.glo x).ok K, fun K => clsL.all fun x => (Fa.cls x).ok K, fun K => mkrL.all fun x => (Fa.mkr x).ok K,
  fun K => noatL.all fun p => (Fa.noat p.1 p.2).ok K, fun K => methL.all fun p => (Fa.meth p.1 p.2).ok K, fun K => propL.all fun p => prOk K p, fun K => intL.all fun p => (Fa.int p.1 p.2).ok K, fun K => gfunL.all fun p => eqO (PySem.W.nsIn K mainGlobals p.1) (some (some (.builtin p.2))),
  fun K => excL.all fun x => (Fa.exc x).ok K, etOk, nfOk, ksOk, fun K => tyL.all fun n => decide (PySem.W.kitOne K (.type n) (.ref (ga K "System")) = some false), fun K => (Fa.free "super").ok K, fun _ => true]
end Fe
set_option maxHeartbeats 0
namespace Fe
open PySem PySem.Spec PyProof.Rows L2
abbrev R : PySem.W.OpenRow := PySem.W.OpenLaw.row PySem.Challenge.rw_fillbands_k15_errors_of_counts
abbrev qv : Program := PySem.W.view R.prog [0, 88]
abbrev hk : PySem.W.Hook := Hx.hookX fa fn fx file
def ob (s : PySem.W.SharedT) : Hx.AlX := Hx.obsX fa fn fx file (HandSHeadRun.getT s)
theorem ob_eq (s : PySem.W.SharedT) : ob s = hk.obs s.abs := Hx.obsX_eq (HandSHeadRun.getT_eq s)
def names_0 : List PySem.Str := ["_wall", "__name__", "FillError", "InvalidZones", "InvalidPlaces", "InvalidText", "TooLarge", "OverRoom", "InvalidBorders", "InvalidSystem", "InvalidUnknown", "InvalidSpan", "InvalidNumber", "InvalidBudget", "UnlikeSystems", "Bordered", "NotCoupled", "InvalidOperation", "Nothing", "InvalidCommand", "is_integer", "is_within", "check_unknown", "check_span", "check_integer", "MOST_UNKNOWNS", "MOST_OFFSET", "MOST_ZONES", "MOST_ITEMS", "is_ascending"]
def names_1 : List PySem.Str := ["is_zone", "check_zones", "check_length", "length_of", "kept_zones", "shown_zones", "merged", "trimmed", "cut_zones", "begins_of", "standing_at", "INNER", "mask_of", "lowest", "size_of", "hand_on", "lap_of", "Stretch", "walked", "Elimination", "hand_on_at_border", "Handed", "gone_on", "Course", "Rise", "risen", "rise_of", "Growth", "MOST_BORDERS", "MOST_LISTED"]
def names_2 : List PySem.Str := ["System", "check_system", "check_part", "room", "fill", "work", "widest", "first_wide", "room_of", "sizes_of", "_law_wound", "_law_spin", "_law_picked", "_law_zones", "_law_far_zones", "_law_kind", "_law_kinds", "_law_called", "_law_told", "_law_right"]
def names : List PySem.Str := names_0 ++ names_1 ++ names_2
open PySem.W PySem.Calls HandSHeadRun in
noncomputable abbrev WF (w : World) := wholeF (fun p => stepQ (denQ tabQ) p w) fenceQ 20000 R.prog
open PySem.W PySem.Calls HandSHeadRun in
theorem r1 (w : World) : (WF w).map (fun x => (looksF R.prog x.1.heap x.2.abs, seenQ qv names (importedModules R.prog.main.body) (fun s => xlAt qv [] s && recOk R.toRowW.records s) x.2.abs)) = some (true, openGood qv names) := by
  kernel_rfl
theorem r2 (w : World) : (WF w).map (fun x => ob x.2) = some (hk.val w) := by
  kernel_rfl
theorem map3 {α β γ δ : Type} {o : Option α} {f : α → β} {g : α → γ} {h : α → δ} {u : β} {v : γ} {t : δ} (h1 : o.map (fun x => (f x, g x)) = some (u, v)) (h2 : o.map h = some t) : o.map (fun x => (f x, g x, h x)) = some (u, v, t) := by
  cases o with
  | none => cases h1
  | some x =>
    have e1 := Option.some.inj h1
    have e2 := Option.some.inj h2
    have e3 := congrArg Prod.fst e1
    have e4 := congrArg Prod.snd e1
    show some (f x, g x, h x) = _
    rw [show f x = u from e3, show g x = v from e4, show h x = t from e2]
theorem run (w : World) : HandSHeadRun.RunEqI R qv hk ob 20000 names w := by
  unfold HandSHeadRun.RunEqI
  exact map3 (r1 w) (r2 w)
end Fe
/-! The masks of a zone, walked unknown by unknown: what is pending comes for the second time before six thousand unknowns have gone by. Core Lean alone. -/
namespace WM
/-- the lowest of the sixteen inner bits -/
def low (m : Nat) : Nat := ((List.range 16).find? fun a => m.testBit a).getD 0
theorem low_spec {m a : Nat} (ha : a < 16) (h : m.testBit a = true) : low m ≤ a ∧ low m < 16 ∧ m.testBit (low m) = true := by
  unfold low
  cases e : (List.range 16).find? fun a => m.testBit a with
  | none =>
    have z := List.find?_eq_none.mp e a (List.mem_range.mpr ha)
    exact absurd h z
  | some b =>
    have h1 := List.find?_some e
    have h2 := List.mem_of_find?_eq_some e
    refine ⟨?_, List.mem_range.mp h2, h1⟩
    show b ≤ a
    obtain ⟨-, as, bs, e2, h3⟩ := List.find?_eq_some_iff_append.mp e
    by_cases hb : b ≤ a
    · exact hb
    · exfalso
      have hl : as.length = b := by
        have q : (List.range 16)[as.length]? = some b := by rw [e2]; simp
        rw [List.getElem?_range (by
          have : as.length < (List.range 16).length := by rw [e2]; simp
          simpa using this)] at q
        simpa using q
      have ma : a ∈ as := by
        have q : (List.range 16)[a]? = some a := List.getElem?_range ha
        rw [e2, List.getElem?_append_left (by omega)] at q
        exact List.mem_of_getElem? q
      have z := h3 a ma
      rw [h] at z
      simp at z
/-- some inner bit is set -/
def has (m : Nat) : Bool := (List.range 16).any fun a => m.testBit a
theorem has_iff {m : Nat} : has m = true ↔ ∃ a, a < 16 ∧ m.testBit a = true := by
  unfold has
  rw [List.any_eq_true]
  constructor
  · rintro ⟨a, h, q⟩
    exact ⟨a, List.mem_range.mp h, q⟩
  · rintro ⟨a, h, q⟩
    exact ⟨a, List.mem_range.mpr h, q⟩
/-- what a column hands on to the parent, told from there -/
def rest (m : Nat) : Nat := ((m % 65536) >>> (low m + 1)) ||| ((m / 65536) * 65536)
theorem rest_in {m a : Nat} (ha : a < 16) : (rest m).testBit a = (decide (a + low m + 1 < 16) && m.testBit (a + low m + 1)) := by
  unfold rest
  rw [Nat.testBit_or, Nat.testBit_shiftRight, show (65536 : Nat) = 2 ^ 16 from rfl, Nat.testBit_mod_two_pow, Nat.mul_comm (m / 2 ^ 16), Nat.testBit_two_pow_mul]
  have e : decide (a ≥ 16) = false := decide_eq_false (by omega)
  rw [e, Bool.false_and, Bool.or_false, show low m + 1 + a = a + low m + 1 by omega]
theorem rest_out {m a : Nat} (ha : 16 ≤ a) : (rest m).testBit a = m.testBit a := by
  unfold rest
  rw [Nat.testBit_or, Nat.testBit_shiftRight, show (65536 : Nat) = 2 ^ 16 from rfl, Nat.testBit_mod_two_pow, Nat.mul_comm (m / 2 ^ 16), Nat.testBit_two_pow_mul, Nat.testBit_div_two_pow]
  have e : decide (low m + 1 + a < 16) = false := decide_eq_false (by omega)
  have e2 : decide (a ≥ 16) = true := decide_eq_true ha
  rw [e, e2, Bool.false_and, Bool.false_or, Bool.true_and, show a - 16 + 16 = a by omega]
/-- what is pending, behind k unknowns, for the unknown that comes i further on -/
def s (d : Nat) (s0 : Nat → Nat) : Nat → Nat → Nat
  | 0, i => if i < 16 then s0 i else 0
  | k + 1, i => (if i < 15 then s d s0 k (i + 1) else 0) ||| (if has (d ||| s d s0 k 0) = true ∧ i = low (d ||| s d s0 k 0) then rest (d ||| s d s0 k 0) else 0)
def M (d : Nat) (s0 : Nat → Nat) (k : Nat) : Nat := d ||| s d s0 k 0
theorem s_succ (d : Nat) (s0 : Nat → Nat) (k i : Nat) : s d s0 (k + 1) i = (if i < 15 then s d s0 k (i + 1) else 0) ||| (if has (M d s0 k) = true ∧ i = low (M d s0 k) then rest (M d s0 k) else 0) := rfl
section
variable {d : Nat} {s0 : Nat → Nat}
/-- what is pending, in closed form -/
theorem s_bit : ∀ (k i a : Nat), (s d s0 k i).testBit a = true ↔ (k + i < 16 ∧ (s0 (k + i)).testBit a = true) ∨ ∃ j, j < k ∧ i < 16 ∧ has (M d s0 j) = true ∧ j + low (M d s0 j) + 1 = k + i ∧ (rest (M d s0 j)).testBit a = true
  | 0, i, a => by
    constructor
    · intro h
      unfold s at h
      split at h
      · rename_i hi
        exact .inl ⟨by omega, by rw [Nat.zero_add]; exact h⟩
      · simp at h
    · rintro (⟨h1, h2⟩ | ⟨j, h, _⟩)
      · unfold s
        rw [if_pos (by omega)]
        rw [Nat.zero_add] at h2
        exact h2
      · omega
  | k + 1, i, a => by
    rw [s_succ, Nat.testBit_or, Bool.or_eq_true]
    constructor
    · rintro (h | h)
      · split at h
        · rename_i hi
          rcases (s_bit k (i + 1) a).mp h with ⟨h1, h2⟩ | ⟨j, h1, h2, h3, h4, h5⟩
          · exact .inl ⟨by omega, by rw [show k + 1 + i = k + (i + 1) by omega]; exact h2⟩
          · exact .inr ⟨j, by omega, by omega, h3, by omega, h5⟩
        · simp at h
      · split at h
        · rename_i hh
          have hl : low (M d s0 k) < 16 := by
            obtain ⟨b, hb, q⟩ := has_iff.mp hh.1
            exact (low_spec hb q).2.1
          exact .inr ⟨k, by omega, by omega, hh.1, by omega, h⟩
        · simp at h
    · rintro (⟨h1, h2⟩ | ⟨j, h1, h2, h3, h4, h5⟩)
      · left
        rw [if_pos (by omega)]
        exact (s_bit k (i + 1) a).mpr (.inl ⟨by omega, by rw [show k + (i + 1) = k + 1 + i by omega]; exact h2⟩)
      · by_cases hj : j = k
        · right
          subst hj
          rw [if_pos ⟨h3, by omega⟩]
          exact h5
        · left
          have hl : low (M d s0 j) < 16 := by
            obtain ⟨b, hb, q⟩ := has_iff.mp h3
            exact (low_spec hb q).2.1
          rw [if_pos (by omega)]
          exact (s_bit k (i + 1) a).mpr (.inr ⟨j, by omega, by omega, h3, by omega, h5⟩)
/-- the rest of a column is in the column of the parent -/
theorem lands {k a : Nat} (h : has (M d s0 k) = true) (hb : (rest (M d s0 k)).testBit a = true) : (M d s0 (k + low (M d s0 k) + 1)).testBit a = true := by
  have e : M d s0 (k + low (M d s0 k) + 1) = d ||| s d s0 (k + low (M d s0 k) + 1) 0 := rfl
  rw [e, Nat.testBit_or, Bool.or_eq_true]
  exact .inr ((s_bit _ 0 a).mpr (.inr ⟨k, by omega, by omega, h, by omega, hb⟩))
/-- of two unknowns of a column the later one is in the column of the earlier one -/
theorem chain : ∀ (a k c : Nat), a < c → c < 16 → (M d s0 k).testBit a = true → (M d s0 k).testBit c = true → (M d s0 (k + a + 1)).testBit (c - a - 1) = true := by
  intro a
  induction a using Nat.strongRecOn with
  | _ a ih =>
    intro k c hac hc ha hb
    have hh : has (M d s0 k) = true := has_iff.mpr ⟨a, by omega, ha⟩
    obtain ⟨p1, p2, p3⟩ := low_spec (by omega : a < 16) ha
    by_cases hp : low (M d s0 k) = a
    · have z := lands (a := c - a - 1) hh (by
        rw [rest_in (by omega), Bool.and_eq_true]
        refine ⟨decide_eq_true (by omega), ?_⟩
        rw [show c - a - 1 + low (M d s0 k) + 1 = c by omega]
        exact hb)
      rw [hp] at z
      exact z
    · have r1 : (rest (M d s0 k)).testBit (a - low (M d s0 k) - 1) = true := by
        rw [rest_in (by omega), Bool.and_eq_true]
        refine ⟨decide_eq_true (by omega), ?_⟩
        rw [show a - low (M d s0 k) - 1 + low (M d s0 k) + 1 = a by omega]
        exact ha
      have r2 : (rest (M d s0 k)).testBit (c - low (M d s0 k) - 1) = true := by
        rw [rest_in (by omega), Bool.and_eq_true]
        refine ⟨decide_eq_true (by omega), ?_⟩
        rw [show c - low (M d s0 k) - 1 + low (M d s0 k) + 1 = c by omega]
        exact hb
      have z := ih (a - low (M d s0 k) - 1) (by omega) (k + low (M d s0 k) + 1) (c - low (M d s0 k) - 1) (by omega) (by omega) (lands hh r1) (lands hh r2)
      rw [show k + low (M d s0 k) + 1 + (a - low (M d s0 k) - 1) + 1 = k + a + 1 by omega, show c - low (M d s0 k) - 1 - (a - low (M d s0 k) - 1) - 1 = c - a - 1 by omega] at z
      exact z
/-- the same for a border unknown -/
theorem chainB : ∀ (a k c : Nat), a < 16 → 16 ≤ c → (M d s0 k).testBit a = true → (M d s0 k).testBit c = true → (M d s0 (k + a + 1)).testBit c = true := by
  intro a
  induction a using Nat.strongRecOn with
  | _ a ih =>
    intro k c ha16 hc ha hb
    have hh : has (M d s0 k) = true := has_iff.mpr ⟨a, ha16, ha⟩
    obtain ⟨p1, p2, p3⟩ := low_spec ha16 ha
    have rb := lands (a := c) hh (by rw [rest_out hc]; exact hb)
    by_cases hp : low (M d s0 k) = a
    · rw [hp] at rb
      exact rb
    · have r1 : (rest (M d s0 k)).testBit (a - low (M d s0 k) - 1) = true := by
        rw [rest_in (by omega), Bool.and_eq_true]
        refine ⟨decide_eq_true (by omega), ?_⟩
        rw [show a - low (M d s0 k) - 1 + low (M d s0 k) + 1 = a by omega]
        exact ha
      have z := ih (a - low (M d s0 k) - 1) (by omega) (k + low (M d s0 k) + 1) c (by omega) hc (lands hh r1) rb
      rw [show k + low (M d s0 k) + 1 + (a - low (M d s0 k) - 1) + 1 = k + a + 1 by omega] at z
      exact z
/-- how far a column reaches -/
theorem reach {D : Nat} (h0 : ∀ i a, i < 16 → a < 16 → (s0 i).testBit a = true → i + a + 1 ≤ 15) (hd : ∀ a, a < 16 → d.testBit a = true → a + 1 ≤ D) :
    ∀ (k a : Nat), a < 16 → (M d s0 k).testBit a = true → k + a + 1 ≤ max 15 (k + D) := by
  intro k
  induction k using Nat.strongRecOn with
  | _ k ih =>
    intro a ha h
    have e : M d s0 k = d ||| s d s0 k 0 := rfl
    rw [e, Nat.testBit_or, Bool.or_eq_true] at h
    rcases h with h | h
    · have := hd a ha h
      omega
    · rcases (s_bit k 0 a).mp h with ⟨h1, h2⟩ | ⟨j, h1, h2, h3, h4, h5⟩
      · have := h0 (k + 0) a h1 ha h2
        omega
      · rw [rest_in ha, Bool.and_eq_true] at h5
        have hb := of_decide_eq_true h5.1
        have := ih j h1 (a + low (M d s0 j) + 1) hb h5.2
        omega
/-- all bits lie below a bound -/
theorem M_lt {B : Nat} (h0 : ∀ i, i < 16 → ∀ a, B ≤ a → (s0 i).testBit a = false) (hd : ∀ a, B ≤ a → d.testBit a = false) (hB : 16 ≤ B) : ∀ (k a : Nat), B ≤ a → (M d s0 k).testBit a = false := by
  intro k
  induction k using Nat.strongRecOn with
  | _ k ih =>
    intro a ha
    have e : M d s0 k = d ||| s d s0 k 0 := rfl
    rw [e, Nat.testBit_or, hd a ha, Bool.false_or]
    cases q : (s d s0 k 0).testBit a with
    | false => rfl
    | true =>
      rcases (s_bit k 0 a).mp q with ⟨h1, h2⟩ | ⟨j, h1, h2, h3, h4, h5⟩
      · rw [h0 (k + 0) h1 a ha] at h2
        cases h2
      · rw [rest_out (by omega), ih j h1 a ha] at h5
        cases h5
/-- from the sixteenth unknown on a column is in the one that is the greatest offset further on -/
theorem grows {D : Nat} (h0 : ∀ i a, i < 16 → a < 16 → (s0 i).testBit a = true → i + a + 1 ≤ 15) (hd : ∀ a, a < 16 → d.testBit a = true → a + 1 ≤ D) (hD : 1 ≤ D) (hD2 : D ≤ 16) (hdD : d.testBit (D - 1) = true)
    {k a : Nat} (hk : 15 ≤ k) (h : (M d s0 k).testBit a = true) : (M d s0 (k + D)).testBit a = true := by
  have dm : ∀ n, (M d s0 n).testBit (D - 1) = true := fun n => by
    have e : M d s0 n = d ||| s d s0 n 0 := rfl
    rw [e, Nat.testBit_or, hdD, Bool.true_or]
  by_cases ha : a < 16
  · have r := reach h0 hd k a ha h
    have r' : a + 1 ≤ D := by omega
    by_cases hx : a + 1 = D
    · have := dm (k + D)
      rw [show D - 1 = a by omega] at this
      exact this
    · have c1 := chain a k (D - 1) (by omega) (by omega) h (dm k)
      have c2 := chain (D - 1 - a - 1) (k + a + 1) (D - 1) (by omega) (by omega) c1 (dm _)
      rw [show k + a + 1 + (D - 1 - a - 1) + 1 = k + D by omega, show D - 1 - (D - 1 - a - 1) - 1 = a by omega] at c2
      exact c2
  · have c := chainB (D - 1) k a (by omega) (by omega) (dm k) h
    rw [show k + (D - 1) + 1 = k + D by omega] at c
    exact c
/-- how many bits are set -/
def cnt (m : Nat) : Nat := (List.range 22).countP fun a => m.testBit a
theorem cnt_le (m : Nat) : cnt m ≤ 22 := by
  have := List.countP_le_length (p := fun a => m.testBit a) (l := List.range 22)
  rw [List.length_range] at this
  exact this
theorem countP_mono {p q : Nat → Bool} : ∀ (l : List Nat), (∀ a ∈ l, p a = true → q a = true) → l.countP p ≤ l.countP q ∧ (l.countP p = l.countP q → ∀ a ∈ l, p a = q a)
  | [], _ => ⟨Nat.le_refl _, fun _ a h => by cases h⟩
  | x :: l, h => by
    obtain ⟨i1, i2⟩ := countP_mono l fun a ha => h a (.tail _ ha)
    have hx := h x (.head _)
    rw [List.countP_cons, List.countP_cons]
    cases hp : p x with
    | true =>
      have hq := hx hp
      rw [hq]
      simp only [if_true]
      refine ⟨by omega, fun e a ha => ?_⟩
      rcases List.mem_cons.mp ha with rfl | ha
      · rw [hp, hq]
      · exact i2 (by omega) a ha
    | false =>
      cases hq : q x with
      | true =>
        simp only [if_true, Bool.false_eq_true, if_false]
        exact ⟨by omega, fun e => by omega⟩
      | false =>
        simp only [Bool.false_eq_true, if_false]
        refine ⟨by omega, fun e a ha => ?_⟩
        rcases List.mem_cons.mp ha with rfl | ha
        · rw [hp, hq]
        · exact i2 (by omega) a ha
theorem cnt_grow {m n : Nat} (h : ∀ a, m.testBit a = true → n.testBit a = true) (hm : ∀ a, 22 ≤ a → m.testBit a = false) (hn : ∀ a, 22 ≤ a → n.testBit a = false) : cnt m ≤ cnt n ∧ (m ≠ n → cnt m + 1 ≤ cnt n) := by
  obtain ⟨h1, h2⟩ := countP_mono (p := fun a => m.testBit a) (q := fun a => n.testBit a) (List.range 22) fun a _ => h a
  refine ⟨h1, fun ne => ?_⟩
  have : cnt m ≠ cnt n := fun e => ne (Nat.eq_of_testBit_eq fun a => by
    by_cases ha : a < 22
    · exact h2 e a (List.mem_range.mpr ha)
    · rw [hm a (by omega), hn a (by omega)])
  unfold cnt at this ⊢
  omega
/-- a sum of so many that follow one another -/
def sumF (f : Nat → Nat) : Nat → Nat → Nat
  | 0, _ => 0
  | n + 1, k => f k + sumF f n (k + 1)
theorem sumF_shift (f : Nat → Nat) : ∀ (n k : Nat), sumF f n (k + 1) + f k = sumF f n k + f (k + n)
  | 0, k => by simp [sumF]
  | n + 1, k => by
    have ih := sumF_shift f n (k + 1)
    simp only [sumF]
    rw [show k + (n + 1) = k + 1 + n by omega]
    omega
theorem sumF_le (f : Nat → Nat) (B : Nat) (h : ∀ k, f k ≤ B) : ∀ (n k : Nat), sumF f n k ≤ B * n
  | 0, k => by simp [sumF]
  | n + 1, k => by
    have ih := sumF_le f B h n (k + 1)
    have := h k
    simp only [sumF, Nat.mul_succ]
    omega
/-- of many windows of sixteen there is one in which a bounded function, that never falls over a step of D, stays -/
theorem window (f : Nat → Nat) (B D : Nat) (hB : ∀ k, f k ≤ B) (hm : ∀ k, f k ≤ f (k + D)) : ∃ w, w ≤ B * D ∧ ∀ n, 16 * w ≤ n → n < 16 * w + 16 → f n = f (n + D) := by
  by_cases hw : ∃ w, w ≤ B * D ∧ ∀ n, 16 * w ≤ n → n < 16 * w + 16 → f n = f (n + D)
  · exact hw
  · exfalso
    have step1 : ∀ k, sumF f D k ≤ sumF f D (k + 1) := fun k => by
      have := sumF_shift f D k
      have := hm k
      omega
    have mono : ∀ n k, sumF f D k ≤ sumF f D (k + n) := fun n => by
      induction n with
      | zero => intro k; exact Nat.le_refl _
      | succ n ih =>
        intro k
        have := ih k
        have := step1 (k + n)
        rw [show k + (n + 1) = k + n + 1 by omega]
        omega
    have up : ∀ w, w ≤ B * D + 1 → w ≤ sumF f D (16 * w) := by
      intro w
      induction w with
      | zero => intro _; exact Nat.zero_le _
      | succ w ih =>
        intro hw'
        have i := ih (by omega)
        have ex : ∃ n, 16 * w ≤ n ∧ n < 16 * w + 16 ∧ f n ≠ f (n + D) := by
          by_cases q : ∃ n, 16 * w ≤ n ∧ n < 16 * w + 16 ∧ f n ≠ f (n + D)
          · exact q
          · exact absurd ⟨w, by omega, fun n h1 h2 => by
              by_cases e : f n = f (n + D)
              · exact e
              · exact absurd ⟨n, h1, h2, e⟩ q⟩ hw
        obtain ⟨n, h1, h2, h3⟩ := ex
        have a1 := mono (n - 16 * w) (16 * w)
        rw [show 16 * w + (n - 16 * w) = n by omega] at a1
        have a2 := sumF_shift f D n
        have a3 := hm n
        have a4 := mono (16 * w + 15 - n) (n + 1)
        rw [show n + 1 + (16 * w + 15 - n) = 16 * (w + 1) by omega] at a4
        omega
    have z := up (B * D + 1) (Nat.le_refl _)
    have z2 := sumF_le f B hB D (16 * (B * D + 1))
    omega
/-- what is pending is told by the last sixteen columns -/
theorem s_same {D k : Nat} (hk : 16 ≤ k) (h : ∀ j, k - 16 ≤ j → j < k → M d s0 j = M d s0 (j + D)) (i : Nat) : s d s0 k i = s d s0 (k + D) i := by
  have lowlt : ∀ {m : Nat}, has m = true → low m < 16 := fun {m} hh => by
    obtain ⟨b, hb, q⟩ := has_iff.mp hh
    exact (low_spec hb q).2.1
  refine Nat.eq_of_testBit_eq fun a => ?_
  rw [Bool.eq_iff_iff, s_bit, s_bit]
  constructor
  · rintro (⟨h1, _⟩ | ⟨j, h1, h2, h3, h4, h5⟩)
    · omega
    · have hl := lowlt h3
      have e := h j (by omega) h1
      rw [e] at h3 h4 h5
      exact .inr ⟨j + D, by omega, h2, h3, by omega, h5⟩
  · rintro (⟨h1, _⟩ | ⟨j, h1, h2, h3, h4, h5⟩)
    · omega
    · have hl := lowlt h3
      have hj1 : D ≤ j := by omega
      have hj2 : k - 16 ≤ j - D := by omega
      have hj3 : j - D < k := by omega
      have e := h (j - D) hj2 hj3
      rw [show j - D + D = j by omega] at e
      rw [← e] at h3 h4 h5
      exact .inr ⟨j - D, by omega, h2, h3, by omega, h5⟩
/-- what is pending comes for the second time -/
theorem again {D : Nat} (h0 : ∀ i a, i < 16 → a < 16 → (s0 i).testBit a = true → i + a + 1 ≤ 15) (hb : ∀ i, i < 16 → ∀ a, 22 ≤ a → (s0 i).testBit a = false) (hd : ∀ a, a < 16 → d.testBit a = true → a + 1 ≤ D) (hdb : ∀ a, 22 ≤ a → d.testBit a = false)
    (hD2 : D ≤ 16) (hdD : 1 ≤ D → d.testBit (D - 1) = true) : ∃ k p, 1 ≤ p ∧ k + p ≤ 5800 ∧ ∀ i, s d s0 k i = s d s0 (k + p) i := by
  by_cases hD : 1 ≤ D
  · have bd := M_lt hb hdb (by decide)
    have gr : ∀ n, cnt (M d s0 (15 + n)) ≤ cnt (M d s0 (15 + (n + D))) ∧ (M d s0 (15 + n) ≠ M d s0 (15 + (n + D)) → cnt (M d s0 (15 + n)) + 1 ≤ cnt (M d s0 (15 + (n + D)))) := fun n =>
      cnt_grow (fun a h => by
        have := grows h0 hd hD hD2 (hdD hD) (k := 15 + n) (by omega) h
        rw [show 15 + (n + D) = 15 + n + D by omega]
        exact this) (bd _) (bd _)
    obtain ⟨w, hw, q⟩ := window (fun n => cnt (M d s0 (15 + n))) 22 D (fun k => cnt_le _) (fun k => (gr k).1)
    have hw2 : w ≤ 352 := Nat.le_trans hw (by omega)
    refine ⟨15 + 16 * w + 16, D, hD, by omega, fun i => s_same (by omega) (fun j h1 h2 => ?_) i⟩
    have e := q (j - 15) (by omega) (by omega)
    by_cases ne : M d s0 j = M d s0 (j + D)
    · exact ne
    · exfalso
      have z := (gr (j - 15)).2
      rw [show 15 + (j - 15) = j by omega, show 15 + (j - 15 + D) = j + D by omega] at z
      have z2 := z ne
      have e' : cnt (M d s0 (15 + (j - 15))) = cnt (M d s0 (15 + (j - 15 + D))) := e
      rw [show 15 + (j - 15) = j by omega, show 15 + (j - 15 + D) = j + D by omega] at e'
      omega
  · have none_in : ∀ j, 15 ≤ j → has (M d s0 j) = false := fun j hj => by
      cases q : has (M d s0 j) with
      | false => rfl
      | true =>
        obtain ⟨a, ha, h⟩ := has_iff.mp q
        have := reach h0 hd j a ha h
        omega
    have zero : ∀ k, 31 ≤ k → ∀ i, s d s0 k i = 0 := fun k hk i => by
      refine Nat.eq_of_testBit_eq fun a => ?_
      rw [Nat.zero_testBit]
      cases q : (s d s0 k i).testBit a with
      | false => rfl
      | true =>
        rcases (s_bit k i a).mp q with ⟨h1, _⟩ | ⟨j, h1, h2, h3, h4, h5⟩
        · omega
        · have hl : low (M d s0 j) < 16 := by
            obtain ⟨b, hb, q⟩ := has_iff.mp h3
            exact (low_spec hb q).2.1
          rw [none_in j (by omega)] at h3
          cases h3
    exact ⟨31, 1, by omega, by omega, fun i => by rw [zero 31 (by omega), zero 32 (by omega)]⟩
end
end WM
/-! what is pending as a list of sixteen. Core Lean alone. -/
namespace WM
def hand (ss : List Nat) (m : Nat) : List Nat := if has m = true then ss.set (low m) (ss.getD (low m) 0 ||| rest m) else ss
def next (d : Nat) (ss : List Nat) : List Nat := hand (ss.tail ++ [0]) (d ||| ss.getD 0 0)
def St (d : Nat) (ss : List Nat) : Nat → List Nat
  | 0 => ss
  | n + 1 => next d (St d ss n)
def Ms (d : Nat) (ss : List Nat) (n : Nat) : Nat := d ||| (St d ss n).getD 0 0
theorem hand_len (ss : List Nat) (m : Nat) : (hand ss m).length = ss.length := by
  unfold hand
  split
  · rw [List.length_set]
  · rfl
theorem next_len {d : Nat} {ss : List Nat} (h : ss.length = 16) : (next d ss).length = 16 := by
  unfold next
  rw [hand_len, List.length_append, List.length_tail, h]
  rfl
theorem St_len {d : Nat} {ss : List Nat} (h : ss.length = 16) : ∀ n, (St d ss n).length = 16
  | 0 => h
  | n + 1 => next_len (St_len h n)
theorem shift_get {ss : List Nat} (h : ss.length = 16) {i : Nat} (hi : i < 16) : (ss.tail ++ [0]).getD i 0 = if i < 15 then ss.getD (i + 1) 0 else 0 := by
  rw [List.getD_eq_getElem?_getD, List.getD_eq_getElem?_getD]
  by_cases h2 : i < 15
  · rw [if_pos h2, List.getElem?_append_left (by rw [List.length_tail, h]; exact h2), List.getElem?_tail]
  · rw [if_neg h2]
    have : i = 15 := by omega
    subst this
    rw [List.getElem?_append_right (by rw [List.length_tail, h]; decide), List.length_tail, h]
    rfl
theorem hand_get {ss : List Nat} (h : ss.length = 16) (m : Nat) {i : Nat} (hi : i < 16) : (hand ss m).getD i 0 = ss.getD i 0 ||| (if has m = true ∧ i = low m then rest m else 0) := by
  unfold hand
  by_cases hh : has m = true
  · rw [if_pos hh]
    by_cases hl : i = low m
    · rw [if_pos ⟨hh, hl⟩, hl, List.getD_eq_getElem?_getD, List.getElem?_set_self (by omega)]
      rfl
    · rw [if_neg (fun z => hl z.2), List.getD_eq_getElem?_getD, List.getElem?_set_ne (fun z => hl z.symm), Nat.or_zero, List.getD_eq_getElem?_getD]
  · rw [if_neg hh, if_neg (fun z => hh z.1), Nat.or_zero]
theorem next_get {d : Nat} {ss : List Nat} (h : ss.length = 16) {i : Nat} (hi : i < 16) :
    (next d ss).getD i 0 = (if i < 15 then ss.getD (i + 1) 0 else 0) ||| (if has (d ||| ss.getD 0 0) = true ∧ i = low (d ||| ss.getD 0 0) then rest (d ||| ss.getD 0 0) else 0) := by
  unfold next
  rw [hand_get (by rw [List.length_append, List.length_tail, h]; rfl) _ hi, shift_get h hi]
theorem St_get {d : Nat} {ss : List Nat} (h : ss.length = 16) : ∀ n i, i < 16 → (St d ss n).getD i 0 = s d (fun i => ss.getD i 0) n i
  | 0, i, hi => by
    show ss.getD i 0 = if i < 16 then ss.getD i 0 else 0
    rw [if_pos hi]
  | n + 1, i, hi => by
    rw [St, next_get (St_len h n) hi, s_succ]
    rw [St_get h n 0 (by decide)]
    by_cases h2 : i < 15
    · rw [if_pos h2, if_pos h2, St_get h n (i + 1) (by omega)]
      rfl
    · rw [if_neg h2, if_neg h2]
      rfl
theorem ext16 {a b : List Nat} (ha : a.length = 16) (hb : b.length = 16) (h : ∀ i, i < 16 → a.getD i 0 = b.getD i 0) : a = b := by
  apply List.ext_getElem (by omega)
  intro i h1 h2
  have z := h i (by omega)
  rw [List.getD_eq_getElem?_getD, List.getD_eq_getElem?_getD, List.getElem?_eq_getElem h1, List.getElem?_eq_getElem h2] at z
  exact z
/-- what may be pending -/
def Pend (ss : List Nat) : Prop := ss.length = 16 ∧ (∀ i a, i < 16 → a < 16 → (ss.getD i 0).testBit a = true → i + a + 1 ≤ 15) ∧ ∀ i, i < 16 → ∀ a, 22 ≤ a → (ss.getD i 0).testBit a = false
def Dir (d : Nat) : Prop := ∀ a, 22 ≤ a → d.testBit a = false
theorem Pend.next {d : Nat} {ss : List Nat} (h : Pend ss) (hd : Dir d) : Pend (next d ss) := by
  obtain ⟨h1, h2, h3⟩ := h
  refine ⟨next_len h1, fun i a hi ha hb => ?_, fun i hi a ha => ?_⟩
  · rw [next_get h1 hi, Nat.testBit_or, Bool.or_eq_true] at hb
    rcases hb with hb | hb
    · by_cases h15 : i < 15
      · rw [if_pos h15] at hb
        have := h2 (i + 1) a (by omega) ha hb
        omega
      · rw [if_neg h15, Nat.zero_testBit] at hb
        cases hb
    · split at hb
      · rename_i hh
        rw [rest_in ha, Bool.and_eq_true] at hb
        have := of_decide_eq_true hb.1
        omega
      · rw [Nat.zero_testBit] at hb
        cases hb
  · rw [next_get h1 hi, Nat.testBit_or]
    have e1 : (if i < 15 then ss.getD (i + 1) 0 else 0).testBit a = false := by
      split
      · exact h3 _ (by omega) a ha
      · exact Nat.zero_testBit a
    have e2 : (if has (d ||| ss.getD 0 0) = true ∧ i = low (d ||| ss.getD 0 0) then rest (d ||| ss.getD 0 0) else 0).testBit a = false := by
      split
      · rw [rest_out (by omega), Nat.testBit_or, hd a ha, h3 0 (by decide) a ha]
        rfl
      · exact Nat.zero_testBit a
    rw [e1, e2]
    rfl
theorem Pend.St {d : Nat} {ss : List Nat} (h : Pend ss) (hd : Dir d) : ∀ n, Pend (St d ss n)
  | 0 => h
  | n + 1 => (Pend.St h hd n).next hd
theorem top (d : Nat) : ∀ n : Nat, ∃ D, D ≤ n ∧ (∀ a, a < n → d.testBit a = true → a + 1 ≤ D) ∧ (1 ≤ D → d.testBit (D - 1) = true)
  | 0 => ⟨0, Nat.le_refl _, fun a h => absurd h (Nat.not_lt_zero a), fun h => absurd h (by decide)⟩
  | n + 1 => by
    by_cases hn : d.testBit n = true
    · exact ⟨n + 1, Nat.le_refl _, fun a h _ => h, fun _ => hn⟩
    · obtain ⟨D, h1, h2, h3⟩ := top d n
      refine ⟨D, by omega, fun a h hb => ?_, h3⟩
      by_cases e : a = n
      · rw [e] at hb
        exact absurd hb hn
      · exact h2 a (by omega) hb
/-- what is pending comes for the second time -/
theorem St_again {d : Nat} {ss : List Nat} (h : Pend ss) (hd : Dir d) : ∃ k p, 1 ≤ p ∧ k + p ≤ 5800 ∧ WM.St d ss k = WM.St d ss (k + p) := by
  obtain ⟨D, e1, e2, e3⟩ := top d 16
  obtain ⟨k, p, h1, h2, h3⟩ := again (d := d) (s0 := fun i => ss.getD i 0) (D := D) h.2.1 h.2.2 e2 hd e1 e3
  refine ⟨k, p, h1, h2, ext16 (St_len h.1 _) (St_len h.1 _) fun i hi => ?_⟩
  rw [St_get h.1 _ i hi, St_get h.1 _ i hi]
  exact h3 i
theorem St_add (d : Nat) (ss : List Nat) (m : Nat) : ∀ n, St d ss (m + n) = St d (St d ss m) n
  | 0 => rfl
  | n + 1 => by
    show next d (St d ss (m + n)) = next d (St d (St d ss m) n)
    rw [St_add d ss m n]
/-- round and round -/
theorem St_cycle {d : Nat} {ss : List Nat} {a p : Nat} (hp : 1 ≤ p) (h : St d ss a = St d ss (a + p)) : ∀ n, St d ss (a + n) = St d ss (a + n % p) := by
  intro n
  induction n using Nat.strongRecOn with
  | _ n ih =>
    by_cases hn : n < p
    · rw [Nat.mod_eq_of_lt hn]
    · have e : a + n = a + p + (n - p) := by omega
      rw [e, St_add d ss (a + p) (n - p), ← h, ← St_add d ss a (n - p), ih (n - p) (by omega), Nat.mod_eq_sub_mod (a := n) (b := p) (by omega)]
end WM
set_option maxHeartbeats 4000000
/-! A heap over another one: what stood stands, and some cells of one's own. -/
namespace L2
open PySem PySem.Spec PyProof.Rows
abbrev Cell := Addr × HO
structure Own (H0 : Hp) (cs : List Cell) (H : Hp) : Prop where
  s : Same H0 H
  h : ∀ c ∈ cs, H c.1 = some c.2
  n : ∀ c ∈ cs, H0 c.1 = none
  d : (cs.map (·.1)).Nodup
namespace Own
variable {H0 H H1 H2 : Hp} {cs ds : List Cell} {a b p x dx C : Addr} {o o' o1 o2 o3 o4 o5 : HO} {c0 c1 c2 c3 c4 c5 c : Cell}
theorem nil : Own H [] H := ⟨fun _ _ h => h, (fun _ h => nomatch h), (fun _ h => nomatch h), List.nodup_nil⟩
theorem ofSame (S : Same H0 H) : Own H0 [] H := ⟨S, (fun _ h => nomatch h), (fun _ h => nomatch h), List.nodup_nil⟩
theorem get {i : Nat} (W : Own H0 cs H) (e : cs[i]? = some (a, o)) : H a = some o := W.h _ (List.mem_of_getElem? e)
theorem g0 (W : Own H0 ((a, o) :: cs) H) : H a = some o := W.h (a, o) (by simp)
theorem g1 (W : Own H0 (c0 :: (a, o) :: cs) H) : H a = some o := W.h (a, o) (by simp)
theorem g2 (W : Own H0 (c0 :: c1 :: (a, o) :: cs) H) : H a = some o := W.h (a, o) (by simp)
theorem g3 (W : Own H0 (c0 :: c1 :: c2 :: (a, o) :: cs) H) : H a = some o := W.h (a, o) (by simp)
theorem g4 (W : Own H0 (c0 :: c1 :: c2 :: c3 :: (a, o) :: cs) H) : H a = some o := W.h (a, o) (by simp)
theorem g5 (W : Own H0 (c0 :: c1 :: c2 :: c3 :: c4 :: (a, o) :: cs) H) : H a = some o := W.h (a, o) (by simp)
theorem g6 (W : Own H0 (c0 :: c1 :: c2 :: c3 :: c4 :: c5 :: (a, o) :: cs) H) : H a = some o := W.h (a, o) (by simp)
theorem free (W : Own H0 cs H) (n : H p = none) : H0 p = none := by
  cases e : H0 p with
  | none => rfl
  | some o => rw [W.s _ _ e] at n; cases n
theorem ne (W : Own H0 ((a, o) :: cs) H) (n : H p = none) : p ≠ a := fun e => by
  rw [e, W.g0] at n
  cases n
theorem new (W : Own H0 cs H) (n : H p = none) (e : upd H p o = H1) : Own H0 ((p, o) :: cs) H1 := by
  subst e
  have np : ∀ c ∈ cs, c.1 ≠ p := fun c hc z => by
    have := W.h c hc
    rw [z, n] at this
    cases this
  refine ⟨fun y u z => ?_, fun c hc => ?_, fun c hc => ?_, ?_⟩
  · rw [upd_ne (ne_of_none (W.s _ _ z) n)]
    exact W.s _ _ z
  · rcases List.mem_cons.mp hc with z | z
    · rw [z]
      exact upd_same
    · rw [upd_ne (np c z)]
      exact W.h c z
  · rcases List.mem_cons.mp hc with z | z
    · rw [z]
      exact W.free n
    · exact W.n c z
  · rw [List.map_cons, List.nodup_cons]
    refine ⟨fun z => ?_, W.d⟩
    obtain ⟨c, hc, e⟩ := List.mem_map.mp z
    exact np c hc e
theorem mono (W : Own H0 cs H) (S : Same H H1) : Own H0 cs H1 := ⟨W.s.trans S, fun c hc => S _ _ (W.h c hc), W.n, W.d⟩
theorem perm (W : Own H0 cs H) (p : cs.Perm ds) : Own H0 ds H := ⟨W.s, fun c hc => W.h c (p.mem_iff.mpr hc), fun c hc => W.n c (p.mem_iff.mpr hc), (p.map (·.1)).nodup_iff.mp W.d⟩
theorem sub (W : Own H0 cs H) (p : ds.Sublist cs) : Own H0 ds H := ⟨W.s, fun c hc => W.h c (p.subset hc), fun c hc => W.n c (p.subset hc), W.d.sublist (p.map (·.1))⟩
theorem tl (W : Own H0 (c :: cs) H) : Own H0 cs H := W.sub (List.sublist_cons_self _ _)
theorem tl2 (W : Own H0 (c :: c1 :: cs) H) : Own H0 cs H := W.tl.tl
theorem swap (W : Own H0 (c :: c1 :: cs) H) : Own H0 (c1 :: c :: cs) H := W.perm (.swap _ _ _)
theorem set0 (W : Own H0 ((a, o) :: cs) H) (e : upd H a o' = H1) : Own H0 ((a, o') :: cs) H1 := by
  subst e
  have nd := W.d
  rw [List.map_cons, List.nodup_cons] at nd
  have na := W.n _ (List.mem_cons_self (a := (a, o)) (l := cs))
  refine ⟨fun y u z => ?_, fun c hc => ?_, fun c hc => ?_, ?_⟩
  · rw [upd_ne (ne_of_none z na)]
    exact W.s _ _ z
  · rcases List.mem_cons.mp hc with z | z
    · rw [z]
      exact upd_same
    · rw [upd_ne (fun q => nd.1 (List.mem_map.mpr ⟨c, z, q⟩))]
      exact W.h c (.tail _ z)
  · rcases List.mem_cons.mp hc with z | z
    · rw [z]
      exact na
    · exact W.n c (.tail _ z)
  · rw [List.map_cons, List.nodup_cons]
    exact nd
theorem set1 (W : Own H0 (c0 :: (a, o) :: cs) H) (e : upd H a o' = H1) : Own H0 (c0 :: (a, o') :: cs) H1 := (W.swap.set0 e).swap
theorem rot2 (W : Own H0 (c0 :: c1 :: c2 :: cs) H) : Own H0 (c2 :: c0 :: c1 :: cs) H := W.perm (((List.Perm.swap c2 c1 cs).cons c0).trans (.swap _ _ _))
theorem unrot2 (W : Own H0 (c2 :: c0 :: c1 :: cs) H) : Own H0 (c0 :: c1 :: c2 :: cs) H := W.perm ((List.Perm.swap c0 c2 _).trans ((List.Perm.swap c1 c2 cs).cons c0))
theorem set2 (W : Own H0 (c0 :: c1 :: (a, o) :: cs) H) (e : upd H a o' = H1) : Own H0 (c0 :: c1 :: (a, o') :: cs) H1 := (W.rot2.set0 e).unrot2
theorem rot3 (W : Own H0 (c0 :: c1 :: c2 :: c3 :: cs) H) : Own H0 (c3 :: c0 :: c1 :: c2 :: cs) H := by
  refine W.perm ?_
  exact (List.perm_middle (a := c3) (l₁ := [c0, c1, c2]) (l₂ := cs))
theorem unrot3 (W : Own H0 (c3 :: c0 :: c1 :: c2 :: cs) H) : Own H0 (c0 :: c1 :: c2 :: c3 :: cs) H := W.perm (List.perm_middle (a := c3) (l₁ := [c0, c1, c2]) (l₂ := cs)).symm
theorem set3 (W : Own H0 (c0 :: c1 :: c2 :: (a, o) :: cs) H) (e : upd H a o' = H1) : Own H0 (c0 :: c1 :: c2 :: (a, o') :: cs) H1 := (W.rot3.set0 e).unrot3
theorem rot4 (W : Own H0 (c0 :: c1 :: c2 :: c3 :: c4 :: cs) H) : Own H0 (c4 :: c0 :: c1 :: c2 :: c3 :: cs) H := W.perm (List.perm_middle (a := c4) (l₁ := [c0, c1, c2, c3]) (l₂ := cs))
theorem unrot4 (W : Own H0 (c4 :: c0 :: c1 :: c2 :: c3 :: cs) H) : Own H0 (c0 :: c1 :: c2 :: c3 :: c4 :: cs) H := W.perm (List.perm_middle (a := c4) (l₁ := [c0, c1, c2, c3]) (l₂ := cs)).symm
theorem set4 (W : Own H0 (c0 :: c1 :: c2 :: c3 :: (a, o) :: cs) H) (e : upd H a o' = H1) : Own H0 (c0 :: c1 :: c2 :: c3 :: (a, o') :: cs) H1 := (W.rot4.set0 e).unrot4
/-- the first cell is of the base from now on -/
theorem fix (W : Own H0 ((a, o) :: cs) H) : ∃ H2, Same H0 H2 ∧ H2 a = some o ∧ Own H2 cs H := by
  have na := W.n _ (List.mem_cons_self (a := (a, o)) (l := cs))
  have nd := W.d
  rw [List.map_cons, List.nodup_cons] at nd
  refine ⟨upd H0 a o, fun y u z => ?_, upd_same, fun y u z => ?_, fun c hc => W.h c (.tail _ hc), fun c hc => ?_, nd.2⟩
  · rw [upd_ne (ne_of_none z na)]
    exact z
  · by_cases q : y = a
    · rw [q, upd_same] at z
      rw [q, ← Option.some.inj z]
      exact W.g0
    · rw [upd_ne q] at z
      exact W.s _ _ z
  · rw [upd_ne (fun q => nd.1 (List.mem_map.mpr ⟨c, hc, q⟩))]
    exact W.n c (.tail _ hc)
/-- some cells are handed on to a callee, which may change them and make others -/
theorem call (W : Own H0 (cs ++ ds) H) : ∃ H1, Own H1 cs H ∧ Same H0 H1 ∧ Own H0 ds H1 ∧ ∀ cs' H', Own H1 cs' H' → Own H0 (cs' ++ ds) H' := by
  have nd := W.d
  rw [List.map_append, List.nodup_append] at nd
  have hm : ∀ c ∈ ds, c.1 ∉ cs.map (·.1) := fun c hc m => nd.2.2 _ m _ (List.mem_map.mpr ⟨c, hc, rfl⟩) rfl
  obtain ⟨H1, ho, hi⟩ : ∃ H1 : Hp, (∀ y, y ∉ cs.map (·.1) → H1 y = H y) ∧ ∀ y, y ∈ cs.map (·.1) → H1 y = none := ⟨fun y => if y ∈ cs.map (·.1) then none else H y, fun y h => if_neg h, fun y h => if_pos h⟩
  have hs : Same H0 H1 := fun y u z => by
    rw [ho y (fun m => by
      obtain ⟨c, hc, e⟩ := List.mem_map.mp m
      have := W.n c (List.mem_append_left _ hc)
      rw [e, z] at this
      cases this)]
    exact W.s _ _ z
  have hd : ∀ c ∈ ds, H1 c.1 = some c.2 := fun c hc => by
    rw [ho _ (hm c hc)]
    exact W.h c (List.mem_append_right _ hc)
  refine ⟨H1, ⟨fun y u z => ?_, fun c hc => W.h c (List.mem_append_left _ hc), fun c hc => hi _ (List.mem_map.mpr ⟨c, hc, rfl⟩), nd.1⟩, hs, ⟨hs, hd, fun c hc => W.n c (List.mem_append_right _ hc), nd.2.1⟩, fun cs' H' W' => ?_⟩
  · by_cases q : y ∈ cs.map (·.1)
    · rw [hi y q] at z
      cases z
    · rw [ho y q] at z
      exact z
  · refine ⟨hs.trans W'.s, fun c hc => ?_, fun c hc => ?_, ?_⟩
    · rcases List.mem_append.mp hc with h | h
      · exact W'.h c h
      · exact W'.s _ _ (hd c h)
    · rcases List.mem_append.mp hc with h | h
      · have := W'.n c h
        cases e : H0 c.1 with
        | none => rfl
        | some o => rw [hs _ _ e] at this; cases this
      · exact W.n c (List.mem_append_right _ h)
    · rw [List.map_append, List.nodup_append]
      refine ⟨W'.d, nd.2.1, fun y hy z hz e => ?_⟩
      subst e
      obtain ⟨c, hc, e⟩ := List.mem_map.mp hy
      obtain ⟨c', hc', e'⟩ := List.mem_map.mp hz
      have := W'.n c hc
      rw [e, ← e', hd c' hc'] at this
      cases this
theorem call1 (W : Own H0 (c :: ds) H) : ∃ H1, Own H1 [c] H ∧ Same H0 H1 ∧ Own H0 ds H1 ∧ ∀ cs' H', Own H1 cs' H' → Own H0 (cs' ++ ds) H' := call (cs := [c]) W
theorem call2 (W : Own H0 (c :: c1 :: ds) H) : ∃ H1, Own H1 [c, c1] H ∧ Same H0 H1 ∧ Own H0 ds H1 ∧ ∀ cs' H', Own H1 cs' H' → Own H0 (cs' ++ ds) H' := call (cs := [c, c1]) W
theorem call3 (W : Own H0 (c :: c1 :: c2 :: ds) H) : ∃ H1, Own H1 [c, c1, c2] H ∧ Same H0 H1 ∧ Own H0 ds H1 ∧ ∀ cs' H', Own H1 cs' H' → Own H0 (cs' ++ ds) H' := call (cs := [c, c1, c2]) W
/-- one cell that stands: of one's own from now on -/
theorem one (h : H a = some o) : ∃ H1, Own H1 [(a, o)] H ∧ ∀ y u, y ≠ a → H y = some u → H1 y = some u := by
  refine ⟨fun y => if y = a then none else H y, ⟨fun y u z => ?_, fun c hc => ?_, fun c hc => ?_, by simp⟩, fun y u q z => ?_⟩
  · by_cases q : y = a
    · simp only [if_pos q] at z; cases z
    · simp only [if_neg q] at z; exact z
  · rw [List.mem_singleton.mp hc]; exact h
  · rw [List.mem_singleton.mp hc]; exact if_pos rfl
  · show (if y = a then none else H y) = some u
    rw [if_neg q]; exact z
/-- a new instance -/
theorem ins {fs : List (Str × V)} (W : Own H0 cs H) (nx : H x = none) (nd : H dx = none) (ne : dx ≠ x) (e : upd (upd H dx (.own x)) x (.ins C dx fs) = H1) : Own H0 ((x, .ins C dx fs) :: cs) H1 := by
  have W1 := W.new nd rfl (o := .own x)
  have nx' : upd H dx (.own x) x = none := by
    rw [upd_ne ne.symm]
    exact nx
  exact ((W1.new nx' e).swap).tl
end Own
theorem nodup_perm_eq {α : Type} : True := trivial
theorem upd_eq {H H' : Hp} {a : Addr} {o : HO} (e : H' a = some o) (fr : ∀ b, b ≠ a → H' b = H b) : upd H a o = H' := by
  funext b
  by_cases q : b = a
  · rw [q, upd_same, e]
  · rw [upd_ne q, fr b q]
def isSeq : HO → Bool
  | .lst _ => true
  | .tup _ => true
  | .frz _ _ => true
  | _ => false
def SeqS (H H' : Hp) : Prop := ∀ y o, H y = some o → isSeq o = true → H' y = some o
mutual
theorem dp_seq {K : PySem.W.Frag} {H H' : Hp} (s : SeqS H H') : ∀ {v : V} (d : PyData), Dp K H v d → Dp K H' v d
  | _, .none, h => by cases h; exact .non
  | _, .bool b, h => by cases h; exact .bl b
  | _, .int i, h => by cases h; exact .int i
  | _, .str x, h => by cases h; exact .str x
  | _, .list ds, h => by
    cases h with
    | lst hs ha =>
      refine .lst ?_ (dpAll_seq s ds ha)
      rcases hs with (h | ⟨o, h⟩) | h
      · exact .inl (.inl (s _ _ h rfl))
      · exact .inl (.inr ⟨o, s _ _ h rfl⟩)
      · exact .inr h
  | _, .tuple ds, h => by
    cases h with
    | tup hs ha =>
      refine .tup ?_ (dpAll_seq s ds ha)
      rcases hs with (h | ⟨o, h⟩) | h
      · exact .inl (.inl (s _ _ h rfl))
      · exact .inl (.inr ⟨o, s _ _ h rfl⟩)
      · exact .inr h
  | _, .dict _, h => by cases h
theorem dpAll_seq {K : PySem.W.Frag} {H H' : Hp} (s : SeqS H H') : ∀ {vs : List V} (ds : List PyData), DpAll K H vs ds → DpAll K H' vs ds
  | _, [], h => by cases h; exact .nil
  | _, d :: ds, h => by
    cases h with
    | cons h1 h2 => exact .cons (dp_seq s d h1) (dpAll_seq s ds h2)
end
theorem same_seqS {H H' : Hp} (s : Same H H') : SeqS H H' := fun y o e _ => s y o e
theorem SeqS.trans {H H1 H2 : Hp} (a : SeqS H H1) (b : SeqS H1 H2) : SeqS H H2 := fun y o e i => b y o (a y o e i) i
theorem SeqS.upd {H : Hp} {x C dx : Addr} {fs : List (Str × V)} {o : HO} (h : H x = some (.ins C dx fs)) : SeqS H (upd H x o) := fun y ob e i => by
  rw [upd_ne (fun z => by
    rw [z, h] at e
    cases e
    cases i)]
  exact e
theorem sql_seq {K : PySem.W.Frag} {H H' : Hp} {a : Addr} {xs : List V} (s : SeqS H H') (h : SqL K H a xs) : SqL K H' a xs := by
  rcases h with (h | ⟨o, h⟩) | h
  · exact .inl (.inl (s _ _ h rfl))
  · exact .inl (.inr ⟨o, s _ _ h rfl⟩)
  · exact .inr h
def NS (cs : List Cell) : Prop := ∀ c ∈ cs, isSeq c.2 = false
theorem NS.nil : NS [] := fun _ h => nomatch h
theorem NS.ins {x C dx : Addr} {fs : List (Str × V)} {cs : List Cell} (h : NS cs) : NS ((x, .ins C dx fs) :: cs) := fun c hc => by
  rcases List.mem_cons.mp hc with e | e
  · rw [e]
    rfl
  · exact h c e
theorem Own.rebase' {H0 H : Hp} {cs : List Cell} (W : Own H0 cs H) : ∃ H2, Own H2 cs H ∧ Same H0 H2 ∧ ∀ y o, y ∉ cs.map (·.1) → H y = some o → H2 y = some o := by
  have W' : Own H0 (cs ++ []) H := by
    rw [List.append_nil]
    exact W
  obtain ⟨H1, ho, hi⟩ : ∃ H1 : Hp, (∀ y, y ∉ cs.map (·.1) → H1 y = H y) ∧ ∀ y, y ∈ cs.map (·.1) → H1 y = none := ⟨fun y => if y ∈ cs.map (·.1) then none else H y, fun y h => if_neg h, fun y h => if_pos h⟩
  refine ⟨H1, ⟨fun y u z => ?_, W.h, fun c hc => hi _ (List.mem_map.mpr ⟨c, hc, rfl⟩), W.d⟩, fun y u z => ?_, fun y o h e => by rw [ho y h]; exact e⟩
  · by_cases q : y ∈ cs.map (·.1)
    · rw [hi y q] at z
      cases z
    · rw [ho y q] at z
      exact z
  · rw [ho y (fun m => by
      obtain ⟨c, hc, e⟩ := List.mem_map.mp m
      have := W.n c hc
      rw [e, z] at this
      cases this)]
    exact W.s _ _ z
theorem Own.rebase {H0 H : Hp} {cs : List Cell} (W : Own H0 cs H) (hs : NS cs) : ∃ H2, Own H2 cs H ∧ Same H0 H2 ∧ SeqS H H2 := by
  obtain ⟨H2, W2, S, k⟩ := W.rebase'
  refine ⟨H2, W2, S, fun y o e i => k y o (fun m => ?_) e⟩
  obtain ⟨c, hc, q⟩ := List.mem_map.mp m
  have h1 := W.h c hc
  rw [q, e] at h1
  cases h1
  rw [hs c hc] at i
  cases i
theorem Own.fix2 {H0 H : Hp} {cs : List Cell} {a b : Addr} {o u : HO} (W : Own H0 ((a, o) :: (b, u) :: cs) H) : ∃ H2, Same H0 H2 ∧ H2 a = some o ∧ H2 b = some u ∧ Own H2 cs H := by
  obtain ⟨H1, S1, h1, W1⟩ := W.fix
  obtain ⟨H2, S2, h2, W2⟩ := W1.fix
  exact ⟨H2, S1.trans S2, S2 _ _ h1, h2, W2⟩
theorem Own.fix3 {H0 H : Hp} {cs : List Cell} {a b c : Addr} {o u v : HO} (W : Own H0 ((a, o) :: (b, u) :: (c, v) :: cs) H) : ∃ H2, Same H0 H2 ∧ H2 a = some o ∧ H2 b = some u ∧ H2 c = some v ∧ Own H2 cs H := by
  obtain ⟨H1, S1, h1, W1⟩ := W.fix
  obtain ⟨H2, S2, h2, h3, W2⟩ := W1.fix2
  exact ⟨H2, S1.trans S2, S2 _ _ h1, h2, h3, W2⟩
/-- a new object of a callee's, of one's own from now on -/
theorem Own.adopt {H0 H H1 : Hp} {cs : List Cell} {p : Addr} {o : HO} (W : Own H0 cs H) (S : Same H H1) (n : H p = none) (h : H1 p = some o) : Own H0 ((p, o) :: cs) H1 := by
  have W1 := W.mono S
  refine ⟨W1.s, fun c hc => ?_, fun c hc => ?_, ?_⟩
  · rcases List.mem_cons.mp hc with z | z
    · rw [z]
      exact h
    · exact W1.h c z
  · rcases List.mem_cons.mp hc with z | z
    · rw [z]
      exact W.free n
    · exact W1.n c z
  · rw [List.map_cons, List.nodup_cons]
    refine ⟨fun z => ?_, W1.d⟩
    obtain ⟨c, hc, e⟩ := List.mem_map.mp z
    have := W.h c hc
    rw [e, n] at this
    cases this
end L2
/-! xs + ys, both read -/
namespace L2
open PySem PySem.Spec PyProof.Rows
section
variable {X : Cx}
theorem sq_isList {pins : List (Addr × Obj)} {σ : L2.St} {H : Hp} {s : Shared} {a : Addr} {xs : List V} (I : Inv X pins σ H s) (h : SqL X.K H a xs) : ∃ its : List Value, Vals xs its ∧ s.heap.IsList a its.toArray := by
  rcases h with h | ⟨ob, its, n, lk, hc, _, hd, hz, r⟩
  · obtain ⟨z, its, n, r, e⟩ := (show ObjOk X.prog X.w H s.heap a (.lst xs) from h.ok I.hok)
    exact ⟨its, r, ⟨_, e, rfl, n, rfl⟩⟩
  · exact ⟨its.toList, r, ⟨ob, I.kIn a ob lk, hc, n, by rw [hd, Array.toArray_toList]⟩⟩
/-- xs + ys, both read -/
def rCatR (K : PySem.W.Frag) : R2 := fun x y H Q => ∃ l b xs zs, x = .ref l ∧ y = .ref b ∧ SqL K H l xs ∧ SqL K H b zs ∧ xs.length + zs.length ≤ sizeLine ∧ ∀ p, H p = none → Q (.ref p) (upd H p (.lst (xs ++ zs)))
theorem op_catR : OpR X (binaryOp .Add) (rCatR X.K) := by
  intro pins s σ H x y v u Q I rx ry h
  obtain ⟨l, b, xs, zs, rfl, rfl, hH, hB, hz, q⟩ := h
  cases rx
  cases ry
  obtain ⟨its, r, hl⟩ := sq_isList I hH
  obtain ⟨its2, r2, hb⟩ := sq_isList I hB
  have e1 := Paired.length r
  have e2 := Paired.length r2
  obtain ⟨⟨cls, dd, data, sl⟩, ho, hc, n, hd⟩ := id hl
  obtain ⟨⟨cls2, dd2, data2, sl2⟩, ho2, hc2, n2, hd2⟩ := id hb
  simp only at hc hd hc2 hd2
  subst hc hd hc2 hd2
  have e : its.toArray ++ its2.toArray = (its ++ its2).toArray := by simp
  refine concat_meets ⟨_, ho, rfl⟩ ⟨_, ho2, rfl⟩ noFill_list_add seq_list_add PySem.F.slot_list_add PySem.F.entry_list_add (PySem.F.args_list_add_2 _ _) (list_addW l b its.toArray its2.toArray n n2 dd dd2 sl sl2 (by simp; omega)) ⟨ho, ho2, ?_⟩
  rw [e]
  exact ⟨.ref _, _, I.lnew (t' := s.toks) (r.append r2) (by rw [List.length_append]; omega), rfl, q _ I.fresh⟩
end
end L2
/-! data as any values -/
namespace L2
open PySem PySem.Spec PyProof.Rows
theorem sql_ty {K : PySem.W.Frag} {H : Hp} {a : Addr} {xs : List V} (h : SqL K H a xs) : TyX K H (.ref a) (.type "list") := by
  rcases h with (h | ⟨o, h⟩) | ⟨o, its, n, h, c, _⟩
  · exact .base (.lst h)
  · exact .base (.frz h)
  · exact .kList h c
theorem sqt_ty {K : PySem.W.Frag} {H : Hp} {a : Addr} {xs : List V} (h : SqT K H a xs) : TyX K H (.ref a) (.type "tuple") := by
  rcases h with (h | ⟨o, h⟩) | ⟨o, its, n, h, c, _⟩
  · exact .base (.tup h)
  · exact .fTuple h
  · exact .kTuple h c
theorem odd_non (K : PySem.W.Frag) : OddKind K (.type "NoneType") := ⟨false, false, kit_ty (show kitB "NoneType" "int" = some false by decide +kernel), kit_ty (show kitB "NoneType" "bool" = some false by decide +kernel), kit_ty (show kitB "NoneType" "list" = some false by decide +kernel), kit_ty (show kitB "NoneType" "tuple" = some false by decide +kernel), fun z => z⟩
theorem odd_bool (K : PySem.W.Frag) : OddKind K (.type "bool") := ⟨true, true, kit_ty (show kitB "bool" "int" = some true by decide +kernel), kit_ty (show kitB "bool" "bool" = some true by decide +kernel), kit_ty (show kitB "bool" "list" = some false by decide +kernel), kit_ty (show kitB "bool" "tuple" = some false by decide +kernel), fun z => z⟩
theorem odd_str (K : PySem.W.Frag) : OddKind K (.type "str") := ⟨false, false, kit_ty (show kitB "str" "int" = some false by decide +kernel), kit_ty (show kitB "str" "bool" = some false by decide +kernel), kit_ty (show kitB "str" "list" = some false by decide +kernel), kit_ty (show kitB "str" "tuple" = some false by decide +kernel), fun z => z⟩
theorem odd_dict (K : PySem.W.Frag) : OddKind K (.type "dict") := ⟨false, false, kit_ty (show kitB "dict" "int" = some false by decide +kernel), kit_ty (show kitB "dict" "bool" = some false by decide +kernel), kit_ty (show kitB "dict" "list" = some false by decide +kernel), kit_ty (show kitB "dict" "tuple" = some false by decide +kernel), fun z => z⟩
mutual
theorem dp_jr {K : PySem.W.Frag} {H : Hp} : ∀ {v : V} (d : PyData), Dp K H v d → Jr K H v (toJ d)
  | _, .none, h => by cases h; exact .odd (.base .non) (odd_non K) (fun i z => nomatch z)
  | _, .bool b, h => by cases h; exact .odd (.base (.bl b)) (odd_bool K) (fun i z => nomatch z)
  | _, .int i, h => by cases h; exact .int i
  | _, .str x, h => by cases h; exact .odd (.base (.str x)) (odd_str K) (fun i z => nomatch z)
  | _, .list ds, h => by
    cases h with
    | lst hs ha => exact .lst hs (sql_ty hs) (dpAll_jr ds ha)
  | _, .tuple ds, h => by
    cases h with
    | tup hs ha => exact .tup hs (sqt_ty hs) (dpAll_jr ds ha)
  | _, .dict _, h => by cases h
theorem dpAll_jr {K : PySem.W.Frag} {H : Hp} : ∀ {vs : List V} (ds : List PyData), DpAll K H vs ds → JrAll K H vs (toJs ds)
  | _, [], h => by cases h; exact .nil
  | _, d :: ds, h => by
    cases h with
    | cons h1 h2 => exact .cons (dp_jr d h1) (dpAll_jr ds h2)
end
theorem toJs_map (ds : List PyData) : toJs ds = ds.map toJ := by
  induction ds with
  | nil => rfl
  | cons d ds ih => rw [toJs, ih]; rfl
end L2
/-! how long a repr is -/
namespace L2
open PySem PySem.Spec PyProof.Rows
mutual
def noTx : PyData → Bool
  | .none => true | .bool _ => true | .int _ => true | .str _ => false
  | .list ds => noTxA ds
  | .tuple ds => noTxA ds
  | .dict _ => false
def noTxA : List PyData → Bool
  | [] => true
  | d :: ds => noTx d && noTxA ds
end
mutual
def szD : PyData → Nat
  | .none => 1921 | .bool _ => 1921 | .int _ => 1921 | .str _ => 0
  | .list ds => szA ds + 2
  | .tuple ds => szA ds + 3
  | .dict _ => 0
def szA : List PyData → Nat
  | [] => 0
  | d :: ds => szD d + 2 + szA ds
end
theorem textFrom_le : ∀ (ts : List Str) (k : Nat) (acc : Str), (textFrom k acc ts).length ≤ acc.length + (ts.map fun t => t.length + 2).sum
  | [], _, acc => by
    show acc.length ≤ _
    omega
  | t :: r, k, acc => by
    have h := textFrom_le r (k + 1) (acc ++ (if k > 0 then ", " else "" : String) ++ t)
    rw [Str.length_append, Str.length_append] at h
    have e : ((Str.ofString (if k > 0 then ", " else "" : String))).length ≤ 2 := by
      split <;> decide
    show (textFrom (k + 1) (acc ++ (if k > 0 then ", " else "" : String) ++ t) r).length ≤ _
    rw [List.map_cons, List.sum_cons]
    omega
theorem tupleText_le (ts : List Str) : (tupleText ts).length ≤ (ts.map fun t => t.length + 2).sum + 3 := by
  have hp : piled ts = (ts.map fun t => t.length + 2).sum := by
    unfold piled
    rfl
  unfold tupleText
  rw [Str.length_append, Str.length_append]
  have e1 : (Str.ofString "(").length = 1 := by decide
  have e2 : (Str.ofString (if ts.length == 1 then ",)" else ")" : String)).length ≤ 2 := by
    split <;> decide
  cases ts with
  | nil =>
    have e3 : (Str.join ", " ([] : List Str)).length = 0 := by decide
    omega
  | cons x r =>
    have e3 := join_length_add (x :: r) (by simp)
    omega
mutual
theorem shown_le : ∀ d : PyData, noTx d = true → d.showable = true → d.shown.length ≤ szD d
  | .none, _, _ => by
    show (Str.ofString "None").length ≤ 1921
    decide
  | .bool b, _, _ => by
    cases b
    · show (Str.ofString "False").length ≤ 1921
      decide
    · show (Str.ofString "True").length ≤ 1921
      decide
  | .int i, _, h => PyProof.Rows.int_text_len_1921 (of_decide_eq_true h)
  | .str _, h, _ => by cases h
  | .list ds, h1, h2 => by
    have h := shownAll_le ds h1 h2
    have t := textFrom_le (PyData.shownAll ds) 0 "["
    have e : (Str.ofString "[").length = 1 := by decide
    have e2 : (Str.ofString "]").length = 1 := by decide
    show (textFrom 0 "[" (PyData.shownAll ds) ++ Str.ofString "]").length ≤ szA ds + 2
    rw [Str.length_append]
    omega
  | .tuple ds, h1, h2 => by
    have h := shownAll_le ds h1 h2
    have t := tupleText_le (PyData.shownAll ds)
    show (tupleText (PyData.shownAll ds)).length ≤ szA ds + 3
    omega
  | .dict _, h, _ => by cases h
theorem shownAll_le : ∀ ds : List PyData, noTxA ds = true → PyData.showableAll ds = true → ((PyData.shownAll ds).map fun t => t.length + 2).sum ≤ szA ds
  | [], _, _ => Nat.zero_le _
  | d :: ds, h1, h2 => by
    have g1 : noTx d = true ∧ noTxA ds = true := Bool.and_eq_true_iff.mp h1
    have g2 : d.showable = true ∧ PyData.showableAll ds = true := Bool.and_eq_true_iff.mp h2
    have a := shown_le d g1.1 g2.1
    have b := shownAll_le ds g1.2 g2.2
    show (d.shown.length + 2) + ((PyData.shownAll ds).map fun t => t.length + 2).sum ≤ szD d + 2 + szA ds
    omega
end
theorem szA_le {n : Nat} : ∀ ds : List PyData, (∀ d ∈ ds, szD d ≤ n) → szA ds ≤ ds.length * (n + 2)
  | [], _ => Nat.zero_le _
  | d :: ds, h => by
    have h1 := h d (.head _)
    have h2 := szA_le ds fun x hx => h x (.tail _ hx)
    show szD d + 2 + szA ds ≤ _
    rw [List.length_cons, Nat.add_mul]
    omega
theorem noTxA_of : ∀ {ds : List PyData}, (∀ d ∈ ds, noTx d = true) → noTxA ds = true
  | [], _ => rfl
  | d :: ds, h => by
    show (noTx d && noTxA ds) = true
    rw [h d (.head _), noTxA_of fun x hx => h x (.tail _ hx)]
    rfl
theorem showableAll_of : ∀ {ds : List PyData}, (∀ d ∈ ds, d.showable = true) → PyData.showableAll ds = true
  | [], _ => rfl
  | d :: ds, h => by
    show (d.showable && PyData.showableAll ds) = true
    rw [h d (.head _), showableAll_of fun x hx => h x (.tail _ hx)]
    rfl
theorem canLayAll_of : ∀ {ds : List PyData}, (∀ d ∈ ds, d.canLay0 = true) → PyData.canLayAll0 ds = true
  | [], _ => rfl
  | d :: ds, h => by
    show (d.canLay0 && PyData.canLayAll0 ds) = true
    rw [h d (.head _), canLayAll_of fun x hx => h x (.tail _ hx)]
    rfl
theorem depthAll_of {n : Nat} : ∀ {ds : List PyData}, (∀ d ∈ ds, d.depth ≤ n) → PyData.depthAll ds ≤ n
  | [], _ => Nat.zero_le _
  | d :: ds, h => by
    have h1 := h d (.head _)
    have h2 := depthAll_of fun x hx => h x (.tail _ hx)
    show max d.depth (PyData.depthAll ds) ≤ n
    omega
theorem shaped_of {d : PyData} (h1 : d.canLay0 = true) (h2 : d.depth ≤ 64) : SeqAt.shaped d = true := by
  show (d.canLay0 && decide (d.depth ≤ 64)) = true
  rw [h1, decide_eq_true h2]
  rfl
end L2
/-! powers of integers of several hundred bits -/
namespace L2
open PySem PySem.Spec PyProof.Rows
def CPowW (i j : Int) : Prop := 0 ≤ j ∧ j ≤ 10 ∧ i.natAbs < 2 ^ 255
theorem op_powW {X : Cx} : OpR X (binaryOp .Pow) (rI CPowW fun i j => .int (i ^ j.toNat)) := opI fun i j _ _ _ _ _ hc q => pow_int hc.1 (by
  obtain ⟨h0, h1, h2⟩ := hc
  have h3 : Builtin.Int.intBits i ≤ 255 := intBits_le_iff.mpr h2
  have h4 : (Builtin.Int.intBits i : Int) * j ≤ 255 * 10 := Int.mul_le_mul (by omega) h1 h0 (by decide)
  exact Int.le_trans h4 (by decide)) q
end L2
/-! == and != by an own __eq__, whatever it answers -/
namespace L2
open PySem PySem.Spec PyProof.Rows
section
variable {K : PySem.W.Frag} {prog : Program} {w : World} {A : Around} {E : Value → Shared → Prop} {s : Shared} {x C L f : Addr} {h₀ : Heap} {m : Str → Option Value} {ox : Obj} {od : Option Obj} {b tb : Value}
open PySem.W in
theorem ifBound_ne {M : Model} {args : List Value} {Q : Option Value → Shared → Prop} (X : K.In s.heap) (I : InstAt s.heap x ox C od) (hs : findIn K (.ref C) "__ne__" = some (some (.builtin "object.__ne__")))
    (h : wpAny M A (call (.builtin "object.__ne__") (.ref x :: args)) (fun v => Q (some v)) E s) : wpAny M A (callSpecialIfBound? (.ref x) "__ne__" args) Q E s := by
  simp only [callSpecialIfBound?, bindSpecialIfBound?]
  refine wpAny_holding (wpAny_bind (wpAny_bind (wpAny_bind (I.type.here ((looks_findIn X hs).here ?_)))))
  refine wpAny_bind (wpAny_askSetting (wpAny_ite ?_))
  have fin : wpAny M A (call (.builtin "object.__ne__") ([.ref x] ++ args) >>= fun v => pure (some v)) Q E s := wpAny_bind (wpAny_mono h (fun v s' h' => wpAny_pure h') fun _ _ h' => h')
  split
  · exact wpAny_bind (wpAny_of_eq (F.cmp_object.ne.bind _) (wpAny_pure (by exact fin)))
  · exact wpAny_tryCatch (wpAny_bind (wpAny_of_eq (F.cmp_object.ne.bind _) (wpAny_pure (by exact fin))))
open PySem.W in
theorem objNe_own {Q : Fin → Shared → Prop} (hu : A.units < cLine) (X : K.In s.heap) (I : InstAt s.heap x ox C od) (hs : findIn K (.ref C) "__eq__" = some (some (.ref f))) (hf : isFn K (.ref f) = true)
    (h : wpAny (model prog w) A (call (.ref f) [.ref x, b]) (fun v s' => ∃ r, v = .bool r ∧ Q (.done (.ret (.bool (!r)))) s') E s) :
    wpAny (model prog w) A (Builtin.«object.__ne__» ⟨[.ref x, b], []⟩) Q E s := by
  have sp : ∀ {Q' : Option Value → Shared → Prop}, (∀ r s', Q (.done (.ret (.bool (!r)))) s' → Q' (some (.bool r)) s') → wpAny (model prog w) A (callSpecialIfBound? (.ref x) "__eq__" [b]) Q' E s :=
    fun hq => ifBound_K X I hs hf (wpAny_mono h (fun v s' q => by obtain ⟨r, rfl, q⟩ := q; exact hq r s' q) fun _ _ e => e)
  unfold Builtin.«object.__ne__»
  repeat (first | with_reducible refine wpAny_cRoomFor hu ?_ | with_reducible refine sp (fun r s' q => ?_) | wp_step)
  exact q
open PySem.W in
theorem ne_K {Q : Value → Shared → Prop} (hu : A.units + 1 < cLine) (X : K.In s.heap) (I : InstAt s.heap x ox C od) (hb : Looks (model prog w) s.heap (typeOf b) tb) (hn : notFirst K C tb = true) (hm : mroIn K C (.type "object") = some true)
    (hne : findIn K (.ref C) "__ne__" = some (some (.builtin "object.__ne__"))) (hs : findIn K (.ref C) "__eq__" = some (some (.ref f))) (hf : isFn K (.ref f) = true)
    (h : wpAny (model prog w) A.in1 (call (.ref f) [.ref x, b]) (fun v s' => ∃ r, v = .bool r ∧ Q (.bool (!r)) s') E s) : wpAny (model prog w) A (richCompare .NotEq (.ref x) b) Q E s := by
  have hu0 : A.units < cLine := Nat.lt_of_succ_lt hu
  have hcall : wpAny (model prog w) A (call (.builtin "object.__ne__") [.ref x, b]) (fun v s' => ∃ r, v = .bool r ∧ Q (.bool r) s') E s :=
    wpAny_call (codeAny_call_builtin F.cmp_object.ne.plain F.cmpEntry_ne (PySem.W.check_slot F.cmpKind_ne F.cmpSplit_ne (I.type.andThen (PySem.W.looks_mroIn X hm)) (F.cmpArgs_ne _ _)
      (objNe_own (A := A.in1) hu X I hs hf (wpAny_mono h (fun v s' q => by obtain ⟨r, rfl, q⟩ := q; exact ⟨r, rfl, _, rfl, q⟩) fun _ _ e => e))))
  have one : wpAny (model prog w) A (tryCompare (.ref x) "__ne__" b) (fun r s' => ∃ v, r = some (.bool v) ∧ Q (.bool v) s') E s := by
    unfold tryCompare
    refine wpAny_bind (ifBound_ne X I hne (wpAny_mono hcall (fun v s' hv => ?_) fun _ _ e => e))
    obtain ⟨r, rfl, q⟩ := hv
    exact wpAny_pure ⟨_, rfl, q⟩
  unfold richCompare
  simp only [oneThing_ref, cmpInfo_NotEq]
  refine wpAny_holding (wpAny_bind (wpAny_cRoomFor hu0 ?_))
  refine wpAny_bind (I.type.here (wpAny_bind (hb.here ?_)))
  split
  · rename_i q
    have e : subIn K tb (.ref C) = some false := by
      rcases Bool.or_eq_true_iff.mp hn with e | e
      · rw [beq_iff_eq.mp e] at q; simp at q
      · exact beq_iff_eq.mp e
    refine wpAny_bind ((looks_subIn X e).here ?_)
    simp only [Bool.false_eq_true, if_false]
    refine wpAny_bind (wpAny_mono one (fun r s' z => ?_) fun _ _ e => e)
    obtain ⟨v, rfl, hq⟩ := z
    exact wpAny_pure hq
  · refine wpAny_bind (wpAny_pure ?_)
    simp only [Bool.false_eq_true, if_false]
    refine wpAny_bind (wpAny_mono one (fun r s' z => ?_) fun _ _ e => e)
    obtain ⟨v, rfl, hq⟩ := z
    exact wpAny_pure hq
end
theorem notFirst_of {K : PySem.W.Frag} {C : Addr} {t : Value} (h : PySem.W.kitOne K t (.ref C) = some false) : PySem.W.notFirst K C t = true := by
  unfold PySem.W.kitOne at h
  split at h
  · cases h
  · unfold PySem.W.kitCls at h
    dsimp only at h
    split at h
    · unfold PySem.W.notFirst
      rw [h]
      simp
    · cases h
/-- the right side of a comparison by C's own __eq__: an instance of C, or of no subclass -/
def RightEq (K : PySem.W.Frag) (C : Addr) (H : Hp) (y : V) : Prop := (∃ q dq gs, y = .ref q ∧ H q = some (.ins C dq gs)) ∨ ∃ t, TyX K H y t ∧ PySem.W.kitOne K t (.ref C) = some false
section
variable {X : Cx} {n : Nat}
theorem right_looks {C : Addr} {pins : List (Addr × Obj)} {σ : St} {H : Hp} {s : Shared} {y : V} {u : Value} (I : Inv X pins σ H s) (ry : RelV y u) (h : RightEq X.K C H y) : ∃ tb, PySem.W.Looks (model X.prog X.w) s.heap (typeOf u) tb ∧ PySem.W.notFirst X.K C tb = true := by
  rcases h with ⟨q, dq, gs, rfl, hq⟩ | ⟨t, ty, k⟩
  · cases ry
    have lq := (ins_get I.hok hq).choose_spec.1
    obtain ⟨_, at_q, _⟩ := lq.look
    exact ⟨_, at_q.type, by unfold PySem.W.notFirst; rw [beq_self_eq_true, Bool.true_or]⟩
  · obtain ⟨P, Z, p, _⟩ := kit_of I ry ty
    exact ⟨t, Z.ty _ _ I.kIn p, notFirst_of k⟩
def rEqA (K : PySem.W.Frag) (C : Addr) (sp : Sp) (E : XK) : R2 := fun x y H Q => ∃ p dp fs, x = .ref p ∧ H p = some (.ins C dp fs) ∧ RightEq K C H y ∧ sp [.ref p, y] H (fun v H' => ∃ r, v = .bl r ∧ Q (.bl r) H') E
def rNeA (K : PySem.W.Frag) (C : Addr) (sp : Sp) (E : XK) : R2 := fun x y H Q => ∃ p dp fs, x = .ref p ∧ H p = some (.ins C dp fs) ∧ RightEq K C H y ∧ sp [.ref p, y] H (fun v H' => ∃ r, v = .bl r ∧ Q (.bl (!r)) H') E
theorem op_eqA {CX : CXT} {C : Addr} {ps : List Str} {sp : Sp} {E : XK} {j : Nat} (D : DMeth X.prog X.w X.K X.mg X.base CX n C "__eq__" ps sp) (room : Room j X.A) (hj : n ≤ j) (hx : Passes CX X E) :
    OpR X (compareOp .Eq) (rEqA X.K C sp E) := by
  obtain ⟨g, fd, M, F, bd⟩ := D.ex
  rintro pins s σ H x y v u Q I rx ry ⟨p, dp, fs, rfl, hp, hy, told⟩
  cases rx
  have lp := (ins_get I.hok hp).choose_spec.1
  obtain ⟨_, at_p, _⟩ := lp.look
  obtain ⟨tb, hb, hn⟩ := right_looks I ry hy
  obtain ⟨_, fr⟩ := I.fr
  have cnt : ([Value.ref p, u] ++ []).length = ps.length := by
    have := F.len _ _ _ _ told
    simpa using this
  have two : Vals [.ref p, y] [.ref p, u] := .cons rfl (.cons ry .nil)
  have bnd := bd s [.ref p, u] I.kIn cnt
  rw [List.append_nil] at bnd
  show wpAny (model X.prog X.w) X.A (richCompare .Eq (.ref p) u) (EP X pins σ Q) X.xe s
  refine PySem.W.cmp_K (tb := tb) (room.mono hj).units0 fr I.ok.mod.kin at_p hb hn M.at_ M.fn ?_
  have z := F.run X.A X.stack s H _ _ _ _ E (room.mono hj) I.env0 bnd two told
  refine wpAny_call (codeAny_mono z ?_)
  rintro (e | fl) s' back
  · exact hx pins σ H s e s' I back
  cases fl <;> first | exact back.elim | skip
  obtain ⟨_, H', I', rel, r, rfl, k⟩ := I.after back
  cases rel
  exact ⟨.bl r, H', I', rfl, k⟩
theorem op_neA {CX : CXT} {C : Addr} {ps : List Str} {sp : Sp} {E : XK} {j : Nat} (D : DMeth X.prog X.w X.K X.mg X.base CX n C "__eq__" ps sp) (room : Room j X.A) (hj : n + 1 ≤ j) (hx : Passes CX X E)
    (hne : PySem.W.findIn X.K (.ref C) "__ne__" = some (some (.builtin "object.__ne__"))) (hm : PySem.W.mroIn X.K C (.type "object") = some true) : OpR X (compareOp .NotEq) (rNeA X.K C sp E) := by
  obtain ⟨g, fd, M, F, bd⟩ := D.ex
  rintro pins s σ H x y v u Q I rx ry ⟨p, dp, fs, rfl, hp, hy, told⟩
  cases rx
  have lp := (ins_get I.hok hp).choose_spec.1
  obtain ⟨_, at_p, _⟩ := lp.look
  obtain ⟨tb, hb, hn⟩ := right_looks I ry hy
  obtain ⟨_, fr⟩ := I.fr
  have room1 : Room n X.A.in1 := (room.mono hj).in1
  have cnt : ([Value.ref p, u] ++ []).length = ps.length := by
    have := F.len _ _ _ _ told
    simpa using this
  have two : Vals [.ref p, y] [.ref p, u] := .cons rfl (.cons ry .nil)
  have bnd := bd s [.ref p, u] I.kIn cnt
  rw [List.append_nil] at bnd
  show wpAny (model X.prog X.w) X.A (richCompare .NotEq (.ref p) u) (EP X pins σ Q) X.xe s
  refine ne_K (tb := tb) (by have := (room.mono hj).units; omega) I.kIn at_p hb hn hm hne M.at_ M.fn ?_
  have e0 : Env0 X.prog X.w X.K X.mg X.base X.A.in1 X.stack s H := by
    have e := I.env0
    exact ⟨by exact e.frames, e.mod, e.bs, e.bsz, e.funs, e.frf, e.hok, e.bare⟩
  have z := F.run X.A.in1 X.stack s H _ _ _ _ E room1 e0 bnd two told
  refine wpAny_call (codeAny_mono z ?_)
  rintro (e | fl) s' back
  · exact hx pins σ H s e s' I back
  cases fl <;> first | exact back.elim | skip
  obtain ⟨_, H', I', rel, r, rfl, k⟩ := I.after back
  cases rel
  exact ⟨r, rfl, .bl (!r), H', I', rfl, k⟩
end
end L2
/-! A call with a part of the heap: lists that the callee does not see stand. -/
namespace L2
open PySem PySem.Spec PyProof.Rows
/-- what stands behind a call that saw H0 alone and left H1 -/
def back (H H0 H1 : Hp) : Hp := fun a => match H1 a with
  | some o => some o
  | none => match H0 a with
    | some _ => none
    | none => H a
/-- H0 is H without some lists -/
structure Drops (H0 H : Hp) : Prop where
  s : Same H0 H
  l : ∀ a o, H a = some o → H0 a = none → ∃ xs, o = .lst xs
theorem back_same {H H0 H1 : Hp} : Same H1 (back H H0 H1) := fun a o e => by
  unfold back
  rw [e]
theorem back_old {H H0 H1 : Hp} {a : Addr} {o : HO} (h : H a = some o) (h0 : H0 a = none) (h1 : H1 a = none) : back H H0 H1 a = some o := by
  unfold back
  rw [h1, h0]
  exact h
theorem back_some {H H0 H1 : Hp} {a : Addr} {o : HO} (h : back H H0 H1 a = some o) : H1 a = some o ∨ (H1 a = none ∧ H0 a = none ∧ H a = some o) := by
  unfold back at h
  split at h
  · rename_i u e
    exact .inl (by rw [e]; exact h)
  · rename_i e
    split at h
    · cases h
    · rename_i e0
      exact .inr ⟨e, e0, h⟩
def spFr (sp : Sp) : Sp := fun vs H Q E => ∃ H0, Drops H0 H ∧ sp vs H0 (fun v H1 => (∀ a o, H a = some o → H0 a = none → H1 a = none) → Q v (back H H0 H1)) E
section
variable {P : Program} {w : World} {K : PySem.W.Frag} {mg : Str → Option Value} {base : Heap} {k : Nat} {f C : Addr} {fd : FuncData} {ps : List Str} {sp : Sp} {x m : Str}
theorem FnOk.frame (F : FnOk P w K mg base CX0 k f fd ps sp) : FnOk P w K mg base CX0 k f fd ps (spFr sp) := by
  refine ⟨fun vs H Q E h => ?_, fun A outer s H args us vs Q E hr he hb hv h => ?_⟩
  · obtain ⟨H0, _, h⟩ := h
    exact F.len _ _ _ _ h
  · obtain ⟨H0, D, h⟩ := h
    have none0 : ∀ a, H a = none → H0 a = none := fun a n => by
      cases e : H0 a with
      | none => rfl
      | some o => rw [D.s _ _ e] at n; cases n
    have keep0 : ∀ a o, H a = some o → (∀ xs, o ≠ .lst xs) → H0 a = some o := fun a o e hn => by
      cases e0 : H0 a with
      | some u =>
        have := D.s _ _ e0
        rw [e] at this
        exact this.symm
      | none =>
        obtain ⟨xs, r⟩ := D.l a o e e0
        exact absurd r (hn xs)
    have hok0 : HOk P w H0 s.heap := fun a o e => (he.hok a o (D.s a o e)).stay (fun b u _ q => q) (fun b q => keep0 b _ q fun xs z => by cases z) fun b xs q => keep0 b _ q fun ys z => by cases z
    have e0 : Env0 P w K mg base A outer s H0 := ⟨he.frames, he.mod, fun b o e => ⟨(he.bs b o e).1, none0 b (he.bs b o e).2⟩, he.bsz, he.funs, fun b hb => none0 b (he.frf b hb), hok0, he.bare⟩
    refine codeAny_mono (F.run A outer s H0 args us vs _ E hr e0 hb hv h) fun r s' q => ?_
    cases r with
    | error e => exact q
    | ok fl =>
      cases fl with
      | next => exact q
      | brk => exact q
      | cont => exact q
      | ret u =>
        obtain ⟨v, H1, os, bare, un, hok, rel, q⟩ := q
        have drop : ∀ a o, H a = some o → H0 a = none → H1 a = none ∧ ∀ ob, s.heap.get? a = some ob → s'.heap.get? a = some ob := fun a o e z => by
          have nf : a ∉ frs outer := fun hm => by
            have := he.frf a hm
            rw [e] at this
            cases this
          have hlt := (he.hok a o e).lt
          obtain ⟨ob, hob⟩ : ∃ ob, s.heap.get? a = some ob := by
            obtain ⟨xs, rfl⟩ := D.l a o e z
            obtain ⟨_, its, n, _, r⟩ := (show ObjOk P w H s.heap a (.lst xs) from he.hok a _ e)
            exact ⟨_, r⟩
          exact ⟨un.free a ob hob z (fun q => nomatch q), fun ob' h' => un.keep a ob' h' z nf fun q => nomatch q⟩
        refine ⟨v, back H H0 H1, os, bare, ⟨fun b o e n => un.keep b o e (none0 b n), fun b o e n => un.slot b o e (none0 b n), fun b o e n hx => ?_, un.there, fun b xs e => ?_, fun b o u e => ?_, fun b ps e => ?_⟩, fun a o e => ?_, rel, q fun a o e z => (drop a o e z).1⟩
        · have n1 := un.free b o e (none0 b n) hx
          unfold back
          rw [n1, none0 b n]
          exact n
        · exact back_same _ _ (un.tups b xs (keep0 b _ e fun ys z => by cases z))
        · exact back_same _ _ (un.frzs b o u (keep0 b _ e fun ys z => by cases z))
        · obtain ⟨more, z⟩ := un.tbls b ps (keep0 b _ e fun ys z => by cases z)
          exact ⟨more, back_same _ _ z⟩
        · rcases back_some e with e1 | ⟨n1, n0, e1⟩
          · exact (hok a o e1).stay (fun b u _ q => q) (fun b q => back_same _ _ q) fun b xs q => back_same _ _ q
          · obtain ⟨xs, rfl⟩ := D.l a o e1 n0
            obtain ⟨z, its, n, r, g⟩ := (show ObjOk P w H s.heap a (.lst xs) from he.hok a _ e1)
            exact ⟨z, its, n, r, (drop a _ e1 n0).2 _ g⟩
theorem DMeth.frame (D : DMeth P w K mg base CX0 k C m ps sp) : DMeth P w K mg base CX0 k C m ps (spFr sp) := by
  obtain ⟨c, f, fd, M, F, b⟩ := D
  exact ⟨c, f, fd, M, F.frame, b⟩
end
end L2
/-! Cells that stand in a row. -/
namespace L2
open PySem PySem.Spec PyProof.Rows
def cF (as : List Addr) (f : Nat → HO) : List Cell := as.mapIdx fun k a => (a, f k)
theorem cF_get {as : List Addr} {f : Nat → HO} {k : Nat} {a : Addr} (h : as[k]? = some a) : (cF as f)[k]? = some (a, f k) := by
  unfold cF
  rw [List.getElem?_mapIdx, h]
  rfl
theorem cF_len {as : List Addr} {f : Nat → HO} : (cF as f).length = as.length := by
  unfold cF
  rw [List.length_mapIdx]
theorem cF_set {as : List Addr} {f : Nat → HO} {k : Nat} {a : Addr} {o : HO} (h : as[k]? = some a) : (cF as f).set k (a, o) = cF as fun j => if j = k then o else f j := by
  apply List.ext_getElem?
  intro j
  unfold cF
  rw [List.getElem?_set, List.getElem?_mapIdx, List.getElem?_mapIdx, List.length_mapIdx]
  by_cases e : k = j
  · subst e
    have hl : k < as.length := by
      rw [List.getElem?_eq_some_iff] at h
      exact h.1
    simp only [hl, if_true, h, Option.map_some]
  · rw [if_neg e]
    cases as[j]? with
    | none => rfl
    | some b =>
      simp only [Option.map_some, if_neg (show ¬ j = k from fun q => e q.symm)]
theorem cF_congr {as : List Addr} {f g : Nat → HO} (h : ∀ k, k < as.length → f k = g k) : cF as f = cF as g := by
  apply List.ext_getElem?
  intro j
  unfold cF
  rw [List.getElem?_mapIdx, List.getElem?_mapIdx]
  cases e : as[j]? with
  | none => rfl
  | some b =>
    have hl : j < as.length := by
      rw [List.getElem?_eq_some_iff] at e
      exact e.1
    simp only [Option.map_some, h j hl]
theorem cF_snoc {as : List Addr} {f : Nat → HO} {p : Addr} : cF (as ++ [p]) f = cF as f ++ [(p, f as.length)] := by
  unfold cF
  rw [List.mapIdx_append]
  simp
/-- the i-th cell is changed -/
theorem own_setI {H0 H H1 : Hp} {cs : List Cell} {i : Nat} {a : Addr} {o o' : HO} (W : Own H0 cs H) (hi : cs[i]? = some (a, o)) (e : upd H a o' = H1) : Own H0 (cs.set i (a, o')) H1 := by
  subst e
  have ma := List.mem_of_getElem? hi
  have na := W.n _ ma
  have hl : i < cs.length := by
    rw [List.getElem?_eq_some_iff] at hi
    exact hi.1
  have key : ∀ (j : Nat) (c : Cell), cs[j]? = some c → c.1 = a → j = i := fun j c hj q => by
    have hjl : j < cs.length := by
      rw [List.getElem?_eq_some_iff] at hj
      exact hj.1
    have nd := W.d
    have e1 : (cs.map (·.1))[j]? = some a := by rw [List.getElem?_map, hj]; exact congrArg some q
    have e2 : (cs.map (·.1))[i]? = some a := by rw [List.getElem?_map, hi]; rfl
    exact (List.getElem?_inj (by rw [List.length_map]; exact hjl) nd).mp (e1.trans e2.symm)
  have fsts : (cs.set i (a, o')).map (·.1) = cs.map (·.1) := by
    apply List.ext_getElem?
    intro j
    rw [List.getElem?_map, List.getElem?_set, List.getElem?_map]
    by_cases q : i = j
    · subst q
      rw [if_pos rfl, if_pos hl, hi]
      rfl
    · rw [if_neg q]
  have memset : ∀ c ∈ cs.set i (a, o'), c = (a, o') ∨ (c ∈ cs ∧ c.1 ≠ a) := fun c hc => by
    obtain ⟨j, hj⟩ := List.mem_iff_getElem?.mp hc
    rw [List.getElem?_set] at hj
    by_cases q : i = j
    · subst q
      rw [if_pos rfl, if_pos hl] at hj
      exact .inl (Option.some.inj hj).symm
    · rw [if_neg q] at hj
      exact .inr ⟨List.mem_of_getElem? hj, fun z => q (key j c hj z).symm⟩
  refine ⟨fun y u z => ?_, fun c hc => ?_, fun c hc => ?_, by rw [fsts]; exact W.d⟩
  · rw [upd_ne (ne_of_none z na)]
    exact W.s _ _ z
  · rcases memset c hc with z | ⟨z, n⟩
    · rw [z]
      exact upd_same
    · rw [upd_ne n]
      exact W.h c z
  · rcases memset c hc with z | ⟨z, n⟩
    · rw [z]
      exact na
    · exact W.n c z
theorem own_put {B H H1 : Hp} {cs : List Cell} {p : Addr} {o : HO} (W : Own B cs H) (n : H p = none) (e : upd H p o = H1) : ∃ B1, Same B B1 ∧ B1 p = some o ∧ Own B1 cs H1 := (W.new n e).fix
/-- one of the row, behind one other cell -/
theorem own_cF {B H H1 : Hp} {c0 : Cell} {as : List Addr} {f : Nat → HO} {ds : List Cell} {k : Nat} {a : Addr} {o : HO} (W : Own B (c0 :: (cF as f ++ ds)) H) (h : as[k]? = some a) (e : upd H a o = H1) : Own B (c0 :: (cF as (fun j => if j = k then o else f j) ++ ds)) H1 := by
  have hk : k < as.length := (List.getElem?_eq_some_iff.mp h).1
  have W1 := own_setI (i := k + 1) W (by rw [List.getElem?_cons_succ, List.getElem?_append_left (by rw [cF_len]; exact hk)]; exact cF_get h) e
  rw [List.set_cons_succ, List.set_append_left _ _ (by rw [cF_len]; exact hk), cF_set h] at W1
  exact W1
theorem own_cFget {B H : Hp} {c0 : Cell} {as : List Addr} {f : Nat → HO} {ds : List Cell} {k : Nat} {a : Addr} (W : Own B (c0 :: (cF as f ++ ds)) H) (h : as[k]? = some a) : H a = some (f k) :=
  W.h _ (List.mem_cons_of_mem _ (List.mem_append_left _ (List.mem_of_getElem? (cF_get h))))
end L2
/-! how many bits of a natural are 1: f"{n:b}".count("1") -/
namespace L2
open PySem PySem.Spec PyProof.Rows PySem.Builtin PySem.Builtin.Str PySem.StrLaws
theorem occ_one (s : Str) (c limit : Nat) : ∀ (n k : Nat) (st : Array Nat × Nat), st.snd ≤ k → st.fst.size + n ≤ limit →
    (forIn (List.range' k n) st (occBody s ⟨#[c]⟩ s.length limit)).run.fst.size = st.fst.size + ((List.range' k n).filter fun i => decide (s.cps.toList[i]? = some c)).length
  | 0, k, st, _, _ => rfl
  | n + 1, k, st, h1, h2 => by
    rw [List.range'_succ, List.forIn_cons]
    have e := subAt_one s c k
    unfold occBody
    by_cases hc : s.cps.toList[k]? = some c
    · rw [if_pos ⟨⟨⟨by omega, h1⟩, (e.mpr hc).1⟩, (e.mpr hc).2⟩]
      have ih := occ_one s c limit n (k + 1) (st.fst.push k, k + (⟨#[c]⟩ : Str).length) (Nat.le_refl _) (by rw [Array.size_push]; omega)
      rw [List.filter_cons, if_pos (decide_eq_true hc), List.length_cons]
      rw [Array.size_push] at ih
      refine Eq.trans ih ?_
      omega
    · rw [if_neg (fun h => hc (e.mp ⟨h.1.2, h.2⟩))]
      have ih := occ_one s c limit n (k + 1) (st.fst, st.snd) (by show st.snd ≤ k + 1; omega) (by show st.fst.size + n ≤ limit; omega)
      rw [List.filter_cons, if_neg (by rw [decide_eq_false hc]; exact Bool.false_ne_true)]
      exact ih
theorem count_places (c : Nat) : ∀ l : List Nat, ((List.range (l.length + 1)).filter fun i => decide (l[i]? = some c)).length = l.count c
  | [] => rfl
  | a :: l => by
    have ih := count_places c l
    rw [List.length_cons, List.range_succ_eq_map, List.filter_cons, List.filter_map, List.count_cons]
    have e : ((fun i => decide ((a :: l)[i]? = some c)) ∘ Nat.succ) = fun i => decide (l[i]? = some c) := by
      funext i
      show decide ((a :: l)[i + 1]? = some c) = _
      rw [List.getElem?_cons_succ]
    rw [e]
    by_cases h : a = c
    · subst h
      rw [if_pos (decide_eq_true (by rfl)), List.length_cons, List.length_map, ih, if_pos (by simp)]
    · rw [if_neg (by simp [h]), List.length_map, ih, if_neg (by simp [h])]
      rfl
theorem count_one (s : Str) (c : Nat) : Txt.count s ⟨#[c]⟩ = (s.cps.toList.count c : Nat) := by
  unfold Txt.count
  congr 1
  rw [occ_eq, Array.length_toList, occ_one s c (s.length + 1) (s.length + 1 - 0) 0 (#[], 0) (Nat.le_refl _) (by show 0 + (s.length + 1 - 0) ≤ _; omega)]
  rw [show ((#[] : Array Nat), 0).fst.size = 0 from rfl, Nat.zero_add, Nat.sub_zero, ← List.range_eq_range']
  have := count_places c s.cps.toList
  rw [Array.length_toList] at this
  exact this
/-- how many of the first k bits are 1 -/
def bitsN (k m : Nat) : Nat := ((List.range k).filter fun j => m.testBit j).length
theorem bitsN_succ (k m : Nat) : bitsN (k + 1) m = m % 2 + bitsN k (m / 2) := by
  unfold bitsN
  rw [List.range_succ_eq_map, List.filter_cons, List.filter_map]
  have e : ((fun j => m.testBit j) ∘ Nat.succ) = fun j => (m / 2).testBit j := by
    funext j
    show m.testBit (j + 1) = _
    rw [Nat.testBit_add_one]
  rw [e]
  rcases Nat.mod_two_eq_zero_or_one m with h | h
  · rw [if_neg (by rw [Nat.testBit_zero, h]; decide), List.length_map]
    omega
  · rw [if_pos (by rw [Nat.testBit_zero, h]; decide), List.length_cons, List.length_map]
    omega
theorem bitsN_zero : ∀ k, bitsN k 0 = 0
  | 0 => rfl
  | k + 1 => by rw [bitsN_succ, bitsN_zero k]
theorem digits2 : ∀ (fuel n k : Nat) (ds : List Char), n < fuel → n < 2 ^ k → ((Nat.toDigitsCore 2 fuel n ds).map Char.toNat).count 49 = bitsN k n + (ds.map Char.toNat).count 49
  | 0, n, k, ds, h, _ => by omega
  | fuel + 1, n, k, ds, h, hk => by
    have step : ∀ (es : List Char), (((Nat.digitChar (n % 2)) :: es).map Char.toNat).count 49 = n % 2 + (es.map Char.toNat).count 49 := fun es => by
      rw [List.map_cons, List.count_cons]
      rcases Nat.mod_two_eq_zero_or_one n with h | h
      · rw [h]
        have : ((Nat.digitChar 0).toNat == 49) = false := by decide
        rw [this]
        simp
      · rw [h]
        have : ((Nat.digitChar 1).toNat == 49) = true := by decide
        rw [this]
        simp
        omega
    unfold Nat.toDigitsCore
    simp only
    cases k with
    | zero =>
      have : n = 0 := by omega
      subst this
      rw [if_pos (by decide), step]
      rfl
    | succ k =>
      rw [bitsN_succ]
      by_cases h0 : n / 2 = 0
      · rw [if_pos h0, step, h0, bitsN_zero]
        rfl
      · rw [if_neg h0, digits2 fuel (n / 2) k _ (by omega) (by rw [Nat.pow_succ] at hk; omega), step]
        omega
/-- a natural in binary digits -/
def digT (n : Nat) : Str := ⟨((Nat.toDigits 2 n).map Char.toNat).toArray⟩
theorem digT_count {n k : Nat} (h : n < 2 ^ k) : Txt.count (digT n) "1" = (bitsN k n : Nat) := by
  have e := count_one (digT n) 49
  have e2 : ((digT n).cps.toList.count 49) = bitsN k n := by
    show ((((Nat.toDigits 2 n).map Char.toNat).toArray).toList).count 49 = _
    rw [List.toList_toArray]
    have := digits2 (n + 1) n k [] (Nat.lt_succ_self _) h
    rw [List.map_nil, List.count_nil, Nat.add_zero] at this
    exact this
  rw [e2] at e
  exact e
theorem digT_len {n k : Nat} (h : n < 2 ^ k) : (digT n).length ≤ k + 1 := by
  have key : ∀ (fuel n k : Nat) (ds : List Char), n < 2 ^ k → (Nat.toDigitsCore 2 fuel n ds).length ≤ k + 1 + ds.length := by
    intro fuel
    induction fuel with
    | zero => intro n k ds _; show ds.length ≤ _; omega
    | succ fuel ih =>
      intro n k ds hk
      unfold Nat.toDigitsCore
      simp only
      by_cases h0 : n / 2 = 0
      · rw [if_pos h0, List.length_cons]
        omega
      · rw [if_neg h0]
        cases k with
        | zero => omega
        | succ k =>
          have := ih (n / 2) k (Nat.digitChar (n % 2) :: ds) (by rw [Nat.pow_succ] at hk; omega)
          rw [List.length_cons] at this
          omega
  show (((Nat.toDigits 2 n).map Char.toNat).toArray).size ≤ _
  rw [List.size_toArray, List.length_map]
  have := key (n + 1) n k [] h
  exact this
end L2
namespace L2
open PySem PySem.Spec PyProof.Rows PySem.Builtin PySem.Builtin.Str PySem.StrLaws
section
variable {prog : Program} {w : World} {A : Around} {E : Value → Shared → Prop} {s : Shared}
def fB : Float.FormatSpec := ⟨32, 62, none, false, false, none, none, none, some 98⟩
theorem hpB : Float.parseFormatSpec ("b" : Str).cps.toList "int" 62 = .ok fB := by kernel_rfl
theorem slot_fmt : ("b" : Str).length ≤ sizeLine := by decide +kernel
theorem meets_fmt_b {n : Nat} {t u : Tok} (hn : n < 2 ^ 1000) : Meets (Builtin.«int.__format__» ⟨[.int (n : Int) t, .str ("b" : Str) u], []⟩) (fun _ R s => ∀ t' k, R (.ok (.ret (.str (digT n) t'))) { s with toks := k }) := by
  apply PySem.W.KPc.meets_of
  intro prog w A s Q E hR
  have hne : (("b" : Str).length == 0) = false := by decide +kernel
  have hasc : ((("b" : Str).cps.toList.drop 1).any (· ≥ 128) || (("b" : Str).cps.getD 0 0 ≥ 128 && !([60, 62, 61, 94] : List Nat).contains (("b" : Str).cps.getD 1 0))) = false := by decide +kernel
  have hp := hpB
  have hlen : (digT n).length ≤ sizeLine := by
    have := digT_len hn
    have big : 1001 ≤ sizeLine := by rw [sizeLine_eq]; decide
    omega
  obtain ⟨f, hf⟩ : ∃ f, f = fB := ⟨_, rfl⟩
  have hty : f.type.getD (if ("b" : Str).cps.back? == some 0 then 0 else 100) = 98 := by rw [hf]; rfl
  have hpr : f.precision = none := by rw [hf]; rfl
  have hz : f.noNeg0 = false := by rw [hf]; rfl
  have hal : f.alt = false := by rw [hf]; rfl
  have hw : f.width = none := by rw [hf]; rfl
  have hgr : f.grouping = none := by rw [hf]; rfl
  have hsg : f.sign = none := by rw [hf]; rfl
  have hfi : f.fill = 32 := by rw [hf]; rfl
  have haa : f.align = 62 := by rw [hf]; rfl
  rw [← hf] at hp
  clear hf
  generalize ("b" : Str) = sp at hne hasc hp hty
  unfold Builtin.«int.__format__»
  simp only [selfAndOne, noKeywords, Int.intOfSelf, asInt?, asStr?, List.isEmpty_nil, if_true, pure_bind, bind_pure, bind_assoc, hne, hasc, Bool.false_eq_true, if_false,
    show (Value.str sp u == Value.none) = false from rfl]
  refine wpAny_bind (wpAny_typeNameOf (T := "str") (typeIs_str _ _ _) (by decide) fun _ => ?_)
  refine wpAny_bind (wpAny_typeNameOfCut_int ?_)
  simp only [hp, hty]
  rw [if_pos (by decide)]
  show wpAny _ _ (if _ then _ else _) _ _ _
  rw [if_neg (by simp [hpr])]
  show wpAny _ _ (if _ then _ else _) _ _ _
  rw [if_neg (by simp [hz])]
  show wpAny _ _ (if _ then _ else _) _ _ _
  rw [if_neg (by decide)]
  show wpAny _ _ (if _ then _ else _) _ _ _
  rw [if_neg (by decide)]
  show wpAny _ _ (if _ then _ else _) _ _ _
  rw [if_neg (by simp [hw])]
  have hx : ((n : Int)).natAbs = n := Int.natAbs_natCast n
  have hneg : decide ((n : Int) < 0) = false := decide_eq_false (by omega)
  have hmap : (List.map (fun c : Char => (if ((98 : Nat) == 88) = true then c.toUpper else c).toNat) (Nat.toDigits 2 n)) = (Nat.toDigits 2 n).map Char.toNat := List.map_congr_left fun c _ => by rw [if_neg (by decide)]
  rw [hx, hneg, hmap, if_neg (show ¬ f.alt = true by rw [hal]; decide), if_neg (show ¬ ((2 : Nat) == 10) = true by decide)]
  have hne : ((Nat.toDigits 2 n).map Char.toNat).isEmpty = false := by
    have := tDigits_len_ge 2 n
    cases e : (Nat.toDigits 2 n) with
    | nil => rw [e] at this; simp at this
    | cons c l => rfl
  have fin : ∀ X : Str, X = digT n → wpAny (model prog w) A (retStr X) Q E s := fun X e => PySem.W.KXf.ret_text e (by rw [e]; exact hlen) hR
  refine fin _ ?_
  unfold digT
  generalize (Nat.toDigits 2 n).map Char.toNat = ds at hne
  conv => lhs; whnf
  simp only [hw, hsg, hal, hgr, hfi, haa, hne, Bool.false_eq_true, if_false, if_true]
  have z0 : (0 : Int).toNat - ds.length = 0 := by show 0 - ds.length = 0; exact Nat.zero_sub _
  have z1 : (-1 - (((([] : List Nat).length : Nat) : Int) + ((([] : List Nat).length : Nat) : Int) + ((([] : List Nat).length : Nat) : Int)) - ((ds.length : Nat) : Int)).toNat = 0 := by
    have : ((([] : List Nat).length : Nat) : Int) = 0 := rfl
    rw [this]
    omega
  have z2 : (32 == 48 && 62 == 61) = false := by decide
  simp only [z0, z2, Bool.false_eq_true, if_false, List.replicate_zero, List.nil_append, z1]
  simp
  cases instDecidableEqBool (f.align == 60) true <;> simp
theorem fmt_b {n : Nat} {t : Tok} {Q : Value → Shared → Prop} (hn : n < 2 ^ 1000) (h : ∀ t' k, Q (.str (digT n) t') { s with toks := k }) : wpAny (model prog w) A (formatField (.int (n : Int) t) "b") Q E s :=
  PySem.W.KXf.field_int (spec' := "b") rfl (by decide +kernel) (by decide +kernel) (fun u => meets_fmt_b hn) h
end
section
variable {X : Cx}
/-- {x:b}: a natural in binary digits -/
def tFmtB (te ts : TE) : TE := fun σ H Q => te σ H fun x H1 => ∃ n : Nat, x = .int (n : Int) ∧ n < 2 ^ 1000 ∧ ts σ H1 fun y H2 => y = .str "b" ∧ Q (.str (digT n)) H2
theorem pe_fmtB {e sp : Expr} {te ts : TE} {pos : Pos} (he : PE X e te) (hs : PE X sp ts) : PE X (.FormattedValue e (-1) (some sp) pos) (tFmtB te ts) := by
  refine ⟨fun pins s σ H Q I h => ?_⟩
  refine wpAny_FormattedValue_spec (thn (he.run pins s σ H _ I h) fun v s1 hv => ?_)
  obtain ⟨x, H1, I1, r1, n, rfl, hn, q⟩ := hv
  obtain ⟨t, rfl⟩ := r1
  refine thn (hs.run pins s1 σ H1 _ I1 q) fun r s2 hv => ?_
  obtain ⟨y, H2, I2, r2, rfl, q2⟩ := hv
  obtain ⟨u, rfl⟩ := r2
  exact ⟨_, u, rfl, fmt_b hn fun t' k => ⟨.str (digT n), H2, I2.tok _, ⟨_, rfl⟩, q2⟩⟩
end
end L2
/-! repr of data with empty dicts -/
namespace L2
open PySem PySem.Spec PyProof.Rows
/-- a number, a text, a truth value, None, an empty dict -/
inductive Sc (H : Hp) : V → PyData → Prop where
  | non : Sc H .non .none
  | bl (b : Bool) : Sc H (.bl b) (.bool b)
  | int (i : Int) : Sc H (.int i) (.int i)
  | str (x : Str) : Sc H (.str x) (.str x)
  | emp {a : Addr} : H a = some (.dT []) → Sc H (.ref a) (.dict [])
inductive ScAll (H : Hp) : List V → List PyData → Prop where
  | nil : ScAll H [] []
  | cons {v : V} {vs : List V} {d : PyData} {ds : List PyData} : Sc H v d → ScAll H vs ds → ScAll H (v :: vs) (d :: ds)
def RpV (K : PySem.W.Frag) (H : Hp) (x : V) (d : PyData) : Prop := (Dp K H x d ∧ d.canLay0 = true) ∨ (∃ p ys ds, x = .ref p ∧ d = .list ds ∧ SqL K H p ys ∧ ScAll H ys ds) ∨ ∃ p, x = .ref p ∧ d = .dict [] ∧ H p = some (.dT [])
section
variable {prog : Program} {w : World} {h₀ : Heap} {a : Addr} {as : List Addr}
theorem showsBy_listS {o : Obj} {vs : Array Value} {n : Nat} {xs : List PyData} (h1 : h₀.get? a = some o) (h2 : o.cls = .type "list") (h3 : o.data = .seq vs n) (h4 : ReadsAll h₀ vs.toList xs as) (hs : (PyData.list xs).showable = true) (hno : sysModules ∉ as) (hsz : (PyData.list xs).shown.length ≤ sizeLine) :
    ShowsBy prog w h₀ a (.list xs) "list" "list.__repr__" := by
  have hz' : (listText (PyData.shownAll xs)).length ≤ sizeLine := by simpa only [PyData.shown] using hsz
  obtain ⟨bs, hb, hk⟩ := ReprAllK.of_readsAll (prog := prog) (w := w) h4 (by simpa [PyData.showable] using hs) (fun _ hm => hno hm) (fun t ht => Nat.le_trans (listText_mem_le ht) hz')
  have hna : a ∉ bs := not_mem_of_deeper (.list h1 h2 h3 h4) (by simp only [PyData.depth]; omega) hb
  refine ⟨F.slot_list_repr.toG, F.slot_list_str, F.slot_list_format, fun s hk0 => ⟨o, hk0 _ _ h1, h2⟩, fun A E s Q hg hu hk0 hQ => ?_⟩
  simp only [PyData.depth] at hu
  simp only [PyData.shown] at hQ
  obtain ⟨l⟩ := vs
  cases l with
  | nil =>
    have h4' : ReadsAll h₀ [] xs _ := h4
    cases h4'
    simp only [PyData.shownAll, listText_nil] at hQ
    exact call_list_repr_empty ⟨o, hk0 _ _ h1, h2⟩ (hk0 _ _ h1) h3 (hQ s.heap _ _ fun _ _ e => e)
  | cons x l =>
    exact call_list_reprK h1 h2 h3 hna (by simpa using hk.length_eq) (fun i y e => hk.item i y (by simpa using e)) hg (fun b _ => Clear.nil b) hu hk0 hQ hz'
end
section
variable {X : Cx} {pins : List (Addr × Obj)} {σ : St} {H : Hp} {s : Shared}
theorem emp_reads (I : Inv X pins σ H s) {a : Addr} (e : H a = some (.dT [])) : ∃ as, Reads s.heap (.ref a) (.dict []) as ∧ sysModules ∉ as := by
  obtain ⟨_, hsm, xs, kt, o, es, ep, h1, h2, h3, h4, _⟩ := dt_of I.hok e
  cases kt
  refine ⟨a :: [] ++ [], Reads.dict h1 h2.1 h3 (by rw [h4]; exact .nil) (by rw [h4]; exact .nil), fun m => ?_⟩
  rw [List.append_nil, List.mem_singleton] at m
  subst m
  simp at hsm
theorem Sc.reads (I : Inv X pins σ H s) {v : V} {d : PyData} {u : Value} (h : Sc H v d) (r : RelV v u) : ∃ as, Reads s.heap u d as ∧ sysModules ∉ as := by
  cases h with
  | non =>
    cases r
    exact ⟨_, .none, fun m => nomatch m⟩
  | bl b =>
    cases r
    exact ⟨_, .bool b, fun m => nomatch m⟩
  | int i =>
    obtain ⟨t, rfl⟩ := r
    exact ⟨_, .int i t, fun m => nomatch m⟩
  | str x =>
    obtain ⟨t, rfl⟩ := r
    exact ⟨_, .str x t, fun m => nomatch m⟩
  | emp e =>
    cases r
    exact emp_reads I e
theorem ScAll.reads (I : Inv X pins σ H s) : ∀ {vs : List V} {ds : List PyData} {us : List Value}, ScAll H vs ds → Vals vs us → ∃ as, ReadsAll s.heap us ds as ∧ sysModules ∉ as := by
  intro vs ds us h
  induction h generalizing us with
  | nil =>
    intro r
    cases r
    exact ⟨_, .nil, fun m => nomatch m⟩
  | cons h1 _ ih =>
    intro r
    cases r with
    | cons r1 r2 =>
      obtain ⟨as, q1, n1⟩ := h1.reads I r1
      obtain ⟨bs, q2, n2⟩ := ih r2
      exact ⟨_, .cons q1 q2, fun m => (List.mem_append.mp m).elim n1 n2⟩
end
section
variable {X : Cx}
/-- repr(x), x data, perhaps with empty dicts -/
def rReprS (K : PySem.W.Frag) : List V → Hp → VK → Prop := fun xs H Q => ∃ (x : V) (d : PyData), xs = [x] ∧ RpV K H x d ∧ d.depth ≤ 64 ∧ d.showable = true ∧ d.shown.length ≤ sizeLine ∧ Q (.str d.shown) H
theorem call_reprS (gd : X.A.guards = some []) (hu : X.A.units + 80 < cLine) : CallR X (.builtin "repr") (rReprS X.K) := by
  intro pins s σ H xs us Q I r h
  obtain ⟨x, d, rfl, hr, dep, sw, sz, q⟩ := h
  rcases hr with ⟨dp, lay⟩ | ⟨p, ys, ds, rfl, rfl, hs, ha⟩ | ⟨p, rfl, rfl, he⟩
  · have sh : SeqAt.shaped d = true := by
      show (d.canLay0 && decide (d.depth ≤ 64)) = true
      rw [lay, decide_eq_true dep]
      rfl
    exact call_repr gd hu pins s σ H _ us Q I r ⟨x, d, rfl, dp, sh, sw, sz, q⟩
  · obtain ⟨u, rfl, rx⟩ := vals1 r
    cases rx
    obtain ⟨its, rv, ⟨o, n, ho, hc, _, hd⟩, _⟩ := I.list hs
    obtain ⟨as, hr, hno⟩ := ScAll.reads I ha rv
    have S := showsBy_listS (prog := X.prog) (w := X.w) ho hc hd hr sw hno sz
    exact call_repr_slot (by omega) (S.typeIs s fun _ _ e => e) S.slotRepr (S.call X.A.in1 X.xe s _ gd (by show X.A.units + 1 + (PyData.list ds).depth < cLine; omega) (fun _ _ e => e) fun h' u tk k => ⟨_, _, rfl, ⟨.str (PyData.list ds).shown, H, I.kept (t' := tk) k, ⟨u, rfl⟩, q⟩⟩)
  · obtain ⟨u, rfl, rx⟩ := vals1 r
    cases rx
    obtain ⟨as, rd, hno⟩ := emp_reads I he
    exact repr_of_reads' rd sw (fun _ => hno) gd (by omega) (fun _ _ e => e) (fun h' u tk k => ⟨.str (PyData.dict []).shown, H, I.kept (t' := tk) k, ⟨u, rfl⟩, q⟩) sz
end
end L2
namespace Fb
open PySem PySem.Spec PyProof.Rows L2
/-! ### zones as data -/
structure Zn where
  c : Int
  o : List Int
  t : List Int
  deriving DecidableEq
def tupI (l : List Int) : PyData := .tuple (l.map .int)
/-- a zone as it is kept; as it is given -/
def zdK (z : Zn) : PyData := .tuple [.int z.c, tupI z.o, tupI z.t]
def zdG (z : Zn) : PyData := .tuple [.int z.c, .list (z.o.map .int), .list (z.t.map .int)]
/-- the first items of tuples -/
inductive Heads : List PyData → List Int → Prop where
  | nil : Heads [] []
  | cons {c : Int} {r ds : List PyData} {cs : List Int} (h : Heads ds cs) : Heads (.tuple (.int c :: r) :: ds) (c :: cs)
theorem heads_K : ∀ zs : List Zn, Heads (zs.map zdK) (zs.map (·.c))
  | [] => .nil
  | _ :: zs => .cons (heads_K zs)
theorem heads_G : ∀ zs : List Zn, Heads (zs.map zdG) (zs.map (·.c))
  | [] => .nil
  | _ :: zs => .cons (heads_G zs)
theorem Heads.get : ∀ {ds : List PyData} {cs : List Int} {i : Nat} {d : PyData}, Heads ds cs → ds[i]? = some d → ∃ c r, d = .tuple (.int c :: r) ∧ cs[i]? = some c
  | _, _, _, _, .nil, e => by simp at e
  | _, _, 0, _, .cons h, e => by
    simp at e
    subst e
    exact ⟨_, _, rfl, rfl⟩
  | _, _, i + 1, d, .cons h, e => by
    obtain ⟨c, r, h1, h2⟩ := Heads.get (i := i) (d := d) h (by simpa using e)
    exact ⟨c, r, h1, by simpa using h2⟩
theorem Heads.len {ds : List PyData} {cs : List Int} (h : Heads ds cs) : ds.length = cs.length := by
  induction h with
  | nil => rfl
  | cons _ ih => rw [List.length_cons, List.length_cons, ih]
theorem take_snoc {α : Type} {l : List α} {i : Nat} {x : α} (h : l[i]? = some x) : l.take (i + 1) = l.take i ++ [x] := by
  rw [List.take_add_one, h]
  rfl
theorem small {n : Nat} (h : n ≤ 100000) : n < sizeLine := by
  rw [sizeLine_eq]
  omega
section
variable {P : Program} {w : World} {K : PySem.W.Frag} {mg : Str → Option Value} {base : Heap}
/-! ### is_integer, is_within -/
theorem sc_is_integer : FnScope nm_is_integer ["value"] (defScope s_is_integer) := ⟨rfl, rfl, rfl, by decide +kernel, rfl, by decide +kernel, by decide +kernel⟩
theorem sc_is_within : FnScope nm_is_within ["value", "low", "high"] (defScope s_is_within) := ⟨rfl, rfl, rfl, by decide +kernel, rfl, by decide +kernel, by decide +kernel⟩
theorem sc_length_of : FnScope nm_length_of ["zones"] (defScope s_length_of) := ⟨rfl, rfl, rfl, by decide +kernel, rfl, by decide +kernel, by decide +kernel⟩
theorem sc_kept_zones : FnScope nm_kept_zones ["zones"] (defScope s_kept_zones) := ⟨rfl, rfl, rfl, by decide +kernel, rfl, by decide +kernel, by decide +kernel⟩
theorem sc_begins_of : FnScope nm_begins_of ["zones"] (defScope s_begins_of) := ⟨rfl, rfl, rfl, by decide +kernel, rfl, by decide +kernel, by decide +kernel⟩
def isIJ : J → Bool
  | .int _ => true
  | _ => false
def spIsInt (K : PySem.W.Frag) : Sp := fun vs H Q _ => ∃ v j, vs = [v] ∧ Jr K H v j ∧ Q (.bl (isIJ j)) H
theorem ok_is_integer {f : Addr} {fd : FuncData} (F : Fun K "is_integer" "is_integer" s_is_integer f fd) (bt : Bt mg bn) : FnOk P w K mg base CX0 1 f fd ["value"] (spIsInt K) := by
  refine F.ok sc_is_integer (fun vs H Q E h => ?_) (fun cdv A outer s H vs Q E hr h => ?_)
  · obtain ⟨v, j, rfl, _⟩ := h
    rfl
  · obtain ⟨v, j, rfl, hj, q⟩ := h
    obtain ⟨t, bi, bb, ht, k1, k2, _, _, k5⟩ := hj.kind
    refine ⟨_, (pss_one (ps_ret (pe_and (pe_callB (r := rIsi K) call_isi (by rfl) (bt "isinstance" (by decide)) PyProof.Rows.boot_isinstance (pa_cons (pv 0) (pa_cons (pe_bltn (v := .ty "int") (by rfl) (bt "int" (by decide)) PyProof.Rows.boot_int rfl) pa_nil))) (pe_one (pe_not (pe_callB (r := rIsi K) call_isi (by rfl) (bt "isinstance" (by decide)) PyProof.Rows.boot_isinstance (pa_cons (pv 0) (pa_cons (pe_bltn (v := .ty "bool") (by rfl) (bt "bool" (by decide)) PyProof.Rows.boot_bool rfl) pa_nil)))))))), ?_⟩
    refine ⟨_, rfl, v, .ty "int", t, .type "int", _, rfl, .ty _, ht, k1, _, rfl, ?_⟩
    cases bi with
    | true =>
      refine ⟨_, rfl, _, .ty "bool", t, .type "bool", _, rfl, .ty _, ht, k2, _, rfl, ?_⟩
      cases j with
      | int i =>
        obtain ⟨_, rfl⟩ := k5
        exact q
      | odd =>
        rw [k5 rfl]
        exact q
      | list l =>
        rw [k5 rfl]
        exact q
      | tup l =>
        rw [k5 rfl]
        exact q
    | false =>
      cases j with
      | int i => cases k5.1
      | odd => exact q
      | list l => exact q
      | tup l => exact q
def within (j : J) (lo hi : Int) : Bool := match j with
  | .int i => decide (lo ≤ i) && decide (i ≤ hi)
  | _ => false
def spWithin (K : PySem.W.Frag) : Sp := fun vs H Q _ => ∃ v j lo hi, vs = [v, .int lo, .int hi] ∧ Jr K H v j ∧ Q (.bl (within j lo hi)) H
theorem ok_is_within {f : Addr} {fd : FuncData} (F : Fun K "is_within" "is_within" s_is_within f fd) (D_is_integer : Def P w K mg base CX0 1 "is_integer" ["value"] (spIsInt K)) : FnOk P w K mg base CX0 2 f fd ["value", "low", "high"] (spWithin K) := by
  refine F.ok sc_is_within (fun vs H Q E h => ?_) (fun cdv A outer s H vs Q E hr h => ?_)
  · obtain ⟨v, j, lo, hi, rfl, _⟩ := h
    rfl
  · obtain ⟨v, j, lo, hi, rfl, hj, q⟩ := h
    refine ⟨_, (pss_one (ps_ret (pe_and (pe_callD D_is_integer hr (by decide) pass0 (pa_cons (pv 0) pa_nil)) (pe_one (pe_chain op_le op_le (pv 1) (pv 0) (pv 2)))))), ?_⟩
    refine ⟨_, rfl, v, j, rfl, hj, _, rfl, ?_⟩
    cases j with
    | int i =>
      cases hj with
      | int =>
      refine iteT ⟨_, rfl, _, rfl, lo, i, rfl, rfl, _, rfl, ?_⟩
      refine ite2 (fun h => ?_) (fun h => ?_)
      · refine ⟨_, rfl, i, hi, rfl, rfl, ?_⟩
        have e : within (.int i) lo hi = decide (i ≤ hi) := by
          show (decide (lo ≤ i) && decide (i ≤ hi)) = _
          rw [h, Bool.true_and]
        rw [e] at q
        exact q
      · have e : within (.int i) lo hi = false := by
          show (decide (lo ≤ i) && decide (i ≤ hi)) = _
          rw [Bool.eq_false_iff.mpr h, Bool.false_and]
        rw [e] at q
        exact q
    | odd => exact iteF q
    | list l => exact iteF q
    | tup l => exact iteF q
/-! ### length_of -/
def spLength (K : PySem.W.Frag) : Sp := fun vs H Q _ => ∃ v ds cs, vs = [v] ∧ Dp K H v (.list ds) ∧ Heads ds cs ∧ ds.length ≤ 100000 ∧ ∀ H', Same H H' → Q (.int cs.sum) H'
theorem ok_length_of {f : Addr} {fd : FuncData} (F : Fun K "length_of" "length_of" s_length_of f fd) (bt : Bt mg bn) : FnOk P w K mg base CX0 1 f fd ["zones"] (spLength K) := by
  refine F.ok sc_length_of (fun vs H Q E h => ?_) (fun cdv A outer s H vs Q E hr h => ?_)
  · obtain ⟨v, ds, cs, rfl, _⟩ := h
    rfl
  · obtain ⟨v, ds, cs, rfl, hd, hh, hl, q⟩ := h
    obtain ⟨a, xs, rfl, hs, ha⟩ := dp_lst hd
    refine ⟨_, (pss_one (ps_ret (pe_callB (r := rSum K) (cr_sum rfl) (by rfl) (bt "sum" (by decide)) PyProof.Rows.boot_sum (pa_cons (pe_lc (own := [("zone", 1)]) (tt := tYes) (g := (gName 1)) rfl sc_length_of.nd (pi_list (pv 0)) (blkOk_by (N := nm_length_of) (sc := defScope s_length_of) (by decide +kernel)) (fun _ _ _ _ _ => (pg_name (i := 1) sc_length_of.nd rfl (.inl rfl))) (fun _ _ _ _ _ => pts_nil) (fun _ _ _ _ _ => (pe_ix (r := rIxT K) ix_tup (pv 1) pe_int (fun _ _ => rfl)))) pa_nil)))), ?_⟩
    refine ⟨_, rfl, a, rfl, ⟨_, hs⟩, fun D nD => ?_⟩
    refine lc_list (xs := xs) (fun i H' => Same H H' ∧ H' D = some (.lst ((cs.take i).map V.int))) ⟨same1 nD, upd_same⟩ (fun i H' _ h => h.1.seq hs) ?_ ?_
    · rintro i x H' hi ⟨S, hD⟩
      refine ⟨rfl, ?_⟩
      obtain ⟨d, hd1, hd2⟩ := dpAll_getV ha hi
      obtain ⟨c, r, rfl, hc⟩ := hh.get hd1
      obtain ⟨b, ys, rfl, hb, hys⟩ := dp_tup (dp_same S _ hd2)
      cases hys with
      | cons h0 h1 =>
        cases h0
        refine ⟨_, rfl, b, _, 0, _, rfl, rfl, hb, atI_nat (j := 0) rfl, _, hD, ?_, ?_⟩
        · rw [List.length_map, List.length_take]
          have := hh.len
          exact small (by omega)
        · refine ⟨fun y o e => ?_, ?_⟩
          · by_cases hy : y = D
            · rw [hy, nD] at e
              cases e
            · rw [upd_ne hy]
              exact S y o e
          · rw [upd_same, take_snoc hc, List.map_append]
            rfl
    · rintro H' ⟨S, hD⟩
      have e : cs.take xs.length = cs := List.take_of_length_le (by
        have h1 := hh.len
        have h2 := dpAll_len ha
        omega)
      rw [e] at hD
      exact ⟨D, cs, rfl, SqL.of hD, q H' S⟩
/-! ### kept_zones -/
def rTupOf (K : PySem.W.Frag) : List V → Hp → VK → Prop := fun xs H Q => ∃ p ys, xs = [V.ref p] ∧ ((SqL K H p ys ∧ ∀ l, H l = none → Q (.ref l) (upd H l (.tup ys))) ∨ (SqT K H p ys ∧ Q (.ref p) H))
def rListOf (K : PySem.W.Frag) : List V → Hp → VK → Prop := fun xs H Q => ∃ p ys, xs = [V.ref p] ∧ (SqL K H p ys ∨ SqT K H p ys) ∧ ∀ l, H l = none → Q (.ref l) (upd H l (.lst ys))
theorem imm_ints (l : List Int) : immAll (l.map PyData.int) = true := immAll_of fun d hd => by
  obtain ⟨i, _, rfl⟩ := List.mem_map.mp hd
  rfl
theorem imm_tupI (l : List Int) : imm (tupI l) = true := imm_ints l
theorem imm_zdK (z : Zn) : imm (zdK z) = true := by
  show (true && (imm (tupI z.o) && (imm (tupI z.t) && true))) = true
  rw [imm_tupI, imm_tupI]
  rfl
theorem imm_zdKs (zs : List Zn) : immAll (zs.map zdK) = true := immAll_of fun d hd => by
  obtain ⟨z, _, rfl⟩ := List.mem_map.mp hd
  exact imm_zdK z
theorem same_lst {H H' : Hp} {D : Addr} {xs ys : List V} (n : H D = none) (S : Same H H') (h : H' D = some (.lst xs)) : Same H (upd H' D (.lst ys)) := fun y o e => by
  by_cases hy : y = D
  · rw [hy, n] at e
    cases e
  · rw [upd_ne hy]
    exact S y o e
theorem map_getV {α : Type} {f : α → PyData} {zs : List α} {i : Nat} {d : PyData} (h : (zs.map f)[i]? = some d) : ∃ z, zs[i]? = some z ∧ d = f z := by
  rw [List.getElem?_map] at h
  cases e : zs[i]? with
  | none => rw [e] at h; cases h
  | some z => rw [e] at h; exact ⟨z, rfl, (Option.some.inj h).symm⟩
/-- data of its own: it stands in a heap N that has nothing of H -/
def givesS (K : PySem.W.Frag) (H : Hp) (d : PyData) (Q : VK) : Prop := ∀ H' v N, Same H H' → Same N H' → (∀ a o, N a = some o → H a = none) → Dp K N v d → Q v H'
theorem same_upd {N H : Hp} {a : Addr} {o : HO} (S : Same N H) : Same (upd N a o) (upd H a o) := fun b u e => by
  by_cases h : b = a
  · rw [h, upd_same] at e ⊢
    exact e
  · rw [upd_ne h] at e ⊢
    exact S b u e
theorem none_same {N H : Hp} {a : Addr} (S : Same N H) (n : H a = none) : N a = none := by
  cases e : N a with
  | none => rfl
  | some o => rw [S _ _ e] at n; cases n
def spKept (K : PySem.W.Frag) : Sp := fun vs H Q _ => ∃ (v : V) (zs : List Zn), vs = [v] ∧ Dp K H v (.list (zs.map zdG)) ∧ zs.length ≤ 100000 ∧ givesS K H (.list (zs.map zdK)) Q
theorem ok_kept_zones {f : Addr} {fd : FuncData} (F : Fun K "kept_zones" "kept_zones" s_kept_zones f fd) (bt : Bt mg bn) : FnOk P w K mg base CX0 1 f fd ["zones"] (spKept K) := by
  refine F.ok sc_kept_zones (fun vs H Q E h => ?_) (fun cdv A outer s H vs Q E hr h => ?_)
  · obtain ⟨v, zs, rfl, _⟩ := h
    rfl
  · obtain ⟨v, zs, rfl, hd, hl, q⟩ := h
    obtain ⟨a, xs, rfl, hs, ha⟩ := dp_lst hd
    refine ⟨_, (pss_one (ps_ret (pe_lc (own := [("count", 1), ("offsets", 2), ("touches", 3)]) (tt := tYes) (g := (gTup K 3 (gCons (gName 1) (gCons (gName 2) (gCons (gName 3) gNil))))) rfl sc_kept_zones.nd (pi_list (pv 0)) (blkOk_by (N := nm_kept_zones) (sc := defScope s_kept_zones) (by decide +kernel)) (fun _ _ _ _ _ => (pg_tup rfl (pgs_cons (pg_name (i := 1) sc_kept_zones.nd rfl (.inl rfl)) (pgs_cons (pg_name (i := 2) sc_kept_zones.nd rfl (.inl rfl)) (pgs_cons (pg_name (i := 3) sc_kept_zones.nd rfl (.inl rfl)) pgs_nil))))) (fun _ _ _ _ _ => pts_nil) (fun _ _ _ _ _ => (pe_tup (pa_cons (pv 1) (pa_cons (pe_callTy (r := rTupOf K) call_tuple_of (by rfl) (bt "tuple" (by decide)) PyProof.Rows.boot_tuple (pa_cons (pv 2) pa_nil)) (pa_cons (pe_callTy (r := rTupOf K) call_tuple_of (by rfl) (bt "tuple" (by decide)) PyProof.Rows.boot_tuple (pa_cons (pv 3) pa_nil)) pa_nil)))))))), ?_⟩
    refine ⟨_, rfl, a, rfl, ⟨_, hs⟩, fun D nD => ?_⟩
    refine lc_list (xs := xs) (fun i H' => Same H H' ∧ ∃ N ys, Same N H' ∧ (∀ b o, N b = some o → H b = none) ∧ N D = none ∧ H' D = some (.lst ys) ∧ DpAll K N ys ((zs.take i).map zdK)) ⟨same1 nD, fun _ => none, [], (fun _ _ e => nomatch e), (fun _ _ e => nomatch e), rfl, upd_same, .nil⟩ (fun i H' _ h => h.1.seq hs) ?_ ?_
    · rintro i x H' hi ⟨S, N, ys, SN, dN, nDN, hD, hy⟩
      obtain ⟨d, hd1, hd2⟩ := dpAll_getV ha hi
      obtain ⟨z, hz, rfl⟩ := map_getV hd1
      obtain ⟨b, ws, rfl, hb, hws⟩ := dp_tup (dp_same S _ hd2)
      cases hws with
      | cons h0 hws =>
      cases h0
      cases hws with
      | cons h1 hws =>
      cases hws with
      | cons h2 hws =>
      cases hws
      obtain ⟨o, os, rfl, ho, hos⟩ := dp_lst h1
      obtain ⟨t, ts, rfl, ht, hts⟩ := dp_lst h2
      obtain rfl := ints_of_dpAll hos
      obtain rfl := ints_of_dpAll hts
      have far : ∀ {H1 : Hp} {l : Addr}, Same H' H1 → H1 l = none → H l = none ∧ l ≠ D := fun {H1 l} S1 n => by
        have n' := none_same S1 n
        exact ⟨none_same S n', fun e => by rw [e, hD] at n'; cases n'⟩
      refine ⟨b, _, rfl, hb, rfl, _, _, rfl, _, _, rfl, _, _, rfl, rfl, rfl, ?_⟩
      refine ⟨_, rfl, _, rfl, o, _, rfl, .inl ⟨ho, fun l1 n1 => ?_⟩⟩
      have S1 : Same H' (upd H' l1 (.tup (z.o.map V.int))) := same1 n1
      have f1 := far (Same.refl H') n1
      have N1 := none_same SN n1
      have SN1 : Same (upd N l1 (.tup (z.o.map V.int))) (upd H' l1 (.tup (z.o.map V.int))) := same_upd SN
      generalize upd H' l1 (.tup (z.o.map V.int)) = H1 at S1 SN1 ⊢
      refine ⟨_, rfl, t, _, rfl, .inl ⟨S1.seq ht, fun l2 n2 => ?_⟩⟩
      have S2 : Same H1 (upd H1 l2 (.tup (z.t.map V.int))) := same1 n2
      have f2 := far S1 n2
      have N2 := none_same SN1 n2
      have SN2 : Same (upd (upd N l1 (.tup (z.o.map V.int))) l2 (.tup (z.t.map V.int))) (upd H1 l2 (.tup (z.t.map V.int))) := same_upd SN1
      generalize upd H1 l2 (.tup (z.t.map V.int)) = H2 at S2 SN2 ⊢
      refine ⟨by show 3 ≤ sizeLine; decide, fun p np => ?_⟩
      have S3 : Same H2 (upd H2 p (.tup [V.int z.c, .ref l1, .ref l2])) := same1 np
      have f3 := far (S1.trans S2) np
      have N3 := none_same SN2 np
      have SN3 : Same (upd (upd (upd N l1 (.tup (z.o.map V.int))) l2 (.tup (z.t.map V.int))) p (.tup [V.int z.c, .ref l1, .ref l2])) (upd H2 p (.tup [V.int z.c, .ref l1, .ref l2])) := same_upd SN2
      generalize upd H2 p (.tup [V.int z.c, .ref l1, .ref l2]) = H3 at S3 SN3 ⊢
      have S03 := (S1.trans S2).trans S3
      have hD3 := S03 _ _ hD
      have T1 : Same N (upd N l1 (.tup (z.o.map V.int))) := same1 N1
      have T2 : Same (upd N l1 (.tup (z.o.map V.int))) (upd (upd N l1 (.tup (z.o.map V.int))) l2 (.tup (z.t.map V.int))) := same1 N2
      have T3 : Same (upd (upd N l1 (.tup (z.o.map V.int))) l2 (.tup (z.t.map V.int))) (upd (upd (upd N l1 (.tup (z.o.map V.int))) l2 (.tup (z.t.map V.int))) p (.tup [V.int z.c, .ref l1, .ref l2])) := same1 N3
      refine ⟨ys, hD3, ?_, same_lst nD (S.trans S03) hD3, upd (upd (upd N l1 (.tup (z.o.map V.int))) l2 (.tup (z.t.map V.int))) p (.tup [V.int z.c, .ref l1, .ref l2]), ys ++ [.ref p], fun c u e => ?_, fun c u e => ?_, ?_, upd_same, ?_⟩
      · have h1 := dpAll_len hy
        rw [List.length_map, List.length_take] at h1
        exact small (by omega)
      · have e' := SN3 _ _ e
        rw [upd_ne (fun q => ?_)]
        · exact e'
        · rw [q] at e
          rw [upd_ne f3.2.symm, upd_ne f2.2.symm, upd_ne f1.2.symm, nDN] at e
          cases e
      · by_cases c3 : c = p
        · rw [c3]; exact f3.1
        · rw [upd_ne c3] at e
          by_cases c2 : c = l2
          · rw [c2]; exact f2.1
          · rw [upd_ne c2] at e
            by_cases c1 : c = l1
            · rw [c1]; exact f1.1
            · rw [upd_ne c1] at e
              exact dN _ _ e
      · rw [upd_ne f3.2.symm, upd_ne f2.2.symm, upd_ne f1.2.symm, nDN]
      · rw [take_snoc hz, List.map_append]
        refine dpAll_append (dpAll_same ((T1.trans T2).trans T3) _ hy) (.cons ?_ .nil)
        exact .tup (.inl (.inl upd_same)) (.cons (.int _) (.cons (.tup (.inl (.inl (T3 _ _ (T2 _ _ upd_same)))) (dpAll_ints _)) (.cons (.tup (.inl (.inl (T3 _ _ upd_same))) (dpAll_ints _)) .nil)))
    · rintro H' ⟨S, N, ys, SN, dN, nDN, hD, hy⟩
      rw [List.take_of_length_le (by
        have h2 := dpAll_len ha
        rw [List.length_map] at h2
        omega)] at hy
      refine q H' _ (upd N D (.lst ys)) S (fun c u e => ?_) (fun c u e => ?_) (.lst (SqL.of upd_same) (dpAll_same (same1 nDN) _ hy))
      · by_cases h : c = D
        · rw [h, upd_same] at e
          rw [h, hD, e]
        · rw [upd_ne h] at e
          exact SN _ _ e
      · by_cases h : c = D
        · rw [h]; exact nD
        · rw [upd_ne h] at e
          exact dN _ _ e
/-! ### begins_of -/
def beginsZ : Int → List Int → List Int
  | _, [] => []
  | b, c :: cs => b :: beginsZ (b + c) cs
theorem beginsZ_get : ∀ (cs : List Int) (b : Int) (i : Nat), i < cs.length → (beginsZ b cs)[i]? = some (b + (cs.take i).sum)
  | [], _, _, h => by simp at h
  | c :: cs, b, 0, _ => by simp [beginsZ]
  | c :: cs, b, i + 1, h => by
    have z := beginsZ_get cs (b + c) i (by simpa using h)
    simp only [beginsZ, List.getElem?_cons_succ, List.take_succ_cons, List.sum_cons]
    rw [z]
    congr 1
    omega
theorem beginsZ_len : ∀ (cs : List Int) (b : Int), (beginsZ b cs).length = cs.length
  | [], _ => rfl
  | c :: cs, b => by rw [beginsZ, List.length_cons, List.length_cons, beginsZ_len cs]
def spBegins (K : PySem.W.Frag) : Sp := fun vs H Q _ => ∃ v ds cs, vs = [v] ∧ Dp K H v (.list ds) ∧ Heads ds cs ∧ ds.length ≤ 100000 ∧ gives K H (.list ((beginsZ 0 cs).map .int)) Q
theorem ok_begins_of {f : Addr} {fd : FuncData} (F : Fun K "begins_of" "begins_of" s_begins_of f fd) (bt : Bt mg bn) : FnOk P w K mg base CX0 1 f fd ["zones"] (spBegins K) := by
  refine F.ok sc_begins_of (fun vs H Q E h => ?_) (fun cdv A outer s H vs Q E hr h => ?_)
  · obtain ⟨v, ds, cs, rfl, _⟩ := h
    rfl
  · obtain ⟨v, ds, cs, rfl, hd, hh, hl, q⟩ := h
    obtain ⟨a, xs, rfl, hs, ha⟩ := dp_lst hd
    refine ⟨_, (pss_cons (ps_set (i := 1) sc_begins_of.nd rfl (.inl rfl) (pe_lst pa_nil))
      (pss_cons (ps_set (i := 2) sc_begins_of.nd rfl (.inl rfl) pe_int)
      (pss_cons (ps_for PassesOwn.never rfl (pi_list (pv 0)) (pg_name (i := 3) sc_begins_of.nd rfl (.inl rfl))
        (pss_cons (ps_expr (pe_bm PySem.F.plainAttrs_list PySem.F.slot_list_append PySem.F.type_list_append mt_append (pv 1) (pa_cons (pv 2) pa_nil)))
        (pss_one (ps_aug (i := 2) sc_begins_of.nd rfl (.inl rfl) (pe_ix (r := rIxT K) ix_tup (pv 3) pe_int (fun _ _ => rfl)) ip_add))))
      (pss_one (ps_ret (pv 1)))))), ?_⟩
    refine ⟨Nat.zero_le _, fun D nD => ?_⟩
    refine ⟨_, rfl, a, rfl, ⟨_, (same1 nD).seq hs⟩, for_list (K := K) (a := a) (xs := xs) (fun i σ H' => ∃ y, σ = [some (.ref a), some (.ref D), some (.int (cs.take i).sum), y] ∧ Same H H' ∧ H' D = some (.lst (((beginsZ 0 cs).take i).map V.int)))
      ⟨none, rfl, same1 nD, upd_same⟩ (fun i σ H' _ ⟨_, _, S, _⟩ => S.seq hs) ?_ ?_⟩
    · rintro i x σ H' hi ⟨y, rfl, S, hD⟩
      obtain ⟨d, hd1, hd2⟩ := dpAll_getV ha hi
      obtain ⟨c, r, rfl, hc⟩ := hh.get hd1
      obtain ⟨b, ys, rfl, hb, hys⟩ := dp_tup (dp_same S _ hd2)
      cases hys with
      | cons h0 h1 =>
      cases h0
      have hi' : i < cs.length := by
        rw [List.getElem?_eq_some_iff] at hc
        exact hc.1
      refine ⟨_, rfl, .inl ⟨rfl, _, SqL.of hD⟩, _, rfl, D, _, _, rfl, rfl, hD, ?_, ?_⟩
      · rw [List.length_map, List.length_take, beginsZ_len]
        have := hh.len
        exact small (by omega)
      · refine ⟨_, rfl, _, rfl, b, _, 0, _, rfl, rfl, SqT.ts (ts_lst hD) hb, atI_nat (j := 0) rfl, _, _, rfl, rfl, some (.ref b), ?_, same_lst nD S hD, ?_⟩
        · rw [take_snoc hc, List.sum_append]
          simp
        · rw [upd_same, take_snoc (beginsZ_get cs 0 i hi'), List.map_append]
          simp
    · rintro σ H' ⟨y, rfl, S, hD⟩
      have e : (beginsZ 0 cs).take xs.length = beginsZ 0 cs := List.take_of_length_le (by
        rw [beginsZ_len]
        have h1 := hh.len
        have h2 := dpAll_len ha
        omega)
      rw [e] at hD
      exact ⟨_, rfl, q H' _ S (.lst (SqL.of hD) (dpAll_ints _))⟩
end
end Fb
namespace Fb
open PySem PySem.Spec PyProof.Rows L2
section
variable {P : Program} {w : World} {K : PySem.W.Frag} {mg : Str → Option Value} {base : Heap}
/-! ### merged -/
theorem sc_merged : FnScope nm_merged ["zones"] (defScope s_merged) := ⟨rfl, rfl, rfl, by decide +kernel, rfl, by decide +kernel, by decide +kernel⟩
theorem sc_standing_at : FnScope nm_standing_at ["begins", "unknown"] (defScope s_standing_at) := ⟨rfl, rfl, rfl, by decide +kernel, rfl, by decide +kernel, by decide +kernel⟩
def mergeStep (acc : List Zn) (z : Zn) : List Zn := match acc.getLast? with
  | some y => if y.o = z.o ∧ y.t = z.t then acc.dropLast ++ [⟨y.c + z.c, z.o, z.t⟩] else acc ++ [z]
  | none => acc ++ [z]
def mergedZ (zs : List Zn) : List Zn := zs.foldl mergeStep []
theorem mergeStep_len (acc : List Zn) (z : Zn) : (mergeStep acc z).length ≤ acc.length + 1 := by
  unfold mergeStep
  split
  · split
    · rw [List.length_append, List.length_dropLast]
      show acc.length - 1 + 1 ≤ _
      omega
    · rw [List.length_append]
      exact Nat.le_refl _
  · rw [List.length_append]
    exact Nat.le_refl _
theorem mergedZ_snoc (l : List Zn) (z : Zn) : mergedZ (l ++ [z]) = mergeStep (mergedZ l) z := by
  unfold mergedZ
  rw [List.foldl_append]
  rfl
theorem mergedZ_len (l : List Zn) : (mergedZ l).length ≤ l.length := by
  have key : ∀ (l : List Zn) (acc : List Zn), (l.foldl mergeStep acc).length ≤ acc.length + l.length := by
    intro l
    induction l with
    | nil => intro acc; exact Nat.le_refl _
    | cons z l ih =>
      intro acc
      have h1 := ih (mergeStep acc z)
      have h2 := mergeStep_len acc z
      show (l.foldl mergeStep (mergeStep acc z)).length ≤ _
      rw [List.length_cons]
      omega
  have := key l []
  simpa [mergedZ] using this
theorem eqvAll_ints : ∀ a b : List Int, PyData.eqvAll (a.map PyData.int) (b.map PyData.int) = decide (a = b)
  | [], [] => rfl
  | [], _ :: _ => rfl
  | _ :: _, [] => rfl
  | x :: a, y :: b => by
    show ((x == y) && PyData.eqvAll (a.map PyData.int) (b.map PyData.int)) = _
    rw [eqvAll_ints a b]
    by_cases h : x = y
    · subst h
      by_cases h2 : a = b
      · subst h2
        simp
      · rw [decide_eq_false h2, Bool.and_false, decide_eq_false (fun e => h2 (List.cons.inj e).2)]
    · rw [beq_eq_false_iff_ne.mpr h, Bool.false_and, decide_eq_false (fun e => h (List.cons.inj e).1)]
def pairD (z : Zn) : PyData := .tuple [tupI z.o, tupI z.t]
theorem eqv_pair (y z : Zn) : PyData.eqv (pairD y) (pairD z) = decide (y.o = z.o ∧ y.t = z.t) := by
  show (PyData.eqvAll (y.o.map .int) (z.o.map .int) && (PyData.eqvAll (y.t.map .int) (z.t.map .int) && true)) = _
  rw [eqvAll_ints, eqvAll_ints, Bool.and_true]
  by_cases h1 : y.o = z.o
  · by_cases h2 : y.t = z.t
    · simp [h1, h2]
    · simp [h1, h2]
  · simp [h1]
theorem canLayAll_ints : ∀ l : List Int, PyData.canLayAll0 (l.map PyData.int) = true
  | [] => rfl
  | x :: l => by
    show (true && PyData.canLayAll0 (l.map PyData.int)) = true
    rw [canLayAll_ints l]
    rfl
theorem depthAll_ints : ∀ l : List Int, PyData.depthAll (l.map PyData.int) ≤ 1
  | [] => Nat.zero_le _
  | x :: l => by
    show max (PyData.depth (.int x)) (PyData.depthAll (l.map PyData.int)) ≤ 1
    have := depthAll_ints l
    have e : PyData.depth (.int x) ≤ 1 := by first | exact Nat.le_refl _ | exact Nat.zero_le _ | (simp [PyData.depth])
    omega
theorem shaped_pair (z : Zn) : SeqAt.shaped (pairD z) = true := by
  have h1 : PyData.canLay0 (pairD z) = true := by
    show (PyData.canLayAll0 (z.o.map .int) && (PyData.canLayAll0 (z.t.map .int) && true)) = true
    rw [canLayAll_ints, canLayAll_ints]
    rfl
  have h2 : PyData.depth (pairD z) ≤ 64 := by
    show max (PyData.depthAll (z.o.map .int) + 1) (max (PyData.depthAll (z.t.map .int) + 1) 0) + 1 ≤ 64
    have := depthAll_ints z.o
    have := depthAll_ints z.t
    omega
  show (PyData.canLay0 (pairD z) && decide (PyData.depth (pairD z) ≤ 64)) = true
  rw [h1, decide_eq_true h2]
  rfl
/-- a kept zone's object -/
theorem zdK_inv {H : Hp} {v : V} {z : Zn} (h : Dp K H v (zdK z)) : ∃ b o t, v = .ref b ∧ SqT K H b [.int z.c, o, t] ∧ Dp K H o (tupI z.o) ∧ Dp K H t (tupI z.t) := by
  obtain ⟨b, ws, rfl, hb, hws⟩ := dp_tup h
  cases hws with
  | cons h0 hws =>
  cases h0
  cases hws with
  | cons h1 hws =>
  cases hws with
  | cons h2 hws =>
  cases hws
  exact ⟨b, _, _, rfl, hb, h1, h2⟩
theorem lenpos {α : Type} {l : List α} (h : l ≠ []) : 0 < l.length := by
  cases l with
  | nil => exact absurd rfl h
  | cons _ _ => exact Nat.succ_pos _
theorem set_last {α : Type} (l : List α) (x : α) (h : l ≠ []) : l.set (l.length - 1) x = l.dropLast ++ [x] := by
  have e := List.dropLast_concat_getLast h
  have n := lenpos h
  rw [← e, List.length_append, List.length_singleton, Nat.add_sub_cancel, List.set_append_right _ _ (Nat.le_refl _), Nat.sub_self]
  rw [List.dropLast_concat]
  rfl
theorem last_getElem {α : Type} {l : List α} {y : α} (h : l.getLast? = some y) : l[l.length - 1]? = some y := by
  rw [List.getLast?_eq_getElem?] at h
  exact h
theorem atI_neg1 {xs : List V} {x : V} (h : xs[xs.length - 1]? = some x) : atI xs (-1) = some x := by
  have n : 0 < xs.length := by
    cases xs with
    | nil => simp at h
    | cons _ _ => simp
  obtain ⟨l, y, rfl⟩ : ∃ l y, xs = l ++ [y] := ⟨xs.dropLast, xs.getLast (List.ne_nil_of_length_pos n), (List.dropLast_concat_getLast _).symm⟩
  rw [atI_last]
  rw [List.length_append, List.length_singleton, Nat.add_sub_cancel, List.getElem?_append_right (Nat.le_refl _), Nat.sub_self] at h
  exact h
theorem ixN_neg1 {n : Nat} (h : 0 < n) : ixN n (-1) = some (n - 1) := by
  unfold ixN
  rw [if_neg (by decide), if_pos (by omega)]
  congr 1
  omega
def spMerged (K : PySem.W.Frag) : Sp := fun vs H Q _ => ∃ (v : V) (zs : List Zn), vs = [v] ∧ Dp K H v (.list (zs.map zdK)) ∧ zs.length ≤ 100000 ∧ gives K H (.list ((mergedZ zs).map zdK)) Q
theorem ok_merged {f : Addr} {fd : FuncData} (F : Fun K "merged" "merged" s_merged f fd) (bt : Bt mg bn) : FnOk P w K mg base CX0 1 f fd ["zones"] (spMerged K) := by
  refine F.ok sc_merged (fun vs H Q E h => ?_) (fun cdv A outer s H vs Q E hr h => ?_)
  · obtain ⟨v, zs, rfl, _⟩ := h
    rfl
  · obtain ⟨v, zs, rfl, hd, hl, q⟩ := h
    obtain ⟨a, xs, rfl, hs, ha⟩ := dp_lst hd
    have hu : (A.deeper (envOfC "merged" (defScope s_merged) s.heap.objs.size f cdv)).units + 64 < cLine := by have := hr.un; omega
    refine ⟨_, (pss_cons (ps_set (i := 1) sc_merged.nd rfl (.inl rfl) (pe_lst pa_nil))
      (pss_cons (ps_for PassesOwn.never rfl (pi_list (pv 0)) (pg_tup rfl (pgs_cons (pg_name (i := 2) sc_merged.nd rfl (.inl rfl)) (pgs_cons (pg_name (i := 3) sc_merged.nd rfl (.inl rfl)) (pgs_cons (pg_name (i := 4) sc_merged.nd rfl (.inl rfl)) pgs_nil))))
        (pss_one (ps_if (PW.pt (pw_and (pt_truth (pv 1) (by intro _; rfl)) (pw_and1 (pt_cmpR (op_eqD hu) (pe_slice (r := rSlT K) sl_tup (pe_ix (r := rIxL K) ix_list (pv 1) (pe_un un_neg pe_int) (fun _ _ => rfl)) (po_some pe_int) po_none) (pe_tup (pa_cons (pv 3) (pa_cons (pv 4) pa_nil))) (nomark _)))))
          (pss_one (ps_asg (pe_tup (pa_cons (pe_op op_add (pe_ix (r := rIxT K) ix_tup (pe_ix (r := rIxL K) ix_list (pv 1) (pe_un un_neg pe_int) (fun _ _ => rfl)) pe_int (fun _ _ => rfl)) (pv 2)) (pa_cons (pv 3) (pa_cons (pv 4) pa_nil)))) (pg_sub (pv 1) (pe_un un_neg pe_int) set_list)))
          (pss_one (ps_expr (pe_bm PySem.F.plainAttrs_list PySem.F.slot_list_append PySem.F.type_list_append mt_append (pv 1) (pa_cons (pe_tup (pa_cons (pv 2) (pa_cons (pv 3) (pa_cons (pv 4) pa_nil)))) pa_nil)))))))
      (pss_one (ps_ret (pv 1))))), ?_⟩
    refine ⟨Nat.zero_le _, fun D nD => ?_⟩
    refine ⟨_, rfl, a, rfl, ⟨_, (same1 nD).seq hs⟩, for_list (K := K) (a := a) (xs := xs) (fun i σ H' => ∃ y2 y3 y4, σ = [some (.ref a), some (.ref D), y2, y3, y4] ∧ Same H H' ∧ ∃ ys, H' D = some (.lst ys) ∧ DpAll K H' ys ((mergedZ (zs.take i)).map zdK))
      ⟨none, none, none, rfl, same1 nD, [], upd_same, .nil⟩ (fun i σ H' _ ⟨_, _, _, _, S, _⟩ => S.seq hs) ?_ ?_⟩
    · rintro i x σ H' hi ⟨y2, y3, y4, rfl, S, ys, hD, hy⟩
      obtain ⟨d, hd1, hd2⟩ := dpAll_getV ha hi
      obtain ⟨z, hz, rfl⟩ := map_getV hd1
      obtain ⟨b, o, t, rfl, hb, ho, ht⟩ := zdK_inv (dp_same S _ hd2)
      have snoc : mergedZ (zs.take (i + 1)) = mergeStep (mergedZ (zs.take i)) z := by rw [take_snoc hz, mergedZ_snoc]
      have len := dpAll_len hy
      rw [List.length_map] at len
      have bound : ys.length ≤ 100000 := by
        have h1 := mergedZ_len (zs.take i)
        rw [List.length_take] at h1
        omega
      refine ⟨b, _, rfl, hb, rfl, _, _, rfl, _, _, rfl, _, _, rfl, rfl, ?_⟩
      -- the zone is put behind the others
      have behind : ∀ {H1 : Hp}, Same H' H1 → (mergeStep (mergedZ (zs.take i)) z = mergedZ (zs.take i) ++ [z]) → ∀ p, H1 p = none → ∃ ys', upd (upd H1 p (.tup [.int z.c, o, t])) D (.lst (ys ++ [.ref p])) D = some (.lst ys') ∧
          Same H (upd (upd H1 p (.tup [.int z.c, o, t])) D (.lst (ys ++ [.ref p]))) ∧ DpAll K (upd (upd H1 p (.tup [.int z.c, o, t])) D (.lst (ys ++ [.ref p]))) ys' ((mergedZ (zs.take (i + 1))).map zdK) := by
        intro H1 S1 e p np
        have S2 : Same H1 (upd H1 p (.tup [.int z.c, o, t])) := same1 np
        have hD2 := S2 _ _ (S1 _ _ hD)
        have S02 := S1.trans S2
        refine ⟨_, upd_same, same_lst nD (S.trans S02) hD2, ?_⟩
        rw [snoc, e, List.map_append]
        refine dpAll_append (dpAll_imm (ts_lst hD2) _ (imm_zdKs _) (dpAll_same S02 _ hy)) (.cons (dp_imm (ts_lst hD2) (zdK z) (imm_zdK z) ?_) .nil)
        exact .tup (.inl (.inl upd_same)) (.cons (.int _) (.cons (dp_same S02 _ ho) (.cons (dp_same S02 _ ht) .nil)))
      refine ⟨_, rfl, !ys.isEmpty, .inl ⟨ys, SqL.of hD, rfl⟩, ite2 (fun hne => ?_) (fun he => ?_)⟩
      · have ne : ys ≠ [] := by
          rintro rfl
          simp at hne
        have pos := lenpos ne
        obtain ⟨y, hlast⟩ : ∃ y, (mergedZ (zs.take i)).getLast? = some y := by
          cases e : (mergedZ (zs.take i)).getLast? with
          | some y => exact ⟨y, rfl⟩
          | none =>
            rw [List.getLast?_eq_none_iff] at e
            rw [e] at len
            have : ys.length = 0 := len
            omega
        have hlast' := last_getElem hlast
        obtain ⟨v', hv', hdv⟩ := dpAll_get (i := (mergedZ (zs.take i)).length - 1) (d := zdK y) hy (by rw [List.getElem?_map, hlast']; rfl)
        rw [← len] at hv'
        obtain ⟨b', o', t', rfl, hb', ho', ht'⟩ := zdK_inv hdv
        have hat := atI_neg1 hv'
        refine ⟨_, rfl, 1, rfl, D, ys, -1, _, rfl, rfl, SqL.of hD, hat, 1, rfl, b', _, rfl, hb', by show ¬ (HT.sIx 3 0 (some 1) = 0 ∧ HT.sIx 3 3 none = 3); decide, fun p1 np1 => ?_⟩
        have S1 : Same H' (upd H' p1 (.tup [o', t'])) := same1 np1
        have e1 : (upd H' p1 (.tup [o', t'])) p1 = some (.tup [o', t']) := upd_same
        have ec : cutV [.int y.c, o', t'] (some 1) none = [o', t'] := rfl
        rw [ec]
        generalize upd H' p1 (.tup [o', t']) = H1 at S1 e1 ⊢
        refine ⟨_, rfl, _, rfl, by show 2 ≤ sizeLine; decide, fun p2 np2 => ?_⟩
        have S2 : Same H1 (upd H1 p2 (.tup [o, t])) := same1 np2
        have e2 : (upd H1 p2 (.tup [o, t])) p2 = some (.tup [o, t]) := upd_same
        generalize upd H1 p2 (.tup [o, t]) = H2 at S2 e2 ⊢
        have S12 := S1.trans S2
        refine ⟨pairD y, pairD z, .tup (.inl (.inl (S2 _ _ e1))) (.cons (dp_same S12 _ ho') (.cons (dp_same S12 _ ht') .nil)), .tup (.inl (.inl e2)) (.cons (dp_same S12 _ ho) (.cons (dp_same S12 _ ht) .nil)), shaped_pair y, shaped_pair z, _, rfl, ?_⟩
        rw [eqv_pair]
        refine ite2 (fun heq => ?_) (fun hneq => ?_)
        · have heq' := of_decide_eq_true heq
          have hD2 := S12 _ _ hD
          refine ⟨_, rfl, 1, rfl, D, ys, -1, _, rfl, rfl, SqL.of hD2, hat, b', _, 0, _, rfl, rfl, SqT.ts S12.ts hb', atI_nat (j := 0) rfl, _, rfl, y.c, z.c, rfl, rfl, _, rfl, _, rfl, by show 3 ≤ sizeLine; decide, fun p3 np3 => ?_⟩
          have S3 : Same H2 (upd H2 p3 (.tup [.int (y.c + z.c), o, t])) := same1 np3
          have e3 : (upd H2 p3 (.tup [.int (y.c + z.c), o, t])) p3 = some (.tup [.int (y.c + z.c), o, t]) := upd_same
          have S03 := S12.trans S3
          have hD3 := S3 _ _ hD2
          refine ⟨_, rfl, 1, rfl, D, ys, -1, ys.length - 1, rfl, rfl, hD3, ixN_neg1 pos, some (.int z.c), some o, some t, rfl, same_lst nD (S.trans S03) hD3, _, upd_same, ?_⟩
          have em : mergeStep (mergedZ (zs.take i)) z = (mergedZ (zs.take i)).set ((mergedZ (zs.take i)).length - 1) ⟨y.c + z.c, z.o, z.t⟩ := by
            rw [set_last _ _ (by
              intro e0
              rw [e0] at hlast
              cases hlast)]
            unfold mergeStep
            rw [hlast]
            exact if_pos heq'
          rw [snoc, em, List.map_set, ← len]
          refine dpAll_set _ (dpAll_imm (ts_lst hD3) _ (imm_zdKs _) (dpAll_same S03 _ hy)) (dp_imm (ts_lst hD3) (zdK ⟨y.c + z.c, z.o, z.t⟩) (imm_zdK _) ?_)
          exact .tup (.inl (.inl e3)) (.cons (.int _) (.cons (dp_same S03 _ ho) (.cons (dp_same S03 _ ht) .nil)))
        · have em : mergeStep (mergedZ (zs.take i)) z = mergedZ (zs.take i) ++ [z] := by
            unfold mergeStep
            rw [hlast]
            exact if_neg fun h => hneq (decide_eq_true h)
          refine ⟨_, rfl, .inl ⟨rfl, _, SqL.of (S12 _ _ hD)⟩, _, rfl, _, rfl, _, rfl, by show 3 ≤ sizeLine; decide, fun p np => ?_⟩
          have hD4 := (same1 (o := .tup [.int z.c, o, t]) np) _ _ (S12 _ _ hD)
          obtain ⟨ys', g1, g2, g3⟩ := behind S12 em p np
          exact ⟨D, ys, .ref p, rfl, rfl, hD4, small bound, some (.int z.c), some o, some t, rfl, g2, ys', g1, g3⟩
      · have e0 : ys = [] := by
          cases ys with
          | nil => rfl
          | cons _ _ => simp at he
        have em : mergeStep (mergedZ (zs.take i)) z = mergedZ (zs.take i) ++ [z] := by
          have m0 : mergedZ (zs.take i) = [] := by
            rw [e0] at len
            exact List.eq_nil_of_length_eq_zero len.symm
          rw [m0]
          rfl
        refine iteF ?_
        refine ⟨_, rfl, .inl ⟨rfl, _, SqL.of hD⟩, _, rfl, _, rfl, _, rfl, by show 3 ≤ sizeLine; decide, fun p np => ?_⟩
        have hD4 := (same1 (o := .tup [.int z.c, o, t]) np) _ _ hD
        obtain ⟨ys', g1, g2, g3⟩ := behind (Same.refl H') em p np
        exact ⟨D, ys, .ref p, rfl, rfl, hD4, small bound, some (.int z.c), some o, some t, rfl, g2, ys', g1, g3⟩
    · rintro σ H' ⟨y2, y3, y4, rfl, S, ys, hD, hy⟩
      rw [List.take_of_length_le (by
        have h2 := dpAll_len ha
        rw [List.length_map] at h2
        omega)] at hy
      exact ⟨_, rfl, q H' _ S (.lst (SqL.of hD) hy)⟩
end
end Fb
namespace Fb
open PySem PySem.Spec PyProof.Rows L2
section
variable {P : Program} {w : World} {K : PySem.W.Frag} {mg : Str → Option Value} {base : Heap}
/-! ### trimmed -/
theorem sc_trimmed : FnScope nm_trimmed ["zones"] (defScope s_trimmed) := ⟨rfl, rfl, rfl, by decide +kernel, rfl, by decide +kernel, by decide +kernel⟩
theorem join {c : Bool} {A B : Prop} (G : Hp → Prop) (H : Hp) (J : Hp → Prop) (e : B = G H) (rest : ∀ H1, J H1 → G H1) (hf : c = false → J H) (ht : c = true → (∀ H1, J H1 → G H1) → A) : if c = true then A else B := by
  cases c with
  | true =>
    rw [if_pos rfl]
    exact ht rfl rest
  | false =>
    rw [if_neg Bool.false_ne_true, e]
    exact rest H (hf rfl)
def len (zs : List Zn) : Int := (zs.map (·.c)).sum
def loZ (L b : Int) : Int := if L - 16 > b then L - 16 else b
def safeZ (L b : Int) (z : Zn) : Int := (if L - 16 < b + z.c then L - 16 else b + z.c) - b
def unitZ (L : Int) (z : Zn) (u : Int) : Zn := ⟨1, z.o.filter fun o => decide (u + o < L), z.t⟩
def safeP (L b : Int) (z : Zn) : List Zn := if safeZ L b z > 0 then [⟨safeZ L b z, z.o, z.t⟩] else []
def unitN (L b : Int) (z : Zn) : Nat := (b + z.c - loZ L b).toNat
def unitsZ (L b : Int) (z : Zn) (n : Nat) : List Zn := (List.range n).map fun (j : Nat) => unitZ L z (loZ L b + j)
def trimZ (L b : Int) (z : Zn) : List Zn := safeP L b z ++ unitsZ L b z (unitN L b z)
def trimmedF (L : Int) : Int → List Zn → List Zn
  | _, [] => []
  | b, z :: zs => trimZ L b z ++ trimmedF L (b + z.c) zs
def trimmedZ (zs : List Zn) : List Zn := trimmedF (len zs) 0 zs
theorem trimmedF_snoc (L : Int) : ∀ (l : List Zn) (b : Int) (z : Zn), trimmedF L b (l ++ [z]) = trimmedF L b l ++ trimZ L (b + len l) z
  | [], b, z => by simp [trimmedF, len]
  | y :: l, b, z => by
    rw [List.cons_append, trimmedF, trimmedF_snoc L l (b + y.c) z, trimmedF, List.append_assoc]
    have : b + len (y :: l) = b + y.c + len l := by
      unfold len
      rw [List.map_cons, List.sum_cons]
      omega
    rw [this]
theorem unitsZ_snoc (L b : Int) (z : Zn) (n : Nat) : unitsZ L b z (n + 1) = unitsZ L b z n ++ [unitZ L z (loZ L b + n)] := by
  unfold unitsZ
  rw [List.range_succ, List.map_append]
  rfl
def unitsTo (L x : Int) : Nat := (x - (if L - 16 > 0 then L - 16 else 0)).toNat
theorem unitN_le (L b : Int) (z : Zn) (h : 0 ≤ b) (hc : 0 ≤ z.c) : unitN L b z + unitsTo L b ≤ unitsTo L (b + z.c) := by
  unfold unitN unitsTo loZ
  split <;> split <;> omega
theorem trimmedF_len (L : Int) : ∀ (zs : List Zn) (b : Int), 0 ≤ b → (∀ z ∈ zs, 0 ≤ z.c) → (trimmedF L b zs).length + unitsTo L b ≤ zs.length + unitsTo L (b + len zs)
  | [], b, _, _ => by simp [trimmedF, len]
  | y :: l, b, h, hc => by
    have hy := hc y (.head _)
    have z := trimmedF_len L l (b + y.c) (by omega) fun x hx => hc x (.tail _ hx)
    have u := unitN_le L b y h hy
    have e : b + len (y :: l) = b + y.c + len l := by
      unfold len
      rw [List.map_cons, List.sum_cons]
      omega
    rw [e, trimmedF, List.length_append, List.length_cons]
    have t : (trimZ L b y).length ≤ 1 + unitN L b y := by
      unfold trimZ safeP unitsZ
      rw [List.length_append, List.length_map, List.length_range]
      split
      · exact Nat.le_refl _
      · show 0 + unitN L b y ≤ _
        omega
    omega
theorem unitsTo_len (L : Int) : unitsTo L L ≤ 16 := by
  unfold unitsTo
  split <;> omega
def spTrimmed (K : PySem.W.Frag) : Sp := fun vs H Q _ => ∃ (v : V) (zs : List Zn), vs = [v] ∧ Dp K H v (.list (zs.map zdK)) ∧ zs.length ≤ 90000 ∧ (∀ z ∈ zs, 0 ≤ z.c ∧ z.o.length ≤ 90000) ∧ gives K H (.list ((trimmedZ zs).map zdK)) Q
theorem dp_ints {H : Hp} {a : Addr} {l : List Int} {xs : List V} (h : SqT K H a xs) (e : DpAll K H xs (l.map .int)) : SqT K H a (l.map V.int) := by
  rw [ints_of_dpAll e] at h
  exact h
theorem ok_trimmed {f : Addr} {fd : FuncData} (F : Fun K "trimmed" "trimmed" s_trimmed f fd) (bt : Bt mg bn) (g_MOST_OFFSET : GInt mg "MOST_OFFSET" 16) (D_length_of : Def P w K mg base CX0 1 "length_of" ["zones"] (spLength K)) : FnOk P w K mg base CX0 2 f fd ["zones"] (spTrimmed K) := by
  refine F.ok sc_trimmed (fun vs H Q E h => ?_) (fun cdv A outer s H vs Q E hr h => ?_)
  · obtain ⟨v, zs, rfl, _⟩ := h
    rfl
  · obtain ⟨v, zs, rfl, hd, hl, hz, q⟩ := h
    obtain ⟨a, xs, rfl, hs, ha⟩ := dp_lst hd
    refine ⟨_, (pss_cons (ps_set (i := 1) sc_trimmed.nd rfl (.inr rfl) (pe_callD D_length_of hr (by decide) pass0 (pa_cons (pv 0) pa_nil)))
      (pss_cons (ps_set (i := 2) sc_trimmed.nd rfl (.inl rfl) (pe_lst pa_nil))
      (pss_cons (ps_set (i := 3) sc_trimmed.nd rfl (.inl rfl) pe_int)
      (pss_cons (ps_for PassesOwn.never rfl (pi_list (pv 0)) (pg_tup rfl (pgs_cons (pg_name (i := 4) sc_trimmed.nd rfl (.inl rfl)) (pgs_cons (pg_name (i := 5) sc_trimmed.nd rfl (.inl rfl)) (pgs_cons (pg_name (i := 6) sc_trimmed.nd rfl (.inl rfl)) pgs_nil))))
        (pss_cons (ps_set (i := 7) sc_trimmed.nd rfl (.inl rfl) (pe_op op_add (pv 3) (pv 4)))
        (pss_cons (ps_set (i := 8) sc_trimmed.nd rfl (.inl rfl) (pe_op op_sub (pe_callB (call_min2 rfl) (by rfl) (bt "min" (by decide)) PyProof.Rows.boot_min (pa_cons (pv 7) (pa_cons (pe_op op_sub (pv 1) (pe_globI (n := (16)) g_MOST_OFFSET)) pa_nil))) (pv 3)))
        (pss_cons (ps_if (pt_cmpR op_gt (pv 8) pe_int (nomark _))
          (pss_one (ps_expr (pe_bm PySem.F.plainAttrs_list PySem.F.slot_list_append PySem.F.type_list_append mt_append (pv 2) (pa_cons (pe_tup (pa_cons (pv 8) (pa_cons (pv 5) (pa_cons (pv 6) pa_nil)))) pa_nil))))
          pss_nil)
        (pss_cons (ps_for PassesOwn.never rfl (pi_range2L (by rfl) (bt "range" (by decide)) (pa_cons (pe_callB (call_max2 rfl) (by rfl) (bt "max" (by decide)) PyProof.Rows.boot_max (pa_cons (pv 3) (pa_cons (pe_op op_sub (pv 1) (pe_globI (n := (16)) g_MOST_OFFSET)) pa_nil))) (pa_cons (pv 7) pa_nil))) (pg_name (i := 9) sc_trimmed.nd rfl (.inr rfl))
          (pss_cons (ps_set (i := 10) sc_trimmed.nd rfl (.inl rfl) (pe_callTy (r := rTupOf K) call_tuple_of (by rfl) (bt "tuple" (by decide)) PyProof.Rows.boot_tuple (pa_cons (pe_lc (own := [("offset", 11)]) (g := (gName 11)) rfl sc_trimmed.nd (pi_tup (pv 5)) (blkOk_by (N := nm_trimmed) (sc := defScope s_trimmed) (by decide +kernel)) (fun _ _ _ _ _ => (pg_name (i := 11) sc_trimmed.nd rfl (.inl rfl))) (fun _ _ _ _ _ => (pts_one (pt_cmpR op_lt (pe_op op_add (pv 9) (pv 11)) (pv 1) (nomark _)))) (fun _ _ _ _ _ => (pv 11))) pa_nil)))
          (pss_one (ps_expr (pe_bm PySem.F.plainAttrs_list PySem.F.slot_list_append PySem.F.type_list_append mt_append (pv 2) (pa_cons (pe_tup (pa_cons pe_int (pa_cons (pv 10) (pa_cons (pv 6) pa_nil)))) pa_nil))))))
        (pss_one (ps_set (i := 3) sc_trimmed.nd rfl (.inl rfl) (pv 7))))))))
      (pss_one (ps_ret (pv 2))))))), ?_⟩
    refine ⟨_, rfl, _, _, _, rfl, hd, heads_K zs, by rw [List.length_map]; omega, fun H0 S0 => ?_⟩
    refine ⟨Nat.zero_le _, fun D nD => ?_⟩
    have e0 : (zs.map (·.c)).sum = len zs := rfl
    rw [e0]
    generalize hL : len zs = L at *
    refine ⟨_, rfl, a, rfl, ⟨_, (S0.trans (same1 nD)).seq hs⟩, for_list (K := K) (a := a) (xs := xs) (fun i σ H' => ∃ y4 y5 y6 y7 y8 y9 y10, σ = [some (.ref a), some (.int L), some (.ref D), some (.int (len (zs.take i))), y4, y5, y6, y7, y8, y9, y10, none] ∧ Same H0 H' ∧ ∃ ys, H' D = some (.lst ys) ∧ DpAll K H' ys ((trimmedF L 0 (zs.take i)).map zdK))
      ⟨none, none, none, none, none, none, none, rfl, same1 nD, [], upd_same, .nil⟩ (fun i σ H' _ ⟨_, _, _, _, _, _, _, _, S, _⟩ => (S0.trans S).seq hs) ?_ ?_⟩
    · rintro i x σ H' hi ⟨y4, y5, y6, y7, y8, y9, y10, rfl, S, ys, hD, hy⟩
      obtain ⟨d, hd1, hd2⟩ := dpAll_getV ha hi
      obtain ⟨z, hzi, rfl⟩ := map_getV hd1
      obtain ⟨b, o, t, rfl, hb, ho, ht⟩ := zdK_inv hd2
      have snoc : trimmedF L 0 (zs.take (i + 1)) = trimmedF L 0 (zs.take i) ++ trimZ L (len (zs.take i)) z := by
        rw [take_snoc hzi, trimmedF_snoc, Int.zero_add]
      have nextB : len (zs.take (i + 1)) = len (zs.take i) + z.c := by
        rw [take_snoc hzi]
        unfold len
        rw [List.map_append, List.sum_append]
        simp
      have hzm : z ∈ zs := List.mem_of_getElem? hzi
      have zc := (hz z hzm).1
      have zo := (hz z hzm).2
      -- how long it may become
      have room : (trimmedF L 0 (zs.take (i + 1))).length ≤ 90016 := by
        have h1 := trimmedF_len L (zs.take (i + 1)) 0 (Int.le_refl _) fun y hy => (hz y (List.mem_of_mem_take hy)).1
        have h2 : len (zs.take (i + 1)) ≤ L := by
          rw [← hL]
          have : len zs = len (zs.take (i + 1)) + len (zs.drop (i + 1)) := by
            conv => lhs; rw [← List.take_append_drop (i + 1) zs]
            unfold len
            rw [List.map_append, List.sum_append]
          have h3 : ∀ l : List Zn, (∀ y ∈ l, 0 ≤ y.c) → 0 ≤ len l := by
            intro l
            induction l with
            | nil => intro _; exact Int.le_refl _
            | cons y l ih =>
              intro h
              have h4 := ih fun y hy => h y (.tail _ hy)
              have h5 := h y (.head _)
              have : len (y :: l) = y.c + len l := by
                unfold len
                rw [List.map_cons, List.sum_cons]
              omega
          have := h3 (zs.drop (i + 1)) fun y hy => (hz y (List.mem_of_mem_drop hy)).1
          omega
        have h4 : unitsTo L (0 + len (zs.take (i + 1))) ≤ unitsTo L L := by
          unfold unitsTo
          split <;> omega
        have h5 := unitsTo_len L
        rw [List.length_take] at h1
        omega
      have len0 := dpAll_len hy
      rw [List.length_map] at len0
      rw [snoc, List.length_append] at room
      rw [nextB]
      generalize len (zs.take i) = B at *
      refine ⟨b, _, rfl, SqT.ts (S0.trans S).ts hb, rfl, _, _, rfl, _, _, rfl, _, _, rfl, rfl, ?_⟩
      refine ⟨_, rfl, _, rfl, _, _, rfl, rfl, ?_⟩
      refine ⟨_, rfl, _, rfl, _, _, rfl, rfl, _, _, rfl, _, rfl, _, _, rfl, rfl, ?_⟩
      -- the zones told so far, the list's own place
      have put : ∀ {H1 : Hp} {ys1 : List V} {zs1 : List Zn} (z1 : Zn) {o1 t1 : V}, Same H0 H1 → H1 D = some (.lst ys1) → DpAll K H1 ys1 (zs1.map zdK) → Dp K H1 o1 (tupI z1.o) → Dp K H1 t1 (tupI z1.t) → ∀ p, H1 p = none →
          Same H0 (upd (upd H1 p (.tup [.int z1.c, o1, t1])) D (.lst (ys1 ++ [.ref p]))) ∧ ∃ ys', upd (upd H1 p (.tup [.int z1.c, o1, t1])) D (.lst (ys1 ++ [.ref p])) D = some (.lst ys') ∧ DpAll K (upd (upd H1 p (.tup [.int z1.c, o1, t1])) D (.lst (ys1 ++ [.ref p]))) ys' ((zs1 ++ [z1]).map zdK) := by
        intro H1 ys1 zs1 z1 o1 t1 S1 hD1 hy1 ho1 ht1 p np
        have S2 : Same H1 (upd H1 p (.tup [.int z1.c, o1, t1])) := same1 np
        have hD2 := S2 _ _ hD1
        refine ⟨same_lst nD (S1.trans S2) hD2, _, upd_same, ?_⟩
        rw [List.map_append]
        refine dpAll_append (dpAll_imm (ts_lst hD2) _ (imm_zdKs _) (dpAll_same S2 _ hy1)) (.cons (dp_imm (ts_lst hD2) (zdK z1) (imm_zdK z1) ?_) .nil)
        exact .tup (.inl (.inl upd_same)) (.cons (.int _) (.cons (dp_same S2 _ ho1) (.cons (dp_same S2 _ ht1) .nil)))
      refine ⟨_, rfl, _, _, rfl, rfl, ?_⟩
      refine ⟨_, rfl, join _ H' (fun H1 => Same H0 H1 ∧ ∃ ys1, H1 D = some (.lst ys1) ∧ DpAll K H1 ys1 ((trimmedF L 0 (zs.take i) ++ safeP L B z).map zdK)) rfl ?_ ?_ ?_⟩
      · rintro H1 ⟨S1, ys1, hD1, hy1⟩
        refine ⟨_, rfl, _, rfl, _, _, rfl, rfl, _, _, rfl, _, rfl, _, _, rfl, ?_⟩
        refine for_range (lo := loZ L B) (n := unitN L B z) (fun j σ H2 => ∃ y9 y10, σ = [some (.ref a), some (.int L), some (.ref D), some (.int B), some (.int z.c), some o, some t, some (.int (B + z.c)), some (.int (safeZ L B z)), y9, y10, none] ∧ Same H0 H2 ∧ ∃ ys2, H2 D = some (.lst ys2) ∧ DpAll K H2 ys2 ((trimmedF L 0 (zs.take i) ++ safeP L B z ++ unitsZ L B z j).map zdK))
          ⟨_, _, rfl, S1, ys1, hD1, by rw [show unitsZ L B z 0 = [] from rfl, List.append_nil]; exact hy1⟩ ?_ ?_
        · rintro j σ H2 hj ⟨y9, y10, rfl, S2, ys2, hD2, hy2⟩
          have S02 := S0.trans S2
          obtain ⟨oa, os, rfl, hos, hosA⟩ := dp_tup (dp_same S02 _ ho)
          have hos := dp_ints hos hosA
          have len2 := dpAll_len hy2
          rw [List.length_map, List.length_append, List.length_append] at len2
          have lenu : (unitsZ L B z j).length = j := by
            unfold unitsZ
            rw [List.length_map, List.length_range]
          have lent : (trimZ L B z).length = (safeP L B z).length + unitN L B z := by
            unfold trimZ unitsZ
            rw [List.length_append, List.length_map, List.length_range]
          generalize hu : loZ L B + (j : Int) = u
          refine ⟨_, rfl, oa, rfl, ⟨_, hos⟩, fun C nC => ?_⟩
          refine lc_tup (xs := z.o.map V.int) (fun k H3 => Same H2 H3 ∧ H3 C = some (.lst (((z.o.take k).filter fun o => decide (u + o < L)).map V.int))) ⟨same1 nC, upd_same⟩ (fun k H3 _ h => SqT.ts h.1.ts hos) ?_ ?_
          · rintro k x H3 hk ⟨S3, hC⟩
            obtain ⟨v, hv, rfl⟩ : ∃ v, z.o[k]? = some v ∧ x = .int v := by
              rw [List.getElem?_map] at hk
              cases e : z.o[k]? with
              | none => rw [e] at hk; cases hk
              | some v => rw [e] at hk; exact ⟨v, rfl, (Option.some.inj hk).symm⟩
            refine ⟨rfl, ?_⟩
            have hlen : ((z.o.take k).filter fun o => decide (u + o < L)).length ≤ 90000 := by
              have h1 := List.length_filter_le (fun o => decide (u + o < L)) (z.o.take k)
              rw [List.length_take] at h1
              omega
            refine ⟨_, rfl, _, rfl, _, _, rfl, rfl, _, rfl, _, _, rfl, rfl, _, rfl, ite2 (fun hlt => ?_) (fun hlt => ?_)⟩
            · refine ⟨_, rfl, _, hC, small (by rw [List.length_map]; omega), same_lst nC S3 hC, ?_⟩
              rw [upd_same, take_snoc hv, List.filter_append, List.map_append]
              rw [show List.filter (fun o => decide (u + o < L)) [v] = [v] from List.filter_cons_of_pos hlt]
              rfl
            · refine ⟨S3, ?_⟩
              rw [hC, take_snoc hv, List.filter_append]
              rw [show List.filter (fun o => decide (u + o < L)) [v] = [] from List.filter_cons_of_neg hlt, List.append_nil]
          · rintro H3 ⟨S3, hC⟩
            rw [List.length_map, List.take_length] at hC
            refine ⟨C, _, rfl, .inl ⟨SqL.of hC, fun l nl => ?_⟩⟩
            have S4 : Same H3 (upd H3 l (.tup ((z.o.filter fun o => decide (u + o < L)).map V.int))) := same1 nl
            have e4 : (upd H3 l (.tup ((z.o.filter fun o => decide (u + o < L)).map V.int))) l = some (.tup ((z.o.filter fun o => decide (u + o < L)).map V.int)) := upd_same
            generalize upd H3 l (.tup ((z.o.filter fun o => decide (u + o < L)).map V.int)) = H4 at S4 e4 ⊢
            have S24 := S3.trans S4
            have S04 := S2.trans S24
            refine ⟨_, rfl, .inl ⟨rfl, _, SqL.of (S24 _ _ hD2)⟩, _, rfl, _, rfl, by show 3 ≤ sizeLine; decide, fun p np => ?_⟩
            have hD5 := (same1 (o := .tup [.int 1, .ref l, t]) np) _ _ (S24 _ _ hD2)
            have o4 : Dp K H4 (.ref l) (tupI (unitZ L z u).o) := .tup (.inl (.inl e4)) (dpAll_ints _)
            have t4 : Dp K H4 t (tupI (unitZ L z u).t) := dp_same (S0.trans S04) _ ht
            refine ⟨D, ys2, .ref p, rfl, rfl, hD5, small (by omega), _, _, rfl, ?_⟩
            rw [unitsZ_snoc, hu, ← List.append_assoc]
            exact put (unitZ L z u) S04 (S24 _ _ hD2) (dpAll_same S24 _ hy2) o4 t4 p np
        · rintro σ H2 ⟨y9, y10, rfl, S2, ys2, hD2, hy2⟩
          refine ⟨_, rfl, _, _, _, _, _, _, _, rfl, S2, ys2, hD2, ?_⟩
          rw [snoc]
          unfold trimZ
          rw [← List.append_assoc]
          exact hy2
      · intro hs0
        have : safeP L B z = [] := if_neg (of_decide_eq_false hs0)
        rw [this, List.append_nil]
        exact ⟨S, ys, hD, hy⟩
      · intro hs1 rest
        have e1 : safeP L B z = [⟨safeZ L B z, z.o, z.t⟩] := if_pos (of_decide_eq_true hs1)
        refine ⟨_, rfl, .inl ⟨rfl, _, SqL.of hD⟩, _, rfl, _, rfl, _, rfl, by show 3 ≤ sizeLine; decide, fun p np => ?_⟩
        have hD1 := (same1 (o := .tup [.int (safeZ L B z), o, t]) np) _ _ hD
        refine ⟨D, ys, .ref p, rfl, rfl, hD1, small (by omega), rest _ ?_⟩
        rw [e1]
        exact put ⟨safeZ L B z, z.o, z.t⟩ S hD hy (dp_same (S0.trans S) _ ho) (dp_same (S0.trans S) _ ht) p np
    · rintro σ H' ⟨y4, y5, y6, y7, y8, y9, y10, rfl, S, ys, hD, hy⟩
      rw [List.take_of_length_le (by
        have h2 := dpAll_len ha
        rw [List.length_map] at h2
        omega)] at hy
      refine ⟨_, rfl, q H' _ (S0.trans S) (.lst (SqL.of hD) ?_)⟩
      unfold trimmedZ
      rw [hL]
      exact hy
end
end Fb
namespace Fb
open PySem PySem.Spec PyProof.Rows L2
section
variable {P : Program} {w : World} {K : PySem.W.Frag} {mg : Str → Option Value} {base : Heap}
/-! ### standing_at -/
def StandsAt (bs : List Int) (u : Int) (r : Nat) : Prop := r < bs.length ∧ (r = 0 ∨ ∃ b, bs[r]? = some b ∧ b ≤ u) ∧ (r + 1 = bs.length ∨ ∃ b, bs[r + 1]? = some b ∧ u < b)
def spStanding (K : PySem.W.Frag) : Sp := fun vs H Q _ => ∃ (v : V) (bs : List Int) (u : Int), vs = [v, .int u] ∧ Dp K H v (.list (bs.map .int)) ∧ bs ≠ [] ∧ ∀ r, StandsAt bs u r → Q (.int (r : Nat)) H
theorem ok_standing_at {f : Addr} {fd : FuncData} (F : Fun K "standing_at" "standing_at" s_standing_at f fd) (bt : Bt mg bn) : FnOk P w K mg base CX0 1 f fd ["begins", "unknown"] (spStanding K) := by
  refine F.ok sc_standing_at (fun vs H Q E h => ?_) (fun cdv A outer s H vs Q E hr h => ?_)
  · obtain ⟨v, bs, u, rfl, _⟩ := h
    rfl
  · obtain ⟨v, bs, u, rfl, hd, hne, q⟩ := h
    obtain ⟨a, xs, rfl, hs, ha⟩ := dp_lst hd
    have e := ints_of_dpAll ha
    subst e
    refine ⟨_, (pss_cons (ps_set (i := 2) sc_standing_at.nd rfl (.inl rfl) pe_int)
      (pss_cons (ps_set (i := 3) sc_standing_at.nd rfl (.inl rfl) (pe_callB call_len_seq (by rfl) (bt "len" (by decide)) PySem.boot_len (pa_cons (pv 0) pa_nil)))
      (pss_cons (ps_while PassesOwn.never (pt_cmpR op_gt (pe_op op_sub (pv 3) (pv 2)) pe_int (nomark _))
        (pss_cons (ps_set (i := 4) sc_standing_at.nd rfl (.inl rfl) (pe_op op_fdiv (pe_op op_add (pv 2) (pv 3)) pe_int))
        (pss_one (ps_if (pt_cmpR op_le (pe_ix (r := rIxL K) ix_list (pv 0) (pv 4) (fun _ _ => rfl)) (pv 1) (nomark _))
          (pss_one (ps_set (i := 2) sc_standing_at.nd rfl (.inl rfl) (pv 4)))
          (pss_one (ps_set (i := 3) sc_standing_at.nd rfl (.inl rfl) (pv 4)))))))
      (pss_one (ps_ret (pv 2)))))), ?_⟩
    have hp : 0 < bs.length := by
      cases bs with
      | nil => exact absurd rfl hne
      | cons _ _ => exact Nat.succ_pos _
    refine ⟨_, rfl, a, _, rfl, .inl hs, ?_⟩
    let W : Nat → L2.St → Hp → Prop := fun m σ H' => ∃ lo hi : Nat, ∃ y4, m = hi - lo ∧ σ = [some (.ref a), some (.int u), some (.int (lo : Nat)), some (.int (hi : Nat)), y4] ∧ H' = H ∧ lo < hi ∧ hi ≤ bs.length ∧ (lo = 0 ∨ ∃ b, bs[lo]? = some b ∧ b ≤ u) ∧ (hi = bs.length ∨ ∃ b, bs[hi]? = some b ∧ u < b)
    refine ⟨W, ⟨_, 0, bs.length, none, rfl, by rw [List.length_map]; rfl, rfl, hp, Nat.le_refl _, .inl rfl, .inl rfl⟩, ?_⟩
    · rintro _ σ H' ⟨lo, hi, y4, rfl, rfl, rfl, h1, h2, h3, h4⟩
      refine ⟨_, rfl, _, rfl, _, _, rfl, rfl, _, _, rfl, rfl, _, rfl, ite2 (fun hlt => ⟨fun σ' H' => ∃ m', m' < hi - lo ∧ W m' σ' H', fun _ _ h => h, ?_⟩) (fun hlt => ?_)⟩
      · have hlt := of_decide_eq_true hlt
        have em : ((lo : Int) + (hi : Int)) / 2 = (((lo + hi) / 2 : Nat) : Int) := by omega
        have m1 : lo < (lo + hi) / 2 := by omega
        have m2 : (lo + hi) / 2 < hi := by omega
        generalize hm : (lo + hi) / 2 = m at *
        refine ⟨_, rfl, _, rfl, _, _, rfl, rfl, _, _, rfl, rfl, ?_, ?_⟩
        · exact ⟨by decide, by decide⟩
        · try dsimp only
          rw [em]
          obtain ⟨b, hb⟩ : ∃ b, bs[m]? = some b := ⟨bs[m]'(by omega), List.getElem?_eq_getElem _⟩
          have hbv : (bs.map V.int)[m]? = some (.int b) := by rw [List.getElem?_map, hb]; rfl
          refine ⟨_, rfl, _, rfl, a, _, _, _, rfl, rfl, hs, atI_nat hbv, _, rfl, _, _, rfl, rfl, _, rfl, ite2 (fun hle => ?_) (fun hle => ?_)⟩
          · exact ⟨_, rfl, hi - m, by omega, m, hi, _, rfl, rfl, rfl, m2, h2, .inr ⟨b, hb, of_decide_eq_true hle⟩, h4⟩
          · have hle := of_decide_eq_false (Bool.eq_false_iff.mpr hle)
            exact ⟨_, rfl, m - lo, by omega, lo, m, _, rfl, rfl, rfl, m1, by omega, h3, .inr ⟨b, hb, by omega⟩⟩
      · have hlt := of_decide_eq_false (Bool.eq_false_iff.mpr hlt)
        refine ⟨_, rfl, q lo ⟨by omega, h3, ?_⟩⟩
        have : lo + 1 = hi := by omega
        rw [this]
        exact h4
/-! ### mask_of -/
theorem sc_mask_of : FnScope nm_mask_of ["offsets", "touches"] (defScope s_mask_of) := ⟨rfl, rfl, rfl, by decide +kernel, rfl, by decide +kernel, by decide +kernel⟩
def maskO (os : List Int) : Nat := os.foldl (fun m o => m ||| (1 <<< (o - 1).toNat)) 0
def maskT (m : Nat) (ts : List Int) : Nat := ts.foldl (fun m t => m ||| (1 <<< (16 + t).toNat)) m
def maskF (os ts : List Int) : Nat := maskT (maskO os) ts
def spMask (K : PySem.W.Frag) : Sp := fun vs H Q _ => ∃ (o t : V) (os ts : List Int), vs = [o, t] ∧ Dp K H o (tupI os) ∧ Dp K H t (tupI ts) ∧ (∀ x ∈ os, 1 ≤ x ∧ x ≤ 1000) ∧ (∀ x ∈ ts, 0 ≤ x ∧ x ≤ 1000) ∧ Q (.int (maskF os ts : Nat)) H
theorem ok_mask_of {f : Addr} {fd : FuncData} (F : Fun K "mask_of" "mask_of" s_mask_of f fd) (bt : Bt mg bn) (g_MOST_OFFSET : GInt mg "MOST_OFFSET" 16) : FnOk P w K mg base CX0 1 f fd ["offsets", "touches"] (spMask K) := by
  refine F.ok sc_mask_of (fun vs H Q E h => ?_) (fun cdv A outer s H vs Q E hr h => ?_)
  · obtain ⟨o, t, os, ts, rfl, _⟩ := h
    rfl
  · obtain ⟨o, t, os, ts, rfl, ho, ht, h1, h2, q⟩ := h
    obtain ⟨oa, os', rfl, hos, hosA⟩ := dp_tup ho
    obtain ⟨ta, ts', rfl, hts, htsA⟩ := dp_tup ht
    have hos := dp_ints hos hosA
    have hts := dp_ints hts htsA
    refine ⟨_, (pss_cons (ps_set (i := 2) sc_mask_of.nd rfl (.inl rfl) pe_int)
      (pss_cons (ps_for PassesOwn.never rfl (pi_tup (pv 0)) (pg_name (i := 3) sc_mask_of.nd rfl (.inl rfl))
        (pss_one (ps_aug (i := 2) sc_mask_of.nd rfl (.inl rfl) (pe_op op_shl1N pe_int (pe_op op_sub (pv 3) pe_int)) ip_orN)))
      (pss_cons (ps_for PassesOwn.never rfl (pi_tup (pv 1)) (pg_name (i := 4) sc_mask_of.nd rfl (.inl rfl))
        (pss_one (ps_aug (i := 2) sc_mask_of.nd rfl (.inl rfl) (pe_op op_shl1N pe_int (pe_op op_add (pe_globI (n := (16)) g_MOST_OFFSET) (pv 4))) ip_orN)))
      (pss_one (ps_ret (pv 2)))))), ?_⟩
    refine ⟨_, rfl, oa, rfl, ⟨_, hos⟩, for_tup (K := K) (a := oa) (xs := os.map V.int) (fun i σ H' => ∃ y3 y4, σ = [some (.ref oa), some (.ref ta), some (.int (maskO (os.take i) : Nat)), y3, y4] ∧ H' = H) ⟨none, none, rfl, rfl⟩ (fun i σ H' _ ⟨_, _, _, e⟩ => by rw [e]; exact hos) ?_ ?_⟩
    · rintro i x σ H' hi ⟨y3, y4, rfl, rfl⟩
      obtain ⟨v, hv, rfl⟩ : ∃ v, os[i]? = some v ∧ x = .int v := by
        rw [List.getElem?_map] at hi
        cases e : os[i]? with
        | none => rw [e] at hi; cases hi
        | some v => rw [e] at hi; exact ⟨v, rfl, (Option.some.inj hi).symm⟩
      have hm := h1 v (List.mem_of_getElem? hv)
      refine ⟨_, rfl, _, rfl, _, _, rfl, rfl, (v - 1).toNat, rfl, by show V.int (v - 1) = _; congr 1; omega, by omega, _, _, rfl, rfl, some (.int v), y4, ?_, rfl⟩
      have : maskO (os.take (i + 1)) = maskO (os.take i) ||| 1 <<< (v - 1).toNat := by
        unfold maskO
        rw [take_snoc hv, List.foldl_append]
        rfl
      rw [this]
      rfl
    · rintro σ H' ⟨y3, y4, rfl, rfl⟩
      rw [List.length_map, List.take_length]
      refine ⟨_, rfl, ta, rfl, ⟨_, hts⟩, for_tup (K := K) (a := ta) (xs := ts.map V.int) (fun i σ H'' => ∃ y4, σ = [some (.ref oa), some (.ref ta), some (.int (maskT (maskO os) (ts.take i) : Nat)), y3, y4] ∧ H'' = H') ⟨y4, rfl, rfl⟩ (fun i σ H' _ ⟨_, _, e⟩ => by rw [e]; exact hts) ?_ ?_⟩
      · rintro i x σ H' hi ⟨y4, rfl, rfl⟩
        obtain ⟨v, hv, rfl⟩ : ∃ v, ts[i]? = some v ∧ x = .int v := by
          rw [List.getElem?_map] at hi
          cases e : ts[i]? with
          | none => rw [e] at hi; cases hi
          | some v => rw [e] at hi; exact ⟨v, rfl, (Option.some.inj hi).symm⟩
        have hm := h2 v (List.mem_of_getElem? hv)
        refine ⟨_, rfl, _, rfl, _, _, rfl, rfl, (16 + v).toNat, rfl, by show V.int (16 + v) = _; congr 1; omega, by omega, _, _, rfl, rfl, some (.int v), ?_, rfl⟩
        have : maskT (maskO os) (ts.take (i + 1)) = maskT (maskO os) (ts.take i) ||| 1 <<< (16 + v).toNat := by
          unfold maskT
          rw [take_snoc hv, List.foldl_append]
          rfl
        rw [this]
        rfl
      · rintro σ H' ⟨y4, rfl, rfl⟩
        rw [List.length_map, List.take_length]
        exact ⟨_, rfl, q⟩
/-! ### lowest -/
theorem sc_lowest : FnScope nm_lowest ["mask"] (defScope s_lowest) := ⟨rfl, rfl, rfl, by decide +kernel, rfl, by decide +kernel, by decide +kernel⟩
def spLow : Sp := fun vs H Q _ => ∃ n : Nat, vs = [.int n] ∧ n ≠ 0 ∧ ∀ k : Nat, n.testBit k = true → (∀ j, j < k → n.testBit j = false) → Q (.int k) H
theorem ok_lowest {f : Addr} {fd : FuncData} (F : Fun K "lowest" "lowest" s_lowest f fd) : FnOk P w K mg base CX0 1 f fd ["mask"] spLow := by
  refine F.ok sc_lowest (fun vs H Q E h => ?_) (fun cdv A outer s H vs Q E hr h => ?_)
  · obtain ⟨n, rfl, _⟩ := h
    rfl
  · obtain ⟨n, rfl, hn, q⟩ := h
    refine ⟨_, (pss_one (ps_ret (pe_op op_sub (pe_bits (pe_op op_and (pv 0) (pe_un un_neg (pv 0)))) pe_int))), ?_⟩
    obtain ⟨k, m, e⟩ := low_parts hn
    refine ⟨_, rfl, _, rfl, _, rfl, _, _, rfl, rfl, _, rfl, _, _, rfl, rfl, ?_⟩
    rw [low_and n k m e, intBits_pow]
    have z := q k (by rw [e]; exact low_at k m) fun j hj => by rw [e]; exact low_below k m hj
    have e2 : (((k + 1 : Nat) : Int) - 1) = (k : Int) := by omega
    rw [← e2] at z
    exact z
/-! ### hand_on -/
theorem sc_hand_on : FnScope nm_hand_on ["pending", "mask"] (defScope s_hand_on) := ⟨rfl, rfl, rfl, by decide +kernel, rfl, by decide +kernel, by decide +kernel⟩
theorem and_inner (m : Nat) : m &&& 65535 = m % 65536 := by
  have := Nat.and_two_pow_sub_one_eq_mod m 16
  exact this
theorem low_inner {m k : Nat} (h : (m % 65536).testBit k = true) (hb : ∀ j, j < k → (m % 65536).testBit j = false) : k = WM.low m ∧ k < 16 ∧ m.testBit k = true := by
  rw [show (65536 : Nat) = 2 ^ 16 from rfl, Nat.testBit_mod_two_pow, Bool.and_eq_true] at h
  have hk := of_decide_eq_true h.1
  obtain ⟨l1, l2, l3⟩ := WM.low_spec hk h.2
  refine ⟨?_, hk, h.2⟩
  rcases Nat.lt_or_ge (WM.low m) k with z | z
  · have := hb _ z
    rw [show (65536 : Nat) = 2 ^ 16 from rfl, Nat.testBit_mod_two_pow, l3, decide_eq_true l2] at this
    cases this
  · omega
theorem has_inner (m : Nat) : WM.has m = decide (m % 65536 ≠ 0) := by
  rw [Bool.eq_iff_iff, WM.has_iff, decide_eq_true_iff]
  constructor
  · rintro ⟨a, h1, h2⟩ e
    have : (m % 65536).testBit a = true := by
      rw [show (65536 : Nat) = 2 ^ 16 from rfl, Nat.testBit_mod_two_pow, h2, decide_eq_true h1]
      rfl
    rw [e, Nat.zero_testBit] at this
    cases this
  · intro h
    obtain ⟨k, a, e⟩ := low_parts h
    have h1 := low_at k a
    rw [← e, show (65536 : Nat) = 2 ^ 16 from rfl, Nat.testBit_mod_two_pow, Bool.and_eq_true] at h1
    exact ⟨k, of_decide_eq_true h1.1, h1.2⟩
theorem xor_inner (m : Nat) : m ^^^ (m % 65536) = (m / 65536) * 65536 := by
  apply Nat.eq_of_testBit_eq
  intro i
  rw [Nat.testBit_xor, show (65536 : Nat) = 2 ^ 16 from rfl, Nat.testBit_mod_two_pow, Nat.mul_comm (m / 2 ^ 16), Nat.testBit_two_pow_mul, Nat.testBit_div_two_pow]
  by_cases h : i < 16
  · rw [decide_eq_true h, decide_eq_false (by omega)]
    simp
  · rw [decide_eq_false h, decide_eq_true (by omega), show i - 16 + 16 = i by omega]
    simp
def vN (n : Nat) : V := .int (n : Int)
def handF (ss : List Nat) (m : Nat) : List Nat := if WM.has m = true then ss.set (WM.low m) (ss.getD (WM.low m) 0 ||| WM.rest m) else ss
def spHand (K : PySem.W.Frag) : Sp := fun vs H Q _ => ∃ (a : Addr) (m : Nat) (ss : List Nat), vs = [.ref a, .int m] ∧ H a = some (.lst (ss.map vN)) ∧ ss.length = 16 ∧ ∀ H', H' a = some (.lst ((handF ss m).map vN)) → (∀ b, b ≠ a → H' b = H b) → Q .non H'
theorem ok_hand_on {f : Addr} {fd : FuncData} (F : Fun K "hand_on" "hand_on" s_hand_on f fd) (bt : Bt mg bn) (g_INNER : GInt mg "INNER" 65535) (D_lowest : Def P w K mg base CX0 1 "lowest" ["mask"] spLow) : FnOk P w K mg base CX0 2 f fd ["pending", "mask"] (spHand K) := by
  refine F.ok sc_hand_on (fun vs H Q E h => ?_) (fun cdv A outer s H vs Q E hr h => ?_)
  · obtain ⟨a, m, ss, rfl, _⟩ := h
    rfl
  · obtain ⟨a, m, ss, rfl, ha, hl, q⟩ := h
    refine ⟨_, (pss_cons (ps_set (i := 2) sc_hand_on.nd rfl (.inl rfl) (pe_op op_andN (pv 1) (pe_globI (n := (65535)) g_INNER)))
      (pss_one (ps_if (pt_truth (pv 2) (by intro _; rfl))
        (pss_cons (ps_set (i := 3) sc_hand_on.nd rfl (.inl rfl) (pe_callD D_lowest hr (by decide) pass0 (pa_cons (pv 2) pa_nil)))
        (pss_one (ps_augS (pv 0) (pv 3) get_list (pe_op op_orN (pe_op op_shrN2 (pv 2) (pe_op op_add (pv 3) pe_int)) (pe_op op_xorN (pv 1) (pv 2))) ip_orN set_list)))
        pss_nil))), ?_⟩
    refine ⟨_, rfl, m, 65535, rfl, rfl, ?_⟩
    rw [show ((fun n m : Nat => n &&& m) m 65535) = m % 65536 from and_inner m]
    refine ⟨_, rfl, decide (m % 65536 ≠ 0), ?_, ?_⟩
    · show decide (m % 65536 ≠ 0) = (((m % 65536 : Nat) : Int) != 0)
      rw [Bool.eq_iff_iff, decide_eq_true_iff, bne_iff_ne]
      omega
    · rw [← has_inner]
      refine ite2 (fun hh => ?_) (fun hh => ?_)
      · have hh' := hh
        rw [has_inner] at hh'
        refine ⟨_, rfl, _, rfl, of_decide_eq_true hh', fun k hk hb => ?_⟩
        obtain ⟨rfl, hk16, hkm⟩ := low_inner hk hb
        have hat : (ss.map vN)[WM.low m]? = some (vN (ss.getD (WM.low m) 0)) := by
          rw [List.getElem?_map, List.getD_eq_getElem?_getD]
          rw [List.getElem?_eq_getElem (by omega)]
          rfl
        refine ⟨_, rfl, _, rfl, a, _, WM.low m, _, rfl, rfl, SqL.of ha, hat, _, rfl, _, rfl, _, _, rfl, rfl, (m % 65536), WM.low m + 1, rfl, ?_, _, rfl, _, rfl, m, m % 65536, rfl, rfl, _, _, rfl, rfl, _, _, rfl, rfl, ?_⟩
        · rfl
        · have e : handF ss m = ss.set (WM.low m) (ss.getD (WM.low m) 0 ||| WM.rest m) := if_pos hh
          rw [e] at q
          refine ⟨a, _, _, WM.low m, rfl, rfl, ha, ?_, ?_⟩
          · show ixN (ss.map vN).length ((WM.low m : Nat) : Int) = some (WM.low m)
            rw [List.length_map]
            unfold ixN
            rw [if_pos (by omega), Int.toNat_natCast, if_pos (by omega)]
          · refine q _ ?_ (fun b hb => upd_ne hb)
            rw [upd_same]
            show some (HO.lst ((List.set (ss.map vN) _ (vN (ss.getD (WM.low m) 0 ||| (((m % 65536) >>> (WM.low m + 1)) ||| (m ^^^ (m % 65536)))))))) = _
            rw [xor_inner, ← List.map_set]
            rfl
      · have e : handF ss m = ss := if_neg hh
        rw [e] at q
        exact q H ha fun b _ => rfl
end
end Fb
namespace Fb
open PySem PySem.Spec PyProof.Rows L2
section
variable {P : Program} {w : World} {K : PySem.W.Frag} {mg : Str → Option Value} {base : Heap}
/-! ### gcd, lcm -/
structure GFun (mg : Str → Option Value) (x : Str) (id : String) : Prop where
  ex : mg x = some (.builtin id)
def rLcm : List V → Hp → VK → Prop := fun vs H Q => ∃ a b : Int, vs = [.int a, .int b] ∧ a.natAbs < 2 ^ 64 ∧ b.natAbs < 2 ^ 64 ∧ Q (.int ((Nat.lcm a.natAbs b.natAbs : Nat) : Int)) H
theorem cr_lcm {X : Cx} : CallR X (.builtin "math.lcm") rLcm := by
  intro pins s σ H vs us Q I r h
  obtain ⟨a, b, rfl, h1, h2, q⟩ := h
  obtain ⟨t, u, rfl⟩ := Vals.int2 r
  exact PySem.W.mc_lcm h1 h2 fun _ => ⟨.int _, H, I.tok _, ⟨_, rfl⟩, q⟩
/-! ### Stretch -/
theorem sc_Stretch_init : FnScope nm_Stretch_init ["self", "begin", "end", "masks", "needless", "tail", "lap"] (defScope s_Stretch_init) := ⟨rfl, rfl, rfl, by decide +kernel, rfl, by decide +kernel, by decide +kernel⟩
def spStretchInit (C : Addr) : Sp := fun vs H Q _ => ∃ (x dx : Addr) (b e m nl t l : V), vs = [.ref x, b, e, m, nl, t, l] ∧ H x = some (.ins C dx []) ∧ Q .non (upd H x (.ins C dx [("begin", b), ("end", e), ("masks", m), ("needless", nl), ("tail", t), ("lap", l)]))
theorem ok_Stretch_init {f C : Addr} {fd : FuncData} (F : Fun K "__init__" "Stretch.__init__" s_Stretch_init f fd) (c : Cls K C) (n1 : NoAttr K C "begin") (n2 : NoAttr K C "end") (n3 : NoAttr K C "masks") (n4 : NoAttr K C "needless") (n5 : NoAttr K C "tail") (n6 : NoAttr K C "lap") :
    FnOk P w K mg base CX0 1 f fd ["self", "begin", "end", "masks", "needless", "tail", "lap"] (spStretchInit C) := by
  refine F.ok sc_Stretch_init (fun vs H Q E h => ?_) (fun cdv A outer s H vs Q E hr h => ?_)
  · obtain ⟨x, dx, b, e, m, nl, t, l, rfl, _⟩ := h
    rfl
  · obtain ⟨x, dx, b, e, m, nl, t, l, rfl, hx, q⟩ := h
    refine ⟨_, (pss_cons (ps_fld (pv 0) (pv 1) rfl)
      (pss_cons (ps_fld (pv 0) (pv 2) rfl)
      (pss_cons (ps_fld (pv 0) (pv 3) rfl)
      (pss_cons (ps_fld (pv 0) (pv 4) rfl)
      (pss_cons (ps_fld (pv 0) (pv 5) rfl)
      (pss_one (ps_fld (pv 0) (pv 6) rfl))))))), ?_⟩
    refine ⟨_, rfl, _, rfl, x, C, dx, _, rfl, hx, c, n1, by show 0 < 1000; decide, ?_⟩
    refine ⟨_, rfl, _, rfl, x, C, dx, _, rfl, upd_same, c, n2, by show 1 < 1000; decide, ?_⟩
    rw [upd_upd]
    refine ⟨_, rfl, _, rfl, x, C, dx, _, rfl, upd_same, c, n3, by show 2 < 1000; decide, ?_⟩
    rw [upd_upd]
    refine ⟨_, rfl, _, rfl, x, C, dx, _, rfl, upd_same, c, n4, by show 3 < 1000; decide, ?_⟩
    rw [upd_upd]
    refine ⟨_, rfl, _, rfl, x, C, dx, _, rfl, upd_same, c, n5, by show 4 < 1000; decide, ?_⟩
    rw [upd_upd]
    refine ⟨_, rfl, _, rfl, x, C, dx, _, rfl, upd_same, c, n6, by show 5 < 1000; decide, ?_⟩
    rw [upd_upd]
    exact q
/-! ### lap_of -/
theorem sc_lap_of : FnScope nm_lap_of ["offsets", "period"] (defScope s_lap_of) := ⟨rfl, rfl, rfl, by decide +kernel, rfl, by decide +kernel, by decide +kernel⟩
def gcdF (os : List Int) : Nat := os.foldl (fun g o => Nat.gcd g o.natAbs) 0
def lapF (os : List Int) (p : Nat) : Nat := Nat.lcm (max (gcdF os) 1) p
theorem gcdF_le : ∀ (os : List Int) (g : Nat), g ≤ 16 → (∀ x ∈ os, 1 ≤ x ∧ x ≤ 16) → os.foldl (fun g o => Nat.gcd g o.natAbs) g ≤ 16
  | [], g, h, _ => h
  | x :: os, g, h, ho => by
    refine gcdF_le os _ ?_ fun y hy => ho y (.tail _ hy)
    show Nat.gcd g x.natAbs ≤ 16
    have h1 := ho x (.head _)
    have := Nat.le_of_dvd (by omega : 0 < x.natAbs) (Nat.gcd_dvd_right g x.natAbs)
    omega
theorem lapF_pos (os : List Int) {p : Nat} (h : 1 ≤ p) : 1 ≤ lapF os p := Nat.lcm_pos (by omega) (by omega)
theorem lapF_le {os : List Int} {p : Nat} (h : ∀ x ∈ os, 1 ≤ x ∧ x ≤ 16) (hp : p ≤ 5800) : lapF os p ≤ 92800 := by
  have h1 := gcdF_le os 0 (by omega) h
  have h2 : lapF os p ≤ max (gcdF os) 1 * p := PySem.W.mc_lcm_le _ _
  have h3 : max (gcdF os) 1 * p ≤ 16 * 5800 := Nat.mul_le_mul (by unfold gcdF; omega) hp
  omega
def spLap (K : PySem.W.Frag) : Sp := fun vs H Q _ => ∃ (o : V) (os : List Int) (p : Nat), vs = [o, .int p] ∧ Dp K H o (tupI os) ∧ (∀ x ∈ os, 1 ≤ x ∧ x ≤ 16) ∧ p ≤ 5800 ∧ Q (.int (lapF os p : Nat)) H
theorem ok_lap_of {f : Addr} {fd : FuncData} (F : Fun K "lap_of" "lap_of" s_lap_of f fd) (bt : Bt mg bn) (g_gcd : GFun mg "gcd" "math.gcd") (g_lcm : GFun mg "lcm" "math.lcm") : FnOk P w K mg base CX0 1 f fd ["offsets", "period"] (spLap K) := by
  refine F.ok sc_lap_of (fun vs H Q E h => ?_) (fun cdv A outer s H vs Q E hr h => ?_)
  · obtain ⟨o, os, p, rfl, _⟩ := h
    rfl
  · obtain ⟨o, os, p, rfl, ho, h1, hp, q⟩ := h
    obtain ⟨oa, os', rfl, hos, hosA⟩ := dp_tup ho
    have hos := dp_ints hos hosA
    refine ⟨_, (pss_cons (ps_set (i := 2) sc_lap_of.nd rfl (.inl rfl) pe_int)
      (pss_cons (ps_for PassesOwn.never rfl (pi_tup (pv 0)) (pg_name (i := 3) sc_lap_of.nd rfl (.inl rfl))
        (pss_one (ps_set (i := 2) sc_lap_of.nd rfl (.inl rfl) (pe_callBfun cr_gcd (by rfl) g_gcd.ex (pa_cons (pv 2) (pa_cons (pv 3) pa_nil))))))
      (pss_one (ps_ret (pe_callBfun cr_lcm (by rfl) g_lcm.ex (pa_cons (pe_callB (call_max2 rfl) (by rfl) (bt "max" (by decide)) PyProof.Rows.boot_max (pa_cons (pv 2) (pa_cons pe_int pa_nil))) (pa_cons (pv 1) pa_nil))))))), ?_⟩
    refine ⟨_, rfl, oa, rfl, ⟨_, hos⟩, for_tup (K := K) (a := oa) (xs := os.map V.int) (fun i σ H' => ∃ y3, σ = [some (.ref oa), some (.int (p : Int)), some (.int (gcdF (os.take i) : Nat)), y3] ∧ H' = H) ⟨none, rfl, rfl⟩ (fun i σ H' _ ⟨_, _, e⟩ => by rw [e]; exact hos) ?_ ?_⟩
    · rintro i x σ H' hi ⟨y3, rfl, rfl⟩
      obtain ⟨v, hv, rfl⟩ : ∃ v, os[i]? = some v ∧ x = .int v := by
        rw [List.getElem?_map] at hi
        cases e : os[i]? with
        | none => rw [e] at hi; cases hi
        | some v => rw [e] at hi; exact ⟨v, rfl, (Option.some.inj hi).symm⟩
      refine ⟨_, rfl, _, rfl, _, _, rfl, some (.int v), ?_, rfl⟩
      have : gcdF (os.take (i + 1)) = Nat.gcd (gcdF (os.take i)) v.natAbs := by
        unfold gcdF
        rw [take_snoc hv, List.foldl_append]
        rfl
      rw [this]
      rfl
    · rintro σ H' ⟨y3, rfl, rfl⟩
      rw [List.length_map, List.take_length]
      have h2 := gcdF_le os 0 (by omega) h1
      have e : (if (1 : Int) > (gcdF os : Nat) then (1 : Int) else (gcdF os : Nat)) = ((max (gcdF os) 1 : Nat) : Int) := by
        split <;> omega
      refine ⟨_, rfl, _, _, rfl, _, rfl, _, _, rfl, ?_, ?_, ?_⟩
      · rw [e]
        unfold gcdF at *
        omega
      · omega
      · rw [e]
        exact q
/-! ### walked -/
theorem sc_walked : FnScope nm_walked ["begin", "zone", "pending"] (defScope s_walked) := ⟨rfl, rfl, rfl, by decide +kernel, rfl, by decide +kernel, by decide +kernel⟩
def keyN (l : List Nat) : List L2.Key := l.map fun n : Nat => (Sum.inl (n : Int) : L2.Key)
theorem keyN_V (l : List Nat) : (keyN l).map kV = l.map vN := by
  unfold keyN
  rw [List.map_map]
  rfl
theorem keyN_inj : ∀ {a b : List Nat}, keyN a = keyN b → a = b
  | [], [], _ => rfl
  | [], _ :: _, h => by cases h
  | _ :: _, [], h => by cases h
  | x :: a, y :: b, h => by
    have h1 : (Sum.inl (x : Int) : L2.Key) = Sum.inl (y : Int) := (List.cons.inj h).1
    have h2 : keyN a = keyN b := (List.cons.inj h).2
    have h3 : (x : Int) = (y : Int) := Sum.inl.inj h1
    rw [keyN_inj h2, Int.ofNat.inj h3]
theorem keyN_kvs {d : Nat} : True := trivial
def Dist (d : Nat) (ss : List Nat) (n : Nat) : Prop := ∀ i j, i < j → j < n → WM.St d ss i ≠ WM.St d ss j
theorem dist_le {d : Nat} {ss : List Nat} (h : WM.Pend ss) (hd : WM.Dir d) {n : Nat} (D : Dist d ss n) : n ≤ 5800 := by
  obtain ⟨k, p, h1, h2, h3⟩ := WM.St_again h hd
  rcases Nat.lt_or_ge 5800 n with z | z
  · exact absurd h3 (D k (k + p) (by omega) (by omega))
  · exact z
/-- how a zone's masks are told: those from number tail on again and again, or all of them -/
def Told (d : Nat) (ss : List Nat) (c n tail : Nat) : Prop := (tail = n ∧ n = c) ∨ (tail < n ∧ n < c ∧ WM.St d ss tail = WM.St d ss n)
def sts (d : Nat) (ss : List Nat) (n : Nat) : List (List Nat) := (List.range n).map (WM.St d ss)
def mss (d : Nat) (ss : List Nat) (n : Nat) : List Nat := (List.range n).map (WM.Ms d ss)
theorem upd_none {H : Hp} {a b : Addr} {o : HO} (h : upd H a o b = none) : b ≠ a ∧ H b = none := by
  by_cases e : b = a
  · rw [e, upd_same] at h
    cases h
  · rw [upd_ne e] at h
    exact ⟨e, h⟩
theorem sts_succ (d : Nat) (ss : List Nat) (n : Nat) : sts d ss (n + 1) = sts d ss n ++ [WM.St d ss n] := by
  unfold sts
  rw [List.range_succ, List.map_append]
  rfl
theorem mss_succ (d : Nat) (ss : List Nat) (n : Nat) : mss d ss (n + 1) = mss d ss n ++ [WM.Ms d ss n] := by
  unfold mss
  rw [List.range_succ, List.map_append]
  rfl
theorem sts_len (d : Nat) (ss : List Nat) (n : Nat) : (sts d ss n).length = n := by
  unfold sts
  rw [List.length_map, List.length_range]
theorem mss_len (d : Nat) (ss : List Nat) (n : Nat) : (mss d ss n).length = n := by
  unfold mss
  rw [List.length_map, List.length_range]
theorem sts_get {d : Nat} {ss : List Nat} {n j : Nat} {l : List Nat} (h : (sts d ss n)[j]? = some l) : j < n ∧ WM.St d ss j = l := by
  unfold sts at h
  rw [List.getElem?_map] at h
  by_cases hj : j < n
  · rw [List.getElem?_range hj] at h
    exact ⟨hj, Option.some.inj h⟩
  · rw [List.getElem?_eq_none (by rw [List.length_range]; omega)] at h
    cases h
theorem sts_at {d : Nat} {ss : List Nat} {n j : Nat} (h : j < n) : (sts d ss n)[j]? = some (WM.St d ss j) := by
  unfold sts
  rw [List.getElem?_map, List.getElem?_range h]
  rfl
def neM (d : Nat) (ss : List Nat) (n : Nat) : Nat := d &&& (WM.St d ss n).getD 0 0
def nes (d : Nat) (ss : List Nat) (n : Nat) : List Nat := (List.range n).map (neM d ss)
theorem nes_succ (d : Nat) (ss : List Nat) (n : Nat) : nes d ss (n + 1) = nes d ss n ++ [neM d ss n] := by
  unfold nes
  rw [List.range_succ, List.map_append]
  rfl
theorem nes_len (d : Nat) (ss : List Nat) (n : Nat) : (nes d ss n).length = n := by
  unfold nes
  rw [List.length_map, List.length_range]
def kvF (d : Nat) (ss : List Nat) (n : Nat) : List (List L2.Key × V) := (List.range n).map fun i => (keyN (WM.St d ss i), vN i)
theorem kvF_succ (d : Nat) (ss : List Nat) (n : Nat) : kvF d ss (n + 1) = kvF d ss n ++ [(keyN (WM.St d ss n), vN n)] := by
  unfold kvF
  rw [List.range_succ, List.map_append]
  rfl
theorem kvF_len (d : Nat) (ss : List Nat) (n : Nat) : (kvF d ss n).length = n := by
  unfold kvF
  rw [List.length_map, List.length_range]
theorem kvF_none {d : Nat} {ss l : List Nat} {n : Nat} (h : valV (kvF d ss n) (keyN l) = none) : ∀ j, j < n → WM.St d ss j ≠ l := by
  induction n with
  | zero => intro j hj; omega
  | succ n ih =>
    rw [kvF_succ] at h
    intro j hj e
    have h1 : valV (kvF d ss n ++ [(keyN (WM.St d ss n), vN n)]) (keyN l) = none := h
    unfold valV at h1
    rw [Option.map_eq_none_iff, List.find?_eq_none] at h1
    by_cases q : j < n
    · refine h1 (keyN (WM.St d ss j), vN j) (List.mem_append_left _ (List.mem_map.mpr ⟨j, List.mem_range.mpr q, rfl⟩)) ?_
      rw [e]
      simp
    · have : j = n := by omega
      subst this
      refine h1 (keyN (WM.St d ss j), vN j) (List.mem_append_right _ (by simp)) ?_
      rw [e]
      simp
theorem kvF_some {d : Nat} {ss l : List Nat} {n : Nat} {v : V} (h : valV (kvF d ss n) (keyN l) = some v) : ∃ j, j < n ∧ WM.St d ss j = l ∧ v = vN j := by
  unfold valV at h
  cases e : (kvF d ss n).find? fun kv => decide (kv.1 = keyN l) with
  | none => rw [e] at h; cases h
  | some p =>
    rw [e] at h
    have h1 := List.mem_of_find?_eq_some e
    have h2 := List.find?_some e
    unfold kvF at h1
    obtain ⟨j, hj, rfl⟩ := List.mem_map.mp h1
    exact ⟨j, List.mem_range.mp hj, keyN_inj (of_decide_eq_true h2), (Option.some.inj h).symm⟩
theorem kvF_keys {d : Nat} {ss : List Nat} {n : Nat} {H : Hp} {bs : List Addr} (h : IsKeys H (kvF d ss n) bs) {j : Nat} (hj : j < n) : ∃ b, bs[j]? = some b ∧ H b = some (.tup ((WM.St d ss j).map vN)) := by
  have hl : bs.length = n := by rw [← Paired.length h, kvF_len]
  have hk : (kvF d ss n)[j]? = some (keyN (WM.St d ss j), vN j) := by
    unfold kvF
    rw [List.getElem?_map, List.getElem?_range hj]
    rfl
  have key : ∀ (kvs : List (List L2.Key × V)) (bs : List Addr) (j : Nat) (p : List L2.Key × V), IsKeys H kvs bs → kvs[j]? = some p → ∃ b, bs[j]? = some b ∧ H b = some (.tup (p.1.map kV)) := by
    intro kvs bs j p h
    induction h generalizing j with
    | nil => intro e; simp at e
    | cons h1 _ ih =>
      intro e
      cases j with
      | zero =>
        simp at e
        subst e
        exact ⟨_, rfl, h1⟩
      | succ j => simpa using ih j (by simpa using e)
  obtain ⟨b, h1, h2⟩ := key _ _ j _ h hk
  rw [keyN_V] at h2
  exact ⟨b, h1, h2⟩
/-- the lap of a stretch: that of its period, or 1 where all is told -/
def LapOk (os : List Int) (n tail lap : Nat) : Prop := (tail = n ∧ lap = 1) ∨ (tail < n ∧ lap = lapF os (n - tail))
def strF (b0 e0 : Int) (Dm Dn : Addr) (tail lap : Nat) : List (Str × V) := [("begin", .int b0), ("end", .int e0), ("masks", .ref Dm), ("needless", .ref Dn), ("tail", .int tail), ("lap", .int lap)]
def spWalked (K : PySem.W.Frag) (C : Addr) : Sp := fun vs H Q _ => ∃ (b0 : Int) (zv : V) (pend : Addr) (z : Zn) (ss : List Nat) (H1 : Hp) (ds : List Cell), vs = [.int b0, zv, .ref pend] ∧ Own H1 ((pend, .lst (ss.map vN)) :: ds) H ∧ Dp K H1 zv (zdK z) ∧ WM.Pend ss ∧
  1 ≤ z.c ∧ (∀ x ∈ z.o, 1 ≤ x ∧ x ≤ 16) ∧ (∀ x ∈ z.t, 0 ≤ x ∧ x ≤ 5) ∧ WM.Dir (maskF z.o z.t) ∧
  ∀ H' st dx Dm Dn (n tail lap : Nat), Own H1 ((st, .ins C dx (strF b0 (b0 + z.c) Dm Dn tail lap)) :: (Dn, .lst ((nes (maskF z.o z.t) ss n).map vN)) :: (Dm, .lst ((mss (maskF z.o z.t) ss n).map vN)) :: (pend, .lst ((WM.St (maskF z.o z.t) ss z.c.toNat).map vN)) :: ds) H' →
    n ≤ 5800 → Told (maskF z.o z.t) ss z.c.toNat n tail → LapOk z.o n tail lap → Q (.ref st) H'
theorem ok_walked {f C : Addr} {fd : FuncData} (F : Fun K "walked" "walked" s_walked f fd) (bt : Bt mg bn)
    (D_mask_of : Def P w K mg base CX0 1 "mask_of" ["offsets", "touches"] (spMask K)) (D_hand_on : Def P w K mg base CX0 2 "hand_on" ["pending", "mask"] (spHand K)) (D_lap_of : Def P w K mg base CX0 1 "lap_of" ["offsets", "period"] (spLap K))
    (K_Stretch : DMake P w K mg base CX0 1 "Stretch" C ["self", "begin", "end", "masks", "needless", "tail", "lap"] (spStretchInit C)) : FnOk P w K mg base CX0 3 f fd ["begin", "zone", "pending"] (spWalked K C) := by
  refine F.ok sc_walked (fun vs H Q E h => ?_) (fun cdv A outer s H vs Q E hr h => ?_)
  · obtain ⟨b0, zv, pend, z, ss, H1, ds, rfl, _⟩ := h
    rfl
  · obtain ⟨b0, zv, pend, z, ss, HB, ds, rfl, W0, hzB, hP, hc, ho, ht, hD, q⟩ := h
    have hu : (A.deeper (envOfC "walked" (defScope s_walked) s.heap.objs.size f cdv)).units + 1 < cLine := by have := hr.un; omega
    refine ⟨_, (pss_cons (ps_asg (pv 1) (pg_tup rfl (pgs_cons (pg_name (i := 3) sc_walked.nd rfl (.inl rfl)) (pgs_cons (pg_name (i := 4) sc_walked.nd rfl (.inl rfl)) (pgs_cons (pg_name (i := 5) sc_walked.nd rfl (.inl rfl)) pgs_nil)))))
      (pss_cons (ps_set (i := 6) sc_walked.nd rfl (.inl rfl) (pe_callD D_mask_of hr (by decide) pass0 (pa_cons (pv 4) (pa_cons (pv 5) pa_nil))))
      (pss_cons (ps_set (i := 7) sc_walked.nd rfl (.inl rfl) (pe_lst pa_nil))
      (pss_cons (ps_set (i := 8) sc_walked.nd rfl (.inl rfl) pe_dnewT)
      (pss_cons (ps_set (i := 9) sc_walked.nd rfl (.inl rfl) (pe_lst pa_nil))
      (pss_cons (ps_while PassesOwn.never (pt_cmpR op_lt (pe_callB call_len_seq (by rfl) (bt "len" (by decide)) PySem.boot_len (pa_cons (pv 7) pa_nil)) (pv 3) (nomark _))
        (pss_cons (ps_set (i := 10) sc_walked.nd rfl (.inl rfl) (pe_callTy (r := rTupOf K) call_tuple_of (by rfl) (bt "tuple" (by decide)) PyProof.Rows.boot_tuple (pa_cons (pv 2) pa_nil)))
        (pss_cons (ps_if (pt_cmp (pc_din hu (pv 10) (pv 8)))
          (pss_cons (ps_set (i := 11) sc_walked.nd rfl (.inl rfl) (pe_dget hu (pv 8) (pv 10) (fun _ _ => rfl)))
          (pss_cons (ps_set (i := 12) sc_walked.nd rfl (.inl rfl) (pe_op op_sub (pe_callB call_len_seq (by rfl) (bt "len" (by decide)) PySem.boot_len (pa_cons (pv 7) pa_nil)) (pv 11)))
          (pss_cons (ps_asg (pe_ix (r := rIxL K) ix_list (pe_callTy (call_list_dT rfl) (by rfl) (bt "list" (by decide)) PyProof.Rows.boot_list (pa_cons (pv 8) pa_nil)) (pe_op op_add (pv 11) (pe_op op_mod (pe_op op_sub (pv 3) (pv 11)) (pv 12))) (fun _ _ => rfl)) (pg_all (pv 2)))
          (pss_one (ps_ret (pe_makeD K_Stretch hr (by decide) pass0 (pa_cons (pv 0) (pa_cons (pe_op op_add (pv 0) (pv 3)) (pa_cons (pv 7) (pa_cons (pv 9) (pa_cons (pv 11) (pa_cons (pe_callD D_lap_of hr (by decide) pass0 (pa_cons (pv 4) (pa_cons (pv 12) pa_nil))) pa_nil))))))))))))
          pss_nil)
        (pss_cons (ps_dput hu (pv 8) (pv 10) (pe_callB call_len_seq (by rfl) (bt "len" (by decide)) PySem.boot_len (pa_cons (pv 7) pa_nil)) rfl)
        (pss_cons (ps_set (i := 13) sc_walked.nd rfl (.inl rfl) (pe_bm PySem.F.plainAttrs_list PySem.F.slot_list_pop PySem.F.type_list_pop mt_popAt (pv 2) (pa_cons pe_int pa_nil)))
        (pss_cons (ps_expr (pe_bm PySem.F.plainAttrs_list PySem.F.slot_list_append PySem.F.type_list_append mt_append (pv 2) (pa_cons pe_int pa_nil)))
        (pss_cons (ps_set (i := 14) sc_walked.nd rfl (.inl rfl) (pe_op op_orN (pv 6) (pv 13)))
        (pss_cons (ps_expr (pe_bm PySem.F.plainAttrs_list PySem.F.slot_list_append PySem.F.type_list_append mt_append (pv 7) (pa_cons (pv 14) pa_nil)))
        (pss_cons (ps_expr (pe_bm PySem.F.plainAttrs_list PySem.F.slot_list_append PySem.F.type_list_append mt_append (pv 9) (pa_cons (pe_op op_andN (pv 6) (pv 13)) pa_nil)))
        (pss_one (ps_expr (pe_callD D_hand_on hr (by decide) pass0 (pa_cons (pv 2) (pa_cons (pv 14) pa_nil))))))))))))))
      (pss_one (ps_ret (pe_makeD K_Stretch hr (by decide) pass0 (pa_cons (pv 0) (pa_cons (pe_op op_add (pv 0) (pv 3)) (pa_cons (pv 7) (pa_cons (pv 9) (pa_cons (pv 3) (pa_cons pe_int pa_nil))))))))))))))), ?_⟩
    obtain ⟨zb, o, t, rfl, hzbB, hzoB, hztB⟩ := zdK_inv hzB
    have hzb := sqt_same W0.s hzbB
    have hzo := dp_same W0.s _ hzoB
    have hzt := dp_same W0.s _ hztB
    refine ⟨_, rfl, zb, _, rfl, hzb, rfl, _, _, rfl, _, _, rfl, _, _, rfl, rfl, ?_⟩
    refine ⟨_, rfl, _, rfl, o, t, z.o, z.t, rfl, hzo, hzt, fun x hx => by have := ho x hx; omega, fun x hx => by have := ht x hx; omega, ?_⟩
    generalize maskF z.o z.t = d at *
    refine ⟨Nat.zero_le _, fun Dm nDm => ?_⟩
    generalize e1 : upd _ Dm _ = H1
    have W1 := W0.new nDm e1
    refine fun Ds nDs => ?_
    generalize e2 : upd _ Ds _ = H2
    have W2 := W1.new nDs e2
    refine ⟨Nat.zero_le _, fun Dn nDn => ?_⟩
    generalize e3 : upd _ Dn _ = H3
    have W3 := W2.new nDn e3
    clear W1 W2 e1 e2 e3
    obtain ⟨c, hcc⟩ : ∃ c : Nat, z.c = (c : Int) := ⟨z.c.toNat, by omega⟩
    have hct : z.c.toNat = c := by omega
    rw [hct] at q
    rw [hcc] at q ⊢
    let W : Nat → L2.St → Hp → Prop := fun m σ H' => ∃ (n : Nat) (y10 y11 y12 y13 y14 : Option V), m = 5801 - n ∧
      σ = [some (.int b0), some (.ref zb), some (.ref pend), some (.int (c : Nat)), some o, some t, some (.int (d : Nat)), some (.ref Dm), some (.ref Ds), some (.ref Dn), y10, y11, y12, y13, y14] ∧
      n ≤ c ∧ Dist d ss n ∧ Own HB ((Dn, .lst ((nes d ss n).map vN)) :: (Ds, .dT (kvF d ss n)) :: (Dm, .lst ((mss d ss n).map vN)) :: (pend, .lst ((WM.St d ss n).map vN)) :: ds) H'
    refine ⟨W, ⟨_, 0, none, none, none, none, none, rfl, rfl, Nat.zero_le _, fun i j h1 h2 => absurd h2 (Nat.not_lt_zero _), W3⟩, ?_⟩
    rintro _ σ H' ⟨n, y10, y11, y12, y13, y14, rfl, rfl, hn, hDi, hW⟩
    have n5 := dist_le hP hD hDi
    have lm : ((mss d ss n).map vN).length = n := by rw [List.length_map, mss_len]
    refine ⟨_, rfl, Dm, _, rfl, .inl (SqL.of hW.g2), _, rfl, _, _, rfl, rfl, _, rfl, ite2 (fun hlt => ⟨fun σ' H' => ∃ m', m' < 5801 - n ∧ W m' σ' H', fun _ _ h => h, ?_⟩) (fun hlt => ?_)⟩
    · have hlt := of_decide_eq_true hlt
      rw [lm] at hlt
      have hlt : n < c := by omega
      refine ⟨_, rfl, pend, _, rfl, .inl ⟨SqL.of hW.g3, fun b nb => ?_⟩⟩
      generalize e1 : upd _ b _ = H1
      have W1 := hW.new nb e1
      have dg := DGet.t (k := keyN (WM.St d ss n)) W1.g2 (by rw [keyN_V]; exact W1.g0)
      refine ⟨_, rfl, _, rfl, Ds, _, rfl, dg, _, rfl, ?_⟩
      cases e : valV (kvF d ss n) (keyN (WM.St d ss n)) with
      | some v =>
        obtain ⟨j, hjn, hjs, rfl⟩ := kvF_some e
        rw [e] at dg
        refine iteT ⟨_, rfl, _, rfl, Ds, _, rfl, dg, ?_⟩
        have hm : (c - j) % (n - j) < n - j := Nat.mod_lt _ (by omega)
        generalize hi : j + (c - j) % (n - j) = i at *
        have hidx : ((j : Int) + ((c : Int) - (j : Int)) % (((((mss d ss n).map vN).length : Nat) : Int) - (j : Int))) = (i : Int) := by
          rw [lm, ← hi]
          have e1 : ((c : Int) - (j : Int)) = ((c - j : Nat) : Int) := by omega
          have e2 : ((n : Int) - (j : Int)) = ((n - j : Nat) : Int) := by omega
          rw [e1, e2, ← Int.natCast_emod]
          omega
        have hcyc : WM.St d ss c = WM.St d ss i := by
          have z := WM.St_cycle (d := d) (ss := ss) (a := j) (p := n - j) (by omega) (by rw [show j + (n - j) = n by omega]; exact hjs) (c - j)
          rw [show j + (c - j) = c by omega, hi] at z
          exact z
        refine ⟨_, rfl, Dm, _, rfl, .inl (SqL.of W1.g3), _, rfl, _, _, rfl, rfl, ?_⟩
        refine ⟨_, rfl, Ds, _, rfl, .inl W1.g2, fun L bs nL hk => ?_⟩
        obtain ⟨bb, h1, h2⟩ := kvF_keys hk (show i < n by omega)
        generalize e4 : upd _ L _ = H4
        have W4 := W1.new nL e4
        have h24 : H4 bb = some (.tup ((WM.St d ss i).map vN)) := by
          rw [← e4, upd_ne (ne_of_none h2 nL)]
          exact h2
        have hat : atI (bs.map V.ref) (i : Int) = some (.ref bb) := atI_nat (by rw [List.getElem?_map, h1]; rfl)
        refine ⟨_, rfl, _, rfl, _, rfl, _, _, rfl, rfl, _, rfl, _, _, rfl, rfl, ?_, _, _, rfl, rfl, L, _, _, .ref bb, rfl, rfl, SqL.of W4.g0, ?_, ?_⟩
        · show (0 : Int) < (((((mss d ss n).map vN).length : Nat) : Int) - (j : Int))
          rw [lm]
          omega
        · show atI (bs.map V.ref) ((j : Int) + ((c : Int) - (j : Int)) % (((((mss d ss n).map vN).length : Nat) : Int) - (j : Int))) = _
          rw [hidx]
          exact hat
        · refine ⟨_, rfl, pend, bb, _, _, rfl, rfl, W4.g5, .inl (.inl h24), ?_, ?_⟩
          · rw [List.length_map, List.length_map, WM.St_len hP.1, WM.St_len hP.1]
            show 32 ≤ sizeLine
            decide
          · generalize e5 : upd _ pend _ = H5
            have W5 := W4.tl2.set3 e5
            refine ⟨_, rfl, _, rfl, _, rfl, _, _, rfl, rfl, _, rfl, _, rfl, _, rfl, _, rfl, _, rfl, o, z.o, n - j, ?_, dp_same W5.s _ hzoB, ho, by omega, fun x dx nx ndx ne => ⟨x, dx, _, _, _, _, _, _, rfl, upd_same, rfl, ?_⟩⟩
            · rw [lm]
              show [o, V.int ((n : Int) - (j : Int))] = _
              rw [show (n : Int) - (j : Int) = ((n - j : Nat) : Int) by omega]
            · rw [upd_upd]
              have W6 := W5.ins nx ndx ne rfl (C := C) (fs := strF b0 (b0 + (c : Int)) Dm Dn j (lapF z.o (n - j)))
              have W7 := W6.sub (.cons₂ _ (.cons₂ _ (.cons _ (List.Sublist.refl _))))
              rw [hcyc] at q
              refine q _ x dx Dm Dn n j (lapF z.o (n - j)) W7 n5 (.inr ⟨hjn, hlt, hjs⟩) (.inr ⟨hjn, rfl⟩)
      | none =>
        have hnot := kvF_none e
        have hDi' : Dist d ss (n + 1) := fun i j h1 h2 => by
          by_cases hj : j < n
          · exact hDi i j h1 hj
          · have : j = n := by omega
            subst this
            exact hnot i h1
        have n6 := dist_le hP hD hDi'
        refine iteF ?_
        refine ⟨_, rfl, Dm, _, rfl, .inl (SqL.of W1.g3), _, rfl, _, rfl, Ds, _, rfl, DPut.t (k := keyN (WM.St d ss n)) W1.g2 (by rw [keyN_V]; exact W1.g0) (small (by rw [kvF_len]; omega)), ?_⟩
        rw [lm, show putK (kvF d ss n) (keyN (WM.St d ss n)) (V.int (n : Int)) = kvF d ss (n + 1) by rw [kvF_succ]; exact putK_new _ e]
        generalize e2 : upd _ Ds _ = H2
        have W2 := (W1.set2 e2).tl
        clear W1
        have pl : (WM.St d ss n).length = 16 := WM.St_len hP.1 n
        obtain ⟨m0, l0, hl0⟩ : ∃ m0 l0, WM.St d ss n = m0 :: l0 := by
          cases e : WM.St d ss n with
          | nil => rw [e] at pl; cases pl
          | cons m0 l0 => exact ⟨m0, l0, rfl⟩
        have hms : WM.Ms d ss n = d ||| m0 := by
          unfold WM.Ms
          rw [hl0]
          rfl
        have hne : neM d ss n = d &&& m0 := by
          unfold neM
          rw [hl0]
          rfl
        have hnx : WM.St d ss (n + 1) = WM.hand (l0 ++ [0]) (d ||| m0) := by
          show WM.next d (WM.St d ss n) = _
          rw [hl0]
          rfl
        rw [hl0] at W2 pl
        have l15 : l0.length = 15 := by simpa using pl
        refine ⟨_, rfl, .inl ⟨rfl, _, SqL.of W2.g3⟩, pend, _, 0, 0, vN m0, rfl, rfl, W2.g3, by decide, by decide, ?_, rfl, ?_⟩
        · rw [List.length_map, pl]
          rfl
        · generalize e4 : upd _ pend _ = H4
          have W4 : Own HB (_ :: _ :: _ :: (pend, .lst (l0.map vN)) :: ds) H4 := W2.set3 e4
          refine ⟨_, rfl, .inl ⟨rfl, _, SqL.of W4.g3⟩, pend, _, _, rfl, rfl, W4.g3, small (by rw [List.length_map]; omega), ?_⟩
          generalize e5 : upd _ pend _ = H5
          have W5 := W4.set3 e5
          rw [show l0.map vN ++ [V.int 0] = (l0 ++ [0]).map vN by rw [List.map_append]; rfl] at W5
          refine ⟨_, rfl, _, rfl, d, m0, rfl, rfl, ?_⟩
          refine ⟨_, rfl, .inl ⟨rfl, _, SqL.of W5.g2⟩, _, rfl, Dm, _, _, rfl, rfl, W5.g2, small (by rw [lm]; omega), ?_⟩
          generalize e6 : upd _ Dm _ = H6
          have W6 := W5.set2 e6
          rw [show (mss d ss n).map vN ++ [V.int (d ||| m0 : Nat)] = (mss d ss (n + 1)).map vN by rw [mss_succ, List.map_append, hms]; rfl] at W6
          refine ⟨_, rfl, .inl ⟨rfl, _, SqL.of W6.g0⟩, _, rfl, _, rfl, d, m0, rfl, rfl, Dn, _, _, rfl, rfl, W6.g0, small (by rw [List.length_map, nes_len]; omega), ?_⟩
          generalize e7 : upd _ Dn _ = H7
          have W7 := W6.set0 e7
          rw [show (nes d ss n).map vN ++ [V.int (d &&& m0 : Nat)] = (nes d ss (n + 1)).map vN by rw [nes_succ, List.map_append, hne]; rfl] at W7
          refine ⟨_, rfl, _, rfl, pend, d ||| m0, l0 ++ [0], rfl, W7.g3, by rw [List.length_append, l15]; rfl, fun H8 e8 fr8 => ?_⟩
          have W8 := W7.set3 (upd_eq e8 fr8)
          rw [show handF (l0 ++ [0]) (d ||| m0) = WM.St d ss (n + 1) from hnx.symm] at W8
          exact ⟨5801 - (n + 1), by omega, n + 1, _, _, _, _, _, rfl, rfl, hlt, hDi', W8⟩
    · have hlt := of_decide_eq_false (Bool.eq_false_iff.mpr hlt)
      rw [lm] at hlt
      have hnc : n = c := by omega
      subst hnc
      refine ⟨_, rfl, _, rfl, _, rfl, _, _, rfl, rfl, _, rfl, _, rfl, _, rfl, fun x dx nx ndx ne => ⟨x, dx, _, _, _, _, _, _, rfl, upd_same, rfl, ?_⟩⟩
      rw [upd_upd]
      have W6 := hW.ins nx ndx ne rfl (C := C) (fs := strF b0 (b0 + (n : Int)) Dm Dn n 1)
      have W7 := W6.sub (.cons₂ _ (.cons₂ _ (.cons _ (List.Sublist.refl _))))
      exact q _ x dx Dm Dn n n 1 W7 n5 (.inl ⟨rfl, rfl⟩) (.inl ⟨rfl, rfl⟩)
end
end Fb
namespace Fb
open PySem PySem.Spec PyProof.Rows L2
section
variable {P : Program} {w : World} {K : PySem.W.Frag} {mg : Str → Option Value} {base : Heap}
/-! ### hand_on_at_border -/
theorem sc_hand_on_at_border : FnScope nm_hand_on_at_border ["last", "mask"] (defScope s_hand_on_at_border) := ⟨rfl, rfl, rfl, by decide +kernel, rfl, by decide +kernel, by decide +kernel⟩
theorem sc_Elimination_eliminated_borders : FnScope nm_Elimination_eliminated_borders ["self", "borders"] (defScope s_Elimination_eliminated_borders) := ⟨rfl, rfl, rfl, by decide +kernel, rfl, by decide +kernel, by decide +kernel⟩
theorem sc_Elimination_init : FnScope nm_Elimination_init ["self", "borders", "told"] (defScope s_Elimination_init) := ⟨rfl, rfl, rfl, by decide +kernel, rfl, by decide +kernel, by decide +kernel⟩
def lowB (m : Nat) : Nat := ((List.range 64).find? fun a => m.testBit a).getD 0
theorem lowB_is {m k : Nat} (hk : k < 64) (h : m.testBit k = true) (hb : ∀ j, j < k → m.testBit j = false) : k = lowB m := by
  unfold lowB
  have : (List.range 64).find? (fun a => m.testBit a) = some k := by
    rw [List.find?_eq_some_iff_append]
    refine ⟨h, List.range k, (List.range (64 - k - 1)).map (· + (k + 1)), ?_, fun a ha => by rw [hb a (List.mem_range.mp ha)]; rfl⟩
    apply List.ext_getElem?
    intro i
    by_cases h1 : i < k
    · rw [List.getElem?_append_left (by rw [List.length_range]; exact h1), List.getElem?_range (by omega), List.getElem?_range h1]
    · rw [List.getElem?_append_right (by rw [List.length_range]; omega), List.length_range]
      by_cases h2 : i = k
      · subst h2
        rw [Nat.sub_self, List.getElem?_range (by omega)]
        rfl
      · obtain ⟨j, rfl⟩ : ∃ j, i = k + 1 + j := ⟨i - k - 1, by omega⟩
        rw [show k + 1 + j - k = j + 1 by omega, List.getElem?_cons_succ, List.getElem?_map]
        by_cases h3 : k + 1 + j < 64
        · rw [List.getElem?_range h3, List.getElem?_range (by omega)]
          show some (k + 1 + j) = some (j + (k + 1))
          rw [Nat.add_comm j]
        · rw [List.getElem?_eq_none (by rw [List.length_range]; omega), List.getElem?_eq_none (by rw [List.length_range]; omega)]
          rfl
  rw [this]
  rfl
def borderF (ls : List Nat) (m : Nat) : List Nat := if m ≠ 0 ∧ WM.has m = false then ls.set (lowB m - 16) (ls.getD (lowB m - 16) 0 ||| (m ^^^ (1 <<< lowB m))) else ls
theorem borderF_len (ls : List Nat) (m : Nat) : (borderF ls m).length = ls.length := by
  unfold borderF
  split
  · rw [List.length_set]
  · rfl
def spBorder (K : PySem.W.Frag) : Sp := fun vs H Q _ => ∃ (a : Addr) (m : Nat) (ls : List Nat), vs = [.ref a, .int m] ∧ H a = some (.lst (ls.map vN)) ∧ ls.length ≤ 6 ∧ (∀ k, 16 + ls.length ≤ k → m.testBit k = false) ∧
  ∀ H', H' a = some (.lst ((borderF ls m).map vN)) → (∀ b, b ≠ a → H' b = H b) → Q .non H'
theorem ok_hand_on_at_border {f : Addr} {fd : FuncData} (F : Fun K "hand_on_at_border" "hand_on_at_border" s_hand_on_at_border f fd) (g_INNER : GInt mg "INNER" 65535) (g_MOST_OFFSET : GInt mg "MOST_OFFSET" 16) (D_lowest : Def P w K mg base CX0 1 "lowest" ["mask"] spLow) :
    FnOk P w K mg base CX0 2 f fd ["last", "mask"] (spBorder K) := by
  refine F.ok sc_hand_on_at_border (fun vs H Q E h => ?_) (fun cdv A outer s H vs Q E hr h => ?_)
  · obtain ⟨a, m, ls, rfl, _⟩ := h
    rfl
  · obtain ⟨a, m, ls, rfl, ha, hl, hb, q⟩ := h
    refine ⟨_, (pss_one (ps_if (PW.pt (pw_and (pt_truth (pv 1) (by intro _; rfl)) (pw_and1 (pt_not (pt_truth (pe_op op_andN (pv 1) (pe_globI (n := (65535)) g_INNER)) (by intro _; rfl))))))
        (pss_cons (ps_set (i := 2) sc_hand_on_at_border.nd rfl (.inl rfl) (pe_callD D_lowest hr (by decide) pass0 (pa_cons (pv 1) pa_nil)))
        (pss_one (ps_augS (pv 0) (pe_op op_sub (pv 2) (pe_globI (n := (16)) g_MOST_OFFSET)) get_list (pe_op op_xorN (pv 1) (pe_op op_shl1N pe_int (pv 2))) ip_orN set_list)))
        pss_nil)), ?_⟩
    refine ⟨_, rfl, decide (m ≠ 0), ?_, ?_⟩
    · show decide (m ≠ 0) = (((m : Nat) : Int) != 0)
      rw [Bool.eq_iff_iff, decide_eq_true_iff, bne_iff_ne]
      omega
    · refine ite2 (fun h0 => ?_) (fun h0 => ?_)
      · have hm0 := of_decide_eq_true h0
        refine ⟨_, rfl, m, 65535, rfl, rfl, decide (m % 65536 ≠ 0), ?_, ?_⟩
        · show decide (m % 65536 ≠ 0) = (((m &&& 65535 : Nat) : Int) != 0)
          rw [and_inner, Bool.eq_iff_iff, decide_eq_true_iff, bne_iff_ne]
          omega
        · rw [← has_inner]
          cases hh : WM.has m with
          | true =>
            have e : borderF ls m = ls := if_neg (fun z => by rw [hh] at z; cases z.2)
            rw [e] at q
            exact iteF (q H ha fun b _ => rfl)
          | false =>
            have e : borderF ls m = ls.set (lowB m - 16) (ls.getD (lowB m - 16) 0 ||| (m ^^^ (1 <<< lowB m))) := if_pos ⟨hm0, hh⟩
            rw [e] at q
            refine iteT ⟨_, rfl, m, rfl, hm0, fun k hk hlow => ?_⟩
            have hk16 : 16 ≤ k := by
              rcases Nat.lt_or_ge k 16 with z | z
              · have : WM.has m = true := WM.has_iff.mpr ⟨k, z, hk⟩
                rw [hh] at this
                cases this
              · exact z
            have hkl : k < 16 + ls.length := by
              rcases Nat.lt_or_ge k (16 + ls.length) with z | z
              · exact z
              · rw [hb k z] at hk
                cases hk
            obtain rfl := lowB_is (by omega) hk hlow
            have hat : (ls.map vN)[lowB m - 16]? = some (vN (ls.getD (lowB m - 16) 0)) := by
              rw [List.getElem?_map, List.getD_eq_getElem?_getD]
              rw [List.getElem?_eq_getElem (by omega)]
              rfl
            refine ⟨_, rfl, _, rfl, _, _, rfl, rfl, a, _, lowB m - 16, _, rfl, ?_, SqL.of ha, hat, _, rfl, _, rfl, lowB m, rfl, rfl, by omega, m, _, rfl, rfl, _, _, rfl, rfl, a, _, _, lowB m - 16, rfl, rfl, ha, ?_, ?_⟩
            · show V.int ((lowB m : Int) - 16) = _
              congr 1
              omega
            · show ixN (ls.map vN).length ((lowB m : Int) - 16) = some (lowB m - 16)
              rw [List.length_map]
              unfold ixN
              rw [if_pos (by omega), if_pos (by omega)]
              congr 1
              omega
            · refine q _ ?_ (fun b hb => upd_ne hb)
              rw [upd_same]
              show some (HO.lst ((List.set (ls.map vN) _ (vN (ls.getD (lowB m - 16) 0 ||| (m ^^^ (1 <<< lowB m))))))) = _
              rw [← List.map_set]
      · have hm0 : m = 0 := by simpa using h0
        have e : borderF ls m = ls := if_neg (fun z => z.1 hm0)
        rw [e] at q
        exact iteF (q H ha fun b _ => rfl)
end
end Fb
namespace Fb
open PySem PySem.Spec PyProof.Rows L2
/-! ### the border unknowns' masks -/
def foldB (ls : List Nat) (ms : List Nat) : List Nat := ms.foldl borderF ls
theorem foldB_len (ms : List Nat) : ∀ ls, (foldB ls ms).length = ls.length := by
  induction ms with
  | nil => intro ls; rfl
  | cons m ms ih =>
    intro ls
    show (foldB (borderF ls m) ms).length = _
    rw [ih, borderF_len]
theorem foldB_append (ls a b : List Nat) : foldB ls (a ++ b) = foldB (foldB ls a) b := List.foldl_append
def Hands (m t a : Nat) : Prop := m ≠ 0 ∧ WM.has m = false ∧ lowB m - 16 = t ∧ (m ^^^ (1 <<< lowB m)).testBit a = true
theorem borderF_get (ls : List Nat) (m t a : Nat) (ht : t < ls.length) : ((borderF ls m).getD t 0).testBit a = true ↔ (ls.getD t 0).testBit a = true ∨ Hands m t a := by
  unfold borderF Hands
  by_cases h : m ≠ 0 ∧ WM.has m = false
  · rw [if_pos h]
    by_cases hl : lowB m - 16 = t
    · rw [hl, List.getD_eq_getElem?_getD (l := List.set ls t _), List.getElem?_set_self ht]
      show ((ls.getD t 0 ||| (m ^^^ 1 <<< lowB m))).testBit a = true ↔ _
      rw [Nat.testBit_or, Bool.or_eq_true]
      constructor
      · rintro (z | z)
        · exact .inl z
        · exact .inr ⟨h.1, h.2, rfl, z⟩
      · rintro (z | ⟨_, _, _, z⟩)
        · exact .inl z
        · exact .inr z
    · rw [List.getD_eq_getElem?_getD, List.getElem?_set_ne hl, ← List.getD_eq_getElem?_getD]
      constructor
      · exact .inl
      · rintro (z | ⟨_, _, z, _⟩)
        · exact z
        · exact absurd z hl
  · rw [if_neg h]
    constructor
    · exact .inl
    · rintro (z | ⟨z1, z2, _, _⟩)
      · exact z
      · exact absurd ⟨z1, z2⟩ h
theorem foldB_get (t a : Nat) (ms : List Nat) : ∀ (ls : List Nat), t < ls.length → (((foldB ls ms).getD t 0).testBit a = true ↔ (ls.getD t 0).testBit a = true ∨ ∃ m, m ∈ ms ∧ Hands m t a) := by
  induction ms with
  | nil =>
    intro ls ht
    show (ls.getD t 0).testBit a = true ↔ _
    constructor
    · exact .inl
    · rintro (z | ⟨m, z, _⟩)
      · exact z
      · cases z
  | cons m ms ih =>
    intro ls ht
    show ((foldB (borderF ls m) ms).getD t 0).testBit a = true ↔ _
    rw [ih _ (by rw [borderF_len]; exact ht), borderF_get _ _ _ _ ht]
    constructor
    · rintro ((z | z) | ⟨m', z1, z2⟩)
      · exact .inl z
      · exact .inr ⟨m, .head _, z⟩
      · exact .inr ⟨m', .tail _ z1, z2⟩
    · rintro (z | ⟨m', z1, z2⟩)
      · exact .inl (.inl z)
      · rcases List.mem_cons.mp z1 with e | e
        · exact .inl (.inr (e ▸ z2))
        · exact .inr ⟨m', e, z2⟩
theorem foldB_set (ls : List Nat) {a b : List Nat} (h : ∀ m, m ∈ a ↔ m ∈ b) : foldB ls a = foldB ls b := by
  apply List.ext_getElem (by rw [foldB_len, foldB_len])
  intro t h1 h2
  rw [foldB_len] at h1
  have e : ∀ l : List Nat, ∀ (hl : t < l.length), l[t] = l.getD t 0 := fun l hl => by
    rw [List.getD_eq_getElem?_getD, List.getElem?_eq_getElem hl]
    rfl
  rw [e _ (by rw [foldB_len]; exact h1), e _ h2]
  apply Nat.eq_of_testBit_eq
  intro i
  rw [Bool.eq_iff_iff, foldB_get t i a ls h1, foldB_get t i b ls h1]
  constructor
  · rintro (z | ⟨m, z1, z2⟩)
    · exact .inl z
    · exact .inr ⟨m, (h m).mp z1, z2⟩
  · rintro (z | ⟨m, z1, z2⟩)
    · exact .inl z
    · exact .inr ⟨m, (h m).mpr z1, z2⟩
theorem mem_mss {d : Nat} {ss : List Nat} {n m : Nat} : m ∈ mss d ss n ↔ ∃ j, j < n ∧ WM.Ms d ss j = m := by
  unfold mss
  rw [List.mem_map]
  constructor
  · rintro ⟨j, h1, h2⟩
    exact ⟨j, List.mem_range.mp h1, h2⟩
  · rintro ⟨j, h1, h2⟩
    exact ⟨j, List.mem_range.mpr h1, h2⟩
/-- where the mask of the unknown j of a zone stands among those that are kept -/
def atN (n tail j : Nat) : Nat := if j < n then j else tail + (j - tail) % (n - tail)
theorem Told.at {d : Nat} {ss : List Nat} {c n tail : Nat} (h : Told d ss c n tail) {j : Nat} (hj : j < c) : atN n tail j < n ∧ WM.St d ss (atN n tail j) = WM.St d ss j := by
  unfold atN
  by_cases hn : j < n
  · rw [if_pos hn]
    exact ⟨hn, rfl⟩
  · rw [if_neg hn]
    rcases h with ⟨h1, h2⟩ | ⟨h1, h2, h3⟩
    · omega
    · have hm : (j - tail) % (n - tail) < n - tail := Nat.mod_lt _ (by omega)
      refine ⟨by omega, ?_⟩
      have z := WM.St_cycle (d := d) (ss := ss) (a := tail) (p := n - tail) (by omega) (by rw [show tail + (n - tail) = n by omega]; exact h3) (j - tail)
      rw [show tail + (j - tail) = j by omega] at z
      exact z.symm
theorem Told.le {d : Nat} {ss : List Nat} {c n tail : Nat} (h : Told d ss c n tail) : n ≤ c := by
  rcases h with ⟨h1, h2⟩ | ⟨h1, h2, h3⟩ <;> omega
theorem Told.mem {d : Nat} {ss : List Nat} {c n tail : Nat} (h : Told d ss c n tail) (m : Nat) : m ∈ mss d ss n ↔ m ∈ mss d ss c := by
  rw [mem_mss, mem_mss]
  constructor
  · rintro ⟨j, h1, h2⟩
    exact ⟨j, Nat.lt_of_lt_of_le h1 h.le, h2⟩
  · rintro ⟨j, h1, h2⟩
    obtain ⟨z1, z2⟩ := h.at h1
    refine ⟨_, z1, ?_⟩
    unfold WM.Ms at h2 ⊢
    rw [z2]
    exact h2
/-! ### what is pending from zone to zone -/
def zd (z : Zn) : Nat := maskF z.o z.t
def walkP : List Nat → List Zn → List Nat
  | ss, [] => ss
  | ss, z :: zs => walkP (WM.St (zd z) ss z.c.toNat) zs
/-- all masks of the inner unknowns -/
def walkM : List Nat → List Zn → List Nat
  | _, [] => []
  | ss, z :: zs => mss (zd z) ss z.c.toNat ++ walkM (WM.St (zd z) ss z.c.toNat) zs
theorem walkP_append : ∀ (a : List Zn) (b : List Zn) (ss : List Nat), walkP ss (a ++ b) = walkP (walkP ss a) b
  | [], _, _ => rfl
  | z :: a, b, ss => walkP_append a b _
theorem walkM_append : ∀ (a : List Zn) (b : List Zn) (ss : List Nat), walkM ss (a ++ b) = walkM ss a ++ walkM (walkP ss a) b
  | [], _, _ => rfl
  | z :: a, b, ss => by
    show mss _ _ _ ++ walkM _ (a ++ b) = _
    rw [walkM_append a b]
    show _ = (mss _ _ _ ++ walkM _ a) ++ _
    rw [List.append_assoc]
    rfl
def ss0 : List Nat := List.replicate 16 0
theorem pend0 : WM.Pend ss0 := by
  refine ⟨rfl, fun i a _ _ h => ?_, fun i _ a _ => ?_⟩
  · have e : ss0.getD i 0 = 0 := by
      unfold ss0
      rw [List.getD_eq_getElem?_getD, List.getElem?_replicate]
      split <;> rfl
    rw [e, Nat.zero_testBit] at h
    cases h
  · have e : ss0.getD i 0 = 0 := by
      unfold ss0
      rw [List.getD_eq_getElem?_getD, List.getElem?_replicate]
      split <;> rfl
    rw [e, Nat.zero_testBit]
theorem walkP_pend : ∀ (zs : List Zn) (ss : List Nat), WM.Pend ss → (∀ z ∈ zs, WM.Dir (zd z)) → WM.Pend (walkP ss zs)
  | [], _, h, _ => h
  | z :: zs, ss, h, hd => walkP_pend zs _ (h.St (hd z (.head _)) _) fun y hy => hd y (.tail _ hy)
/-- bits from B on are none -/
def Low (B : Nat) (ss : List Nat) : Prop := ∀ i, i < 16 → ∀ a, B ≤ a → (ss.getD i 0).testBit a = false
theorem low0 (B : Nat) : Low B ss0 := fun i _ a _ => by
  have e : ss0.getD i 0 = 0 := by
    unfold ss0
    rw [List.getD_eq_getElem?_getD, List.getElem?_replicate]
    split <;> rfl
  rw [e, Nat.zero_testBit]
theorem Low.next {B d : Nat} {ss : List Nat} (hB : 16 ≤ B) (hl : ss.length = 16) (h : Low B ss) (hd : ∀ a, B ≤ a → d.testBit a = false) : Low B (WM.next d ss) := by
  intro i hi a ha
  rw [WM.next_get hl hi, Nat.testBit_or]
  have e1 : (if i < 15 then ss.getD (i + 1) 0 else 0).testBit a = false := by
    split
    · exact h _ (by omega) a ha
    · exact Nat.zero_testBit a
  have e2 : (if WM.has (d ||| ss.getD 0 0) = true ∧ i = WM.low (d ||| ss.getD 0 0) then WM.rest (d ||| ss.getD 0 0) else 0).testBit a = false := by
    split
    · rw [WM.rest_out (by omega), Nat.testBit_or, hd a ha, h 0 (by decide) a ha]
      rfl
    · exact Nat.zero_testBit a
  rw [e1, e2]
  rfl
theorem Low.St {B d : Nat} {ss : List Nat} (hB : 16 ≤ B) (hl : ss.length = 16) (h : Low B ss) (hd : ∀ a, B ≤ a → d.testBit a = false) : ∀ n, Low B (WM.St d ss n)
  | 0 => h
  | n + 1 => (Low.St hB hl h hd n).next hB (WM.St_len hl n) hd
theorem Low.Ms {B d : Nat} {ss : List Nat} (hB : 16 ≤ B) (hl : ss.length = 16) (h : Low B ss) (hd : ∀ a, B ≤ a → d.testBit a = false) (n a : Nat) (ha : B ≤ a) : (WM.Ms d ss n).testBit a = false := by
  unfold WM.Ms
  rw [Nat.testBit_or, hd a ha, Low.St hB hl h hd n 0 (by decide) a ha]
  rfl
theorem walkP_low {B : Nat} (hB : 16 ≤ B) : ∀ (zs : List Zn) (ss : List Nat), ss.length = 16 → Low B ss → (∀ z ∈ zs, ∀ a, B ≤ a → (zd z).testBit a = false) → Low B (walkP ss zs)
  | [], _, _, h, _ => h
  | z :: zs, ss, hl, h, hd => walkP_low hB zs _ (WM.St_len hl _) (h.St hB hl (hd z (.head _)) _) fun y hy => hd y (.tail _ hy)
/-- the last masks: those of the border unknowns -/
def lastLoop : Nat → Nat → List Nat → List Nat
  | _, 0, ls => ls
  | t, k + 1, ls => lastLoop (t + 1) k (borderF ls (ls.getD t 0))
def lastF (b : Nat) (zs : List Zn) : List Nat := lastLoop 0 b (foldB (List.replicate b 0) (walkM ss0 zs))
end Fb
namespace Fb
open PySem PySem.Spec PyProof.Rows L2
section
variable {P : Program} {w : World} {K : PySem.W.Frag} {mg : Str → Option Value} {base : Heap}
/-! ### stretches in the heap -/
structure StrR (CS : Addr) (H : Hp) (st : Addr) (b0 : Int) (z : Zn) (ss : List Nat) : Prop where
  ex : ∃ (dx Dm Dn : Addr) (n tail lap : Nat), H st = some (.ins CS dx (strF b0 (b0 + z.c) Dm Dn tail lap)) ∧ H Dn = some (.lst ((nes (zd z) ss n).map vN)) ∧ H Dm = some (.lst ((mss (zd z) ss n).map vN)) ∧ n ≤ 5800 ∧ Told (zd z) ss z.c.toNat n tail ∧ LapOk z.o n tail lap
theorem StrR.same {CS : Addr} {H H' : Hp} {st : Addr} {b0 : Int} {z : Zn} {ss : List Nat} (h : StrR CS H st b0 z ss) (S : Same H H') : StrR CS H' st b0 z ss := by
  obtain ⟨dx, Dm, Dn, n, tail, lap, h1, h2, h2', h3⟩ := h.ex
  exact ⟨⟨dx, Dm, Dn, n, tail, lap, S _ _ h1, S _ _ h2, S _ _ h2', h3⟩⟩
inductive StrAll (CS : Addr) (H : Hp) : Int → List Nat → List Zn → List Addr → Prop where
  | nil {b : Int} {ss : List Nat} : StrAll CS H b ss [] []
  | cons {b : Int} {ss : List Nat} {z : Zn} {zs : List Zn} {a : Addr} {as : List Addr} (h : StrR CS H a b z ss) (t : StrAll CS H (b + z.c) (WM.St (zd z) ss z.c.toNat) zs as) : StrAll CS H b ss (z :: zs) (a :: as)
theorem StrAll.same {CS : Addr} {H H' : Hp} (S : Same H H') {b : Int} {ss : List Nat} {zs : List Zn} {as : List Addr} (h : StrAll CS H b ss zs as) : StrAll CS H' b ss zs as := by
  induction h with
  | nil => exact .nil
  | cons h _ ih => exact .cons (h.same S) ih
theorem StrAll.leng {CS : Addr} {H : Hp} {b : Int} {ss : List Nat} {zs : List Zn} {as : List Addr} (h : StrAll CS H b ss zs as) : as.length = zs.length := by
  induction h with
  | nil => rfl
  | cons h _ ih => rw [List.length_cons, List.length_cons, ih]
theorem len_cons (z : Zn) (zs : List Zn) : len (z :: zs) = z.c + len zs := by
  unfold len
  rw [List.map_cons, List.sum_cons]
theorem StrAll.snoc {CS : Addr} {H : Hp} {b : Int} {ss : List Nat} {zs : List Zn} {as : List Addr} (h : StrAll CS H b ss zs as) : ∀ {z : Zn} {a : Addr}, StrR CS H a (b + len zs) z (walkP ss zs) → StrAll CS H b ss (zs ++ [z]) (as ++ [a]) := by
  induction h with
  | nil =>
    intro z a g
    refine .cons ?_ .nil
    have e : ∀ b : Int, b + len [] = b := fun b => by
      show b + 0 = b
      omega
    rw [e] at g
    exact g
  | @cons b ss z0 zs a0 as h0 _ ih =>
    intro z a g
    refine .cons h0 (ih ?_)
    rw [len_cons, ← Int.add_assoc] at g
    exact g
theorem StrAll.get {CS : Addr} {H : Hp} {b : Int} {ss : List Nat} {zs : List Zn} {as : List Addr} (h : StrAll CS H b ss zs as) : ∀ {i : Nat} {a : Addr}, as[i]? = some a → ∃ z, zs[i]? = some z ∧ StrR CS H a (b + len (zs.take i)) z (walkP ss (zs.take i)) := by
  induction h with
  | nil =>
    intro i a e
    cases e
  | @cons b ss z0 zs a0 as h0 _ ih =>
    intro i a e
    cases i with
    | zero =>
      cases e
      refine ⟨z0, rfl, ?_⟩
      have e : b + len (List.take 0 (z0 :: zs)) = b := by
        show b + 0 = b
        omega
      rw [e]
      exact h0
    | succ i =>
      rw [List.getElem?_cons_succ] at e
      obtain ⟨z, h1, h2⟩ := ih e
      refine ⟨z, by rw [List.getElem?_cons_succ]; exact h1, ?_⟩
      rw [List.take_succ_cons, len_cons, ← Int.add_assoc]
      exact h2
/-! ### bits of the border unknowns' masks -/
def LowL (B : Nat) (ls : List Nat) : Prop := ∀ t a, B ≤ a → (ls.getD t 0).testBit a = false
theorem lowB_spec {m B : Nat} (hB : B ≤ 64) (h : m ≠ 0) (hb : ∀ a, B ≤ a → m.testBit a = false) : lowB m < B ∧ m.testBit (lowB m) = true := by
  obtain ⟨k, a, e⟩ := low_parts h
  have h1 : m.testBit k = true := by
    rw [e]
    exact low_at k a
  have h2 : k < B := by
    rcases Nat.lt_or_ge k B with z | z
    · exact z
    · rw [hb k z] at h1
      cases h1
  have h3 := lowB_is (m := m) (k := k) (by omega) h1 fun j hj => by
    rw [e]
    exact low_below k a hj
  rw [← h3]
  exact ⟨h2, h1⟩
theorem one_shl_bit (k a : Nat) : (1 <<< k).testBit a = decide (k = a) := by
  rw [Nat.one_shiftLeft, Nat.testBit_two_pow]
theorem LowL.border {B : Nat} (hB : B ≤ 64) {ls : List Nat} {m : Nat} (h : LowL B ls) (hm : ∀ a, B ≤ a → m.testBit a = false) : LowL B (borderF ls m) := by
  intro t a ha
  cases e : ((borderF ls m).getD t 0).testBit a with
  | false => rfl
  | true =>
    exfalso
    by_cases ht : t < ls.length
    · rcases (borderF_get ls m t a ht).mp e with z | ⟨z1, z2, z3, z4⟩
      · rw [h t a ha] at z
        cases z
      · have hs := lowB_spec hB z1 hm
        rw [Nat.testBit_xor, hm a ha, one_shl_bit, decide_eq_false (by omega)] at z4
        cases z4
    · rw [List.getD_eq_getElem?_getD, List.getElem?_eq_none (by rw [borderF_len]; omega)] at e
      have e2 : (0 : Nat).testBit a = true := e
      rw [Nat.zero_testBit] at e2
      cases e2
theorem LowL.fold {B : Nat} (hB : B ≤ 64) : ∀ (ms : List Nat) {ls : List Nat}, LowL B ls → (∀ m ∈ ms, ∀ a, B ≤ a → m.testBit a = false) → LowL B (foldB ls ms)
  | [], _, h, _ => h
  | m :: ms, _, h, hm => LowL.fold hB ms (h.border hB (hm m (.head _))) fun x hx => hm x (.tail _ hx)
theorem LowL.zero (B b : Nat) : LowL B (List.replicate b 0) := fun t a _ => by
  have e : (List.replicate b 0).getD t 0 = 0 := by
    rw [List.getD_eq_getElem?_getD, List.getElem?_replicate]
    split <;> rfl
  rw [e, Nat.zero_testBit]
theorem walkM_low {B : Nat} (hB : 16 ≤ B) : ∀ (zs : List Zn) (ss : List Nat), ss.length = 16 → Low B ss → (∀ z ∈ zs, ∀ a, B ≤ a → (zd z).testBit a = false) → ∀ m ∈ walkM ss zs, ∀ a, B ≤ a → m.testBit a = false
  | [], _, _, _, _, m, hm => by cases hm
  | z :: zs, ss, hl, h, hd, m, hm => by
    rcases List.mem_append.mp hm with e | e
    · obtain ⟨j, _, rfl⟩ := mem_mss.mp e
      exact fun a ha => h.Ms hB hl (hd z (.head _)) j a ha
    · exact walkM_low hB zs _ (WM.St_len hl _) (h.St hB hl (hd z (.head _)) _) (fun y hy => hd y (.tail _ hy)) m e
/-! ### _eliminated_borders -/
def spElimB (CE CS : Addr) : Sp := fun vs H Q _ => ∃ (x dx sl : Addr) (b : Nat) (fs : List (Str × V)) (as : List Addr) (zs : List Zn), vs = [.ref x, .int b] ∧ H x = some (.ins CE dx fs) ∧ fs.lookup ("stretches" : Str) = some (.ref sl) ∧ H sl = some (.lst (as.map V.ref)) ∧
  StrAll CS H 0 ss0 zs as ∧ b ≤ 6 ∧ zs.length ≤ 90000 ∧ (∀ z ∈ zs, ∀ a, 16 + b ≤ a → (zd z).testBit a = false) ∧ ∀ H' l, Same H H' → H l = none → H' l = some (.lst ((lastF b zs).map vN)) → Q (.ref l) H'
theorem flat_rep (b : Nat) : (List.replicate b [V.int 0]).flatten = (List.replicate b 0).map vN := by
  induction b with
  | zero => rfl
  | succ b ih =>
    rw [List.replicate_succ, List.flatten_cons, ih, List.replicate_succ]
    rfl
theorem fresh_same {H H2 H' : Hp} {D : Addr} (n : H D = none) (S : Same H H2) (fr : ∀ b, b ≠ D → H' b = H2 b) : Same H H' := fun b o e => by
  rw [fr b (fun z => by
    rw [z, n] at e
    cases e)]
  exact S b o e
theorem refs_get {as : List Addr} {i : Nat} {x : V} (h : (as.map V.ref)[i]? = some x) : ∃ a, as[i]? = some a ∧ x = .ref a := by
  rw [List.getElem?_map] at h
  cases e : as[i]? with
  | none => rw [e] at h; cases h
  | some a => rw [e] at h; exact ⟨a, rfl, (Option.some.inj h).symm⟩
theorem nats_get {as : List Nat} {i : Nat} {x : V} (h : (as.map vN)[i]? = some x) : ∃ a, as[i]? = some a ∧ x = vN a := by
  rw [List.getElem?_map] at h
  cases e : as[i]? with
  | none => rw [e] at h; cases h
  | some a => rw [e] at h; exact ⟨a, rfl, (Option.some.inj h).symm⟩
theorem walkM_take {zs : List Zn} {i : Nat} {z : Zn} (h : zs[i]? = some z) (ss : List Nat) : walkM ss (zs.take (i + 1)) = walkM ss (zs.take i) ++ mss (zd z) (walkP ss (zs.take i)) z.c.toNat := by
  rw [take_snoc h, walkM_append]
  show _ ++ (mss _ _ _ ++ []) = _
  rw [List.append_nil]
theorem walkP_take {zs : List Zn} {i : Nat} {z : Zn} (h : zs[i]? = some z) (ss : List Nat) : walkP ss (zs.take (i + 1)) = WM.St (zd z) (walkP ss (zs.take i)) z.c.toNat := by
  rw [take_snoc h, walkP_append]
  rfl
theorem walkP_length : ∀ (zs : List Zn) (ss : List Nat), ss.length = 16 → (walkP ss zs).length = 16
  | [], _, h => h
  | z :: zs, ss, h => walkP_length zs _ (WM.St_len h _)
theorem ok_eliminated_borders {f CE CS : Addr} {fd : FuncData} (F : Fun K "_eliminated_borders" "Elimination._eliminated_borders" s_Elimination_eliminated_borders f fd) (bt : Bt mg bn)
    (ce : Cls K CE) (cs : Cls K CS) (n1 : NoAttr K CE "stretches") (n2 : NoAttr K CS "masks")
    (D_hand_on_at_border : Def P w K mg base CX0 2 "hand_on_at_border" ["last", "mask"] (spBorder K)) : FnOk P w K mg base CX0 3 f fd ["self", "borders"] (spElimB CE CS) := by
  refine F.ok sc_Elimination_eliminated_borders (fun vs H Q E h => ?_) (fun cdv A outer s H vs Q E hr h => ?_)
  · obtain ⟨x, dx, sl, b, fs, as, zs, rfl, _⟩ := h
    rfl
  · obtain ⟨x, dx, sl, b, fs, as, zs, rfl, hx, hls, hsl, hall, hb6, hzl, hbits, q⟩ := h
    refine ⟨_, (pss_cons (ps_set (i := 2) sc_Elimination_eliminated_borders.nd rfl (.inl rfl) (pe_op op_rep (pe_lst (pa_cons pe_int pa_nil)) (pv 1)))
      (pss_cons (ps_for PassesOwn.never rfl (pi_list (pe_fld (pv 0) rfl)) (pg_name (i := 3) sc_Elimination_eliminated_borders.nd rfl (.inl rfl))
        (pss_one (ps_for PassesOwn.never rfl (pi_list (pe_fld (pv 3) rfl)) (pg_name (i := 4) sc_Elimination_eliminated_borders.nd rfl (.inl rfl))
          (pss_one (ps_expr (pe_callD D_hand_on_at_border hr (by decide) pass0 (pa_cons (pv 2) (pa_cons (pv 4) pa_nil))))))))
      (pss_cons (ps_for PassesOwn.never rfl (pi_range1L (by rfl) (bt "range" (by decide)) (pa_cons (pv 1) pa_nil)) (pg_name (i := 5) sc_Elimination_eliminated_borders.nd rfl (.inl rfl))
        (pss_one (ps_expr (pe_callD D_hand_on_at_border hr (by decide) pass0 (pa_cons (pv 2) (pa_cons (pe_ix (r := rIxL K) ix_list (pv 2) (pv 5) (fun _ _ => rfl)) pa_nil))))))
      (pss_one (ps_ret (pv 2)))))), ?_⟩
    have lz := hall.leng
    refine ⟨Nat.succ_le_of_lt (small (by decide)), fun l0 nl0 => ⟨_, rfl, l0, b, _, rfl, rfl, upd_same, by omega, by omega, ?_, fun D nD => ?_⟩⟩
    · rw [Int.toNat_natCast]
      show 1 * b ≤ sizeLine
      have := small (n := b) (by omega)
      omega
    · rw [Int.toNat_natCast, flat_rep]
      have S1 : Same H (upd H l0 (.lst [.int 0])) := same1 nl0
      have nDH : H D = none := (upd_none nD).2
      have S2 : Same H (upd (upd H l0 (.lst [.int 0])) D (.lst ((List.replicate b 0).map vN))) := S1.trans (same1 nD)
      have hD2 : (upd (upd H l0 (.lst [.int 0])) D (.lst ((List.replicate b 0).map vN))) D = some (.lst ((List.replicate b 0).map vN)) := upd_same
      generalize upd (upd H l0 (.lst [.int 0])) D (.lst ((List.replicate b 0).map vN)) = H2 at S2 hD2 ⊢
      refine ⟨_, rfl, x, CE, dx, fs, _, rfl, S2 _ _ hx, ce, n1, hls, sl, rfl, ⟨_, SqL.of (S2 _ _ hsl)⟩, for_list (K := K) (a := sl) (xs := as.map V.ref)
        (fun i σ H' => ∃ y3 y4, σ = [some (.ref x), some (.int (b : Int)), some (.ref D), y3, y4, none] ∧ Same H H' ∧ H' D = some (.lst ((foldB (List.replicate b 0) (walkM ss0 (zs.take i))).map vN)))
        ⟨none, none, rfl, S2, hD2⟩ (fun i σ H' _ ⟨_, _, _, S, _⟩ => SqL.of (S _ _ hsl)) ?_ ?_⟩
      · rintro i y σ H' hi ⟨y3, y4, rfl, S, hD⟩
        obtain ⟨st, hst, rfl⟩ := refs_get hi
        obtain ⟨z, hz, R⟩ := hall.get hst
        obtain ⟨dx', Dm, Dn, n, tail, lap, h1, h2n, h2, h3, h4, h5⟩ := (R.same S).ex
        have hdz := hbits z (List.mem_of_getElem? hz)
        have pl : (walkP ss0 (zs.take i)).length = 16 := walkP_length _ _ rfl
        have plow : Low (16 + b) (walkP ss0 (zs.take i)) := walkP_low (by omega) _ _ rfl (low0 _) fun y hy => hbits y (List.mem_of_mem_take hy)
        have nx := walkM_take hz ss0
        generalize walkP ss0 (zs.take i) = ss at *
        generalize hL : foldB (List.replicate b 0) (walkM ss0 (zs.take i)) = L at *
        have lL : L.length = b := by rw [← hL, foldB_len, List.length_replicate]
        have hDD := R.ex
        refine ⟨_, rfl, st, CS, dx', _, _, rfl, h1, cs, n2, rfl, Dm, rfl, ⟨_, SqL.of h2⟩, for_list (K := K) (a := Dm) (xs := (mss (zd z) ss n).map vN)
          (fun j σ H2 => ∃ y4, σ = [some (.ref x), some (.int (b : Int)), some (.ref D), some (.ref st), y4, none] ∧ Same H H2 ∧ H2 Dm = some (.lst ((mss (zd z) ss n).map vN)) ∧ H2 D = some (.lst ((foldB L ((mss (zd z) ss n).take j)).map vN)))
          ⟨y4, rfl, S, h2, hD⟩ (fun j σ H2 _ ⟨_, _, _, h, _⟩ => SqL.of h) ?_ ?_⟩
        · rintro j v σ H2 hj ⟨y4, rfl, S2, hDm, hD2⟩
          obtain ⟨m, hm, rfl⟩ := nats_get hj
          have hmm : ∀ a, 16 + b ≤ a → m.testBit a = false := by
            obtain ⟨j', _, rfl⟩ := mem_mss.mp (List.mem_of_getElem? hm)
            exact fun a ha => plow.Ms (by omega) pl hdz j' a ha
          have lf : (foldB L ((mss (zd z) ss n).take j)).length = b := by rw [foldB_len, lL]
          refine ⟨_, rfl, _, rfl, D, m, _, rfl, hD2, by omega, by rw [lf]; exact hmm, fun H3 e3 fr3 => ⟨_, rfl, fresh_same nDH S2 fr3, ?_, ?_⟩⟩
          · obtain ⟨_, Dm', _, n', _, _, g1, _, g2, _, _, _⟩ := R.ex
            have : Dm ≠ D := fun z => by
              have e1 := (S _ _ g1)
              rw [h1] at e1
              have e2 : Dm = Dm' := by
                injection e1 with e1
                injection e1 with _ _ e1
                injection e1 with _ e1
                injection e1 with _ e1
                injection e1 with e1 _
                injection e1 with _ e1
                injection e1
              rw [← e2, z, nDH] at g2
              cases g2
            rw [fr3 _ this]
            exact hDm
          · rw [e3, take_snoc hm, foldB_append]
            rfl
        · rintro σ H2 ⟨y4, rfl, S2, hDm, hD2⟩
          refine ⟨_, _, rfl, S2, ?_⟩
          rw [List.length_map, List.take_length] at hD2
          rw [hD2, nx, foldB_append, hL, foldB_set L h4.mem]
      · rintro σ H3 ⟨y3, y4, rfl, S3, hD3⟩
        rw [List.length_map, lz, List.take_length] at hD3
        have lo0 : LowL (16 + b) (foldB (List.replicate b 0) (walkM ss0 zs)) := LowL.fold (by omega) _ (LowL.zero _ _) (walkM_low (by omega) zs ss0 rfl (low0 _) hbits)
        refine ⟨_, rfl, (b : Int), rfl, for_range (lo := 0) (n := ((b : Int)).toNat) (fun j σ H' => ∃ y5 ls, σ = [some (.ref x), some (.int (b : Int)), some (.ref D), y3, y4, y5] ∧ Same H H' ∧ H' D = some (.lst (ls.map vN)) ∧ lastLoop j (b - j) ls = lastF b zs ∧ ls.length = b ∧ LowL (16 + b) ls)
          ⟨none, _, rfl, S3, hD3, rfl, by rw [foldB_len, List.length_replicate], lo0⟩ ?_ ?_⟩
        · rintro j σ H' hj ⟨y5, ls, rfl, S, hD, hl, hlen, hlow⟩
          have hjb : j < b := by omega
          have hat : (ls.map vN)[j]? = some (vN (ls.getD j 0)) := by
            rw [List.getElem?_map, List.getD_eq_getElem?_getD, List.getElem?_eq_getElem (by omega)]
            rfl
          have ej : (0 : Int) + (j : Int) = (j : Int) := by omega
          rw [ej]
          refine ⟨_, rfl, _, rfl, _, rfl, D, _, _, _, rfl, rfl, SqL.of hD, atI_nat hat, D, ls.getD j 0, ls, rfl, hD, by omega, by rw [hlen]; exact hlow j, fun H' e fr => ⟨_, _, rfl, fresh_same nDH S fr, e, ?_, by rw [borderF_len]; exact hlen, hlow.border (by omega) (hlow j)⟩⟩
          rw [← hl]
          obtain ⟨k, hk⟩ : ∃ k, b - j = k + 1 := ⟨b - j - 1, by omega⟩
          rw [hk, show b - (j + 1) = k by omega]
          rfl
        · rintro σ H' ⟨y5, ls, rfl, S, hD, hl, hlen, hlow⟩
          rw [Int.toNat_natCast, Nat.sub_self] at hl
          have hl' : ls = lastF b zs := hl
          rw [hl'] at hD
          exact ⟨_, rfl, q H' D S nDH hD⟩
end
end Fb
namespace Fb
open PySem PySem.Spec PyProof.Rows L2
/-! ### a heap without some places; sequences that stand -/
/-- what is true of the zones that a system is told by -/
structure ZOk (b : Nat) (zs : List Zn) : Prop where
  n : zs.length ≤ 90000
  c : ∀ z ∈ zs, 1 ≤ z.c
  o : ∀ z ∈ zs, ∀ x ∈ z.o, 1 ≤ x ∧ x ≤ 16
  t : ∀ z ∈ zs, ∀ x ∈ z.t, 0 ≤ x ∧ x < (b : Int)
  b : b ≤ 6
  oa : ∀ z ∈ zs, z.o.Pairwise (· < ·)
  ta : ∀ z ∈ zs, z.t.Pairwise (· < ·)
theorem asc_len : ∀ (l : List Int) (lo hi : Int), l.Pairwise (· < ·) → (∀ x ∈ l, lo ≤ x ∧ x ≤ hi) → l.length ≤ (hi + 1 - lo).toNat
  | [], _, _, _, _ => Nat.zero_le _
  | x :: l, lo, hi, h, b => by
    rw [List.pairwise_cons] at h
    have hx := b x (.head _)
    have := asc_len l (x + 1) hi h.2 fun y hy => by
      have h1 := h.1 y hy
      have h2 := b y (.tail _ hy)
      omega
    rw [List.length_cons]
    omega
theorem ZOk.ol {b : Nat} {zs : List Zn} (h : ZOk b zs) : ∀ z ∈ zs, z.o.length ≤ 16 := fun z hz => asc_len z.o 1 16 (h.oa z hz) (h.o z hz)
theorem ZOk.tl {b : Nat} {zs : List Zn} (h : ZOk b zs) : ∀ z ∈ zs, z.t.length ≤ 6 := fun z hz => by
  have := asc_len z.t 0 5 (h.ta z hz) fun x hx => by
    have h1 := h.t z hz x hx
    have h2 := h.b
    omega
  exact this
theorem maskO_bit (os : List Int) (h : ∀ x ∈ os, 1 ≤ x ∧ x ≤ 16) : ∀ a, 16 ≤ a → (maskO os).testBit a = false := by
  have key : ∀ (os : List Int) (m : Nat), (∀ x ∈ os, 1 ≤ x ∧ x ≤ 16) → (∀ a, 16 ≤ a → m.testBit a = false) → ∀ a, 16 ≤ a → (os.foldl (fun m o => m ||| (1 <<< (o - 1).toNat)) m).testBit a = false := by
    intro os
    induction os with
    | nil => intro m _ hm a ha; exact hm a ha
    | cons x os ih =>
      intro m ho hm a ha
      refine ih _ (fun y hy => ho y (.tail _ hy)) (fun a ha => ?_) a ha
      have := ho x (.head _)
      rw [Nat.testBit_or, hm a ha, one_shl_bit, decide_eq_false (by omega)]
      rfl
  exact key os 0 h fun a _ => Nat.zero_testBit a
theorem maskF_bit {b : Nat} (os ts : List Int) (h : ∀ x ∈ os, 1 ≤ x ∧ x ≤ 16) (ht : ∀ x ∈ ts, 0 ≤ x ∧ x < (b : Int)) : ∀ a, 16 + b ≤ a → (maskF os ts).testBit a = false := by
  have key : ∀ (ts : List Int) (m : Nat), (∀ x ∈ ts, 0 ≤ x ∧ x < (b : Int)) → (∀ a, 16 + b ≤ a → m.testBit a = false) → ∀ a, 16 + b ≤ a → (maskT m ts).testBit a = false := by
    intro ts
    induction ts with
    | nil => intro m _ hm a ha; exact hm a ha
    | cons x ts ih =>
      intro m ho hm a ha
      refine ih (m ||| (1 <<< (16 + x).toNat)) (fun y hy => ho y (.tail _ hy)) (fun a ha => ?_) a ha
      have := ho x (.head _)
      rw [Nat.testBit_or, hm a ha, one_shl_bit, decide_eq_false (by omega)]
      rfl
  exact key ts _ ht fun a ha => maskO_bit os h a (by omega)
theorem ZOk.bits {b : Nat} {zs : List Zn} (h : ZOk b zs) : ∀ z ∈ zs, ∀ a, 16 + b ≤ a → (zd z).testBit a = false := fun z hz => maskF_bit z.o z.t (h.o z hz) (h.t z hz)
theorem ZOk.dir {b : Nat} {zs : List Zn} (h : ZOk b zs) : ∀ z ∈ zs, WM.Dir (zd z) := fun z hz a ha => h.bits z hz a (by have := h.b; omega)
section
variable {P : Program} {w : World} {K : PySem.W.Frag} {mg : Str → Option Value} {base : Heap}
/-- an elimination of b border unknowns and the zones zs -/
structure ElimR (K : PySem.W.Frag) (CE CS : Addr) (H : Hp) (e : Addr) (b : Nat) (zs : List Zn) : Prop where
  ex : ∃ (dx bg sl lm : Addr) (as : List Addr), H e = some (.ins CE dx [("_begins", .ref bg), ("_inner", .int (len zs)), ("stretches", .ref sl), ("last_masks", .ref lm)]) ∧ Dp K H (.ref bg) (.list ((beginsZ 0 (zs.map (·.c))).map .int)) ∧
    H sl = some (.lst (as.map V.ref)) ∧ StrAll CS H 0 ss0 zs as ∧ H lm = some (.lst ((lastF b zs).map vN))
theorem ElimR.same {CE CS : Addr} {H H' : Hp} {e : Addr} {b : Nat} {zs : List Zn} (h : ElimR K CE CS H e b zs) (S : Same H H') : ElimR K CE CS H' e b zs := by
  obtain ⟨dx, bg, sl, lm, as, h1, h2, h3, h4, h5⟩ := h.ex
  exact ⟨⟨dx, bg, sl, lm, as, S _ _ h1, dp_same S _ h2, S _ _ h3, h4.same S, S _ _ h5⟩⟩
def spElimInit (K : PySem.W.Frag) (CE CS : Addr) : Sp := fun vs H Q _ => ∃ (x dx : Addr) (b : Nat) (tv : V) (zs : List Zn) (H1 : Hp) (ds : List Cell), vs = [.ref x, .int b, tv] ∧ Own H1 ((x, .ins CE dx []) :: ds) H ∧ NS ds ∧ Dp K H1 tv (.list (zs.map zdK)) ∧ ZOk b zs ∧
  ∀ Hb H', Same H1 Hb → Own Hb ds H' → ElimR K CE CS Hb x b zs → Q .non H'
theorem ok_Elimination_init {f CE CS : Addr} {fd : FuncData} (F : Fun K "__init__" "Elimination.__init__" s_Elimination_init f fd) (bt : Bt mg bn)
    (ce : Cls K CE) (n1 : NoAttr K CE "_begins") (n2 : NoAttr K CE "_inner") (n3 : NoAttr K CE "stretches") (n4 : NoAttr K CE "last_masks") (g_MOST_OFFSET : GInt mg "MOST_OFFSET" 16)
    (D_begins_of : Def P w K mg base CX0 1 "begins_of" ["zones"] (spBegins K)) (D_length_of : Def P w K mg base CX0 1 "length_of" ["zones"] (spLength K))
    (D_walked : Def P w K mg base CX0 3 "walked" ["begin", "zone", "pending"] (spWalked K CS)) (M_eliminated_borders : DMeth P w K mg base CX0 3 CE "_eliminated_borders" ["self", "borders"] (spElimB CE CS)) :
    FnOk P w K mg base CX0 4 f fd ["self", "borders", "told"] (spElimInit K CE CS) := by
  refine F.ok sc_Elimination_init (fun vs H Q E h => ?_) (fun cdv A outer s H vs Q E hr h => ?_)
  · obtain ⟨x, dx, b, tv, zs, H1, ds, rfl, _⟩ := h
    rfl
  · obtain ⟨x, dx, b, tv, zs, B, ds, rfl, W, hns, hd, hz, q⟩ := h
    refine ⟨_, (pss_cons (ps_fld (pv 0) (pe_callD D_begins_of hr (by decide) pass0 (pa_cons (pv 2) pa_nil)) rfl)
      (pss_cons (ps_fld (pv 0) (pe_callD D_length_of hr (by decide) pass0 (pa_cons (pv 2) pa_nil)) rfl)
      (pss_cons (ps_fld (pv 0) (pe_lst pa_nil) rfl)
      (pss_cons (ps_set (i := 3) sc_Elimination_init.nd rfl (.inl rfl) (pe_op op_rep (pe_lst (pa_cons pe_int pa_nil)) (pe_globI (n := (16)) g_MOST_OFFSET)))
      (pss_cons (ps_for PassesOwn.never rfl (pi_zip (by rfl) (bt "zip" (by decide)) (pa_cons (pe_fld (pv 0) rfl) (pa_cons (pv 2) pa_nil))) (pg_tup rfl (pgs_cons (pg_name (i := 4) sc_Elimination_init.nd rfl (.inl rfl)) (pgs_cons (pg_name (i := 5) sc_Elimination_init.nd rfl (.inl rfl)) pgs_nil)))
        (pss_one (ps_expr (pe_bm PySem.F.plainAttrs_list PySem.F.slot_list_append PySem.F.type_list_append mt_append (pe_fld (pv 0) rfl) (pa_cons (pe_callD D_walked hr (by decide) pass0 (pa_cons (pv 4) (pa_cons (pv 5) (pa_cons (pv 3) pa_nil)))) pa_nil)))))
      (pss_one (ps_fld (pv 0) (pe_methD M_eliminated_borders hr (by decide) pass0 (pv 0) (pa_cons (pv 1) pa_nil)) rfl))))))), ?_⟩
    obtain ⟨ta, xs, rfl, hts, hta⟩ := dp_lst hd
    have zl : (zs.map zdK).length ≤ 100000 := by
      rw [List.length_map]
      have := hz.n
      omega
    -- begins_of
    refine ⟨_, rfl, _, _, _, rfl, dp_same W.s _ hd, heads_K zs, zl, fun H1 bv S1 hb1 => ?_⟩
    obtain ⟨bg, bx, rfl, hbs, hba⟩ := dp_lst hb1
    obtain ⟨B1, W1, SB1, QB1⟩ := (W.mono S1).rebase hns.ins
    have hbB := dp_seq QB1 _ hb1
    refine ⟨_, rfl, x, CE, dx, _, rfl, W1.g0, ce, n1, by show 0 < 1000; decide, ?_⟩
    generalize e2 : upd _ x _ = H2
    have W2 : Own B1 ((x, .ins CE dx [("_begins", .ref bg)]) :: ds) H2 := W1.set0 e2
    -- length_of
    have hdB := dp_same SB1 _ hd
    refine ⟨_, rfl, _, _, _, rfl, dp_same W2.s _ hdB, heads_K zs, zl, fun H3 S3 => ?_⟩
    have W3 := W2.mono S3
    refine ⟨_, rfl, x, CE, dx, _, rfl, W3.g0, ce, n2, by show 1 < 1000; decide, ?_⟩
    generalize e4 : upd _ x _ = H4
    have W4 : Own B1 ((x, .ins CE dx [("_begins", .ref bg), ("_inner", .int (len zs))]) :: ds) H4 := W3.set0 e4
    -- []
    refine ⟨Nat.zero_le _, fun sl nsl => ?_⟩
    generalize e5 : upd _ sl _ = H5
    have W5 := W4.new nsl e5
    refine ⟨_, rfl, x, CE, dx, _, rfl, W5.g1, ce, n3, by show 2 < 1000; decide, ?_⟩
    generalize e6 : upd _ x _ = H6
    have W6 : Own B1 (_ :: (x, .ins CE dx [("_begins", .ref bg), ("_inner", .int (len zs)), ("stretches", .ref sl)]) :: ds) H6 := W5.set1 e6
    -- pending
    refine ⟨Nat.succ_le_of_lt (small (by decide)), fun l0 nl0 => ⟨l0, 16, _, rfl, rfl, upd_same, by decide, by decide, ?_, fun pend npd => ?_⟩⟩
    · show 16 ≤ sizeLine
      decide
    generalize e7 : upd _ pend _ = H7
    have W7 := ((W6.new nl0 rfl).new npd e7).sub (.cons₂ _ (.cons _ (List.Sublist.refl _)))
    rw [show (List.replicate (16 : Int).toNat [V.int 0]).flatten = ss0.map vN from flat_rep 16] at W7
    clear W2 W3 W4 W5 W6 e2 e4 e5 e6 e7
    have eb := ints_of_dpAll hba
    subst eb
    have hbsB := sql_seq QB1 hbs
    have htsB := SB1.seq hts
    have htaB := dpAll_same SB1 _ hta
    have lxs := dpAll_len hta
    rw [List.length_map] at lxs
    refine ⟨_, rfl, x, CE, dx, _, _, rfl, W7.g2, ce, n1, rfl, _, rfl, bg, ta, _, xs, rfl, W7.s.seq hbsB, W7.s.seq htsB, ?_⟩
    refine RZ.for_zipL (K := K) (a := bg) (b := ta) (xs := (beginsZ 0 (zs.map (·.c))).map V.int) (ys := xs) (by rw [List.length_map, beginsZ_len, List.length_map, lxs])
      (fun i σ H' => ∃ (y4 y5 : Option V) (as : List Addr) (B2 : Hp), σ = [some (.ref x), some (.int (b : Int)), some (.ref ta), some (.ref pend), y4, y5] ∧ Same B1 B2 ∧ Own B2 ((pend, .lst ((walkP ss0 (zs.take i)).map vN)) :: (sl, .lst (as.map V.ref)) :: (x, .ins CE dx [("_begins", .ref bg), ("_inner", .int (len zs)), ("stretches", .ref sl)]) :: ds) H' ∧ StrAll CS B2 0 ss0 (zs.take i) as)
      ⟨none, none, [], B1, rfl, Same.refl _, W7, .nil⟩ (fun i σ H' ⟨_, _, _, B2, _, S2, W', _⟩ => ⟨(S2.trans W'.s).seq hbsB, (S2.trans W'.s).seq htsB⟩) ?_ ?_
    · rintro i vx vy T σ H' hvx hvy ⟨y4, y5, as, B2, rfl, S2, W', hall⟩ nT
      obtain ⟨dd, hd1', hd2'⟩ := dpAll_getV htaB hvy
      obtain ⟨z, hzi, rfl⟩ := map_getV hd1'
      have hzm := List.mem_of_getElem? hzi
      obtain ⟨beg, hbeg, rfl⟩ : ∃ v, (beginsZ 0 (zs.map (·.c)))[i]? = some v ∧ vx = .int v := by
        rw [List.getElem?_map] at hvx
        cases e : (beginsZ 0 (zs.map (·.c)))[i]? with
        | none => rw [e] at hvx; cases hvx
        | some v => rw [e] at hvx; exact ⟨v, rfl, (Option.some.inj hvx).symm⟩
      have hbl : beg = 0 + len (zs.take i) := by
        rw [beginsZ_get _ _ _ (by
          rw [List.length_map]
          rw [List.getElem?_eq_some_iff] at hzi
          exact hzi.1)] at hbeg
        have := Option.some.inj hbeg
        unfold len
        rw [← this, List.map_take]
      generalize eT : upd _ T _ = HT
      have WT := W'.new nT eT
      have zc := hz.c z hzm
      have pw : WM.Pend (walkP ss0 (zs.take i)) := walkP_pend _ _ pend0 fun y hy => hz.dir y (List.mem_of_mem_take hy)
      refine ⟨T, _, rfl, .inl (.inl WT.g0), rfl, _, _, rfl, _, _, rfl, rfl, ?_⟩
      have W8 := WT.tl
      have las := hall.leng
      rw [List.length_take] at las
      refine ⟨_, rfl, x, CE, dx, _, _, rfl, W8.g2, ce, n3, rfl, .inl ⟨rfl, _, SqL.of W8.g1⟩, _, rfl, _, rfl, _, rfl, beg, vy, pend, z, walkP ss0 (zs.take i), B2, _, rfl, W8, dp_same S2 _ hd2', pw, zc, hz.o z hzm,
        fun y hy => by
          have h1 := hz.t z hzm y hy
          have h2 := hz.b
          omega, hz.dir z hzm, fun H8 st dxs Dm Dn n tail lap W9 hn htold hlap => ⟨sl, _, .ref st, rfl, rfl, W9.g4, small (by
            rw [List.length_map]
            have := hz.n
            omega), ?_⟩⟩
      generalize e9 : upd _ sl _ = H9
      obtain ⟨B3, S3, k1, k2, k3, W10⟩ := (W9.set4 e9).fix3
      refine ⟨_, _, as ++ [st], B3, rfl, S2.trans S3, ?_, ?_⟩
      · rw [walkP_take hzi, List.map_append]
        exact W10
      · rw [take_snoc hzi]
        refine (hall.same S3).snoc ⟨⟨dxs, Dm, Dn, n, tail, lap, ?_, k2, k3, hn, htold, hlap⟩⟩
        rw [← hbl]
        exact k1
    · rintro σ H' ⟨y4, y5, as, B2, rfl, S2, W', hall⟩
      rw [List.length_map, beginsZ_len, List.length_map, List.take_length] at hall
      refine ⟨_, rfl, x, dx, _, rfl, W'.g2, rfl, _, rfl, x, dx, sl, b, _, as, zs, rfl, W'.g2, rfl, W'.g1, hall.same W'.s, hz.b, hz.n, hz.bits, fun H10 lm S10 nlm hlm => ⟨_, rfl, x, CE, dx, _, rfl, S10 _ _ W'.g2, ce, n4, by show 3 < 1000; decide, ?_⟩⟩
      generalize e11 : upd _ x _ = H11
      obtain ⟨B3, W3, S3, k3⟩ := (W'.mono S10).rebase'
      have hl3 : B3 lm = some (.lst ((lastF b zs).map vN)) := k3 _ _ (fun m => by
        obtain ⟨c, hc, e⟩ := List.mem_map.mp m
        have := W'.h c hc
        rw [e, nlm] at this
        cases this) hlm
      have W12 : Own B3 (_ :: _ :: (x, .ins CE dx [("_begins", .ref bg), ("_inner", .int (len zs)), ("stretches", .ref sl), ("last_masks", .ref lm)]) :: ds) H11 := W3.set2 e11
      obtain ⟨B4, S4, k4, k5, W13⟩ := W12.tl.fix2
      exact q B4 H11 (((SB1.trans S2).trans S3).trans S4) W13 ⟨⟨dx, bg, sl, lm, as, k5, dp_same (S2.trans (S3.trans S4)) _ hbB, k4, hall.same (S3.trans S4), S4 _ _ hl3⟩⟩
end
end Fb
namespace Fb
open PySem PySem.Spec PyProof.Rows L2
/-! ### sums of zones -/
theorem len_append (a b : List Zn) : len (a ++ b) = len a + len b := by
  unfold len
  rw [List.map_append, List.sum_append]
theorem mergeStep_sum (acc : List Zn) (z : Zn) : len (mergeStep acc z) = len acc + z.c := by
  unfold mergeStep
  have one : ∀ y : Zn, len [y] = y.c := fun y => by
    unfold len
    simp
  split
  · rename_i y hy
    split
    · rw [len_append, one]
      have e : acc = acc.dropLast ++ [y] := by
        have hne : acc ≠ [] := fun z => by rw [z] at hy; cases hy
        have e1 := List.dropLast_concat_getLast hne
        rw [List.getLast?_eq_some_getLast hne] at hy
        rw [Option.some.inj hy] at e1
        exact e1.symm
      have e2 : len acc = len acc.dropLast + y.c := by
        conv => lhs; rw [e]
        rw [len_append, one]
      show _ + (y.c + z.c) = _
      omega
    · rw [len_append, one]
  · rw [len_append, one]
theorem merged_sum (zs : List Zn) : len (mergedZ zs) = len zs := by
  have key : ∀ (l acc : List Zn), len (l.foldl mergeStep acc) = len acc + len l := by
    intro l
    induction l with
    | nil =>
      intro acc
      show len acc = len acc + 0
      omega
    | cons z l ih =>
      intro acc
      show len (l.foldl mergeStep (mergeStep acc z)) = _
      rw [ih, mergeStep_sum, len_cons]
      omega
  have := key zs []
  have e : len [] = 0 := rfl
  rw [e, Int.zero_add] at this
  exact this
theorem units_sum (L b : Int) (z : Zn) (n : Nat) : len (unitsZ L b z n) = (n : Int) := by
  induction n with
  | zero => rfl
  | succ n ih =>
    rw [unitsZ_snoc, len_append, ih]
    have : len [unitZ L z (loZ L b + (n : Int))] = 1 := rfl
    rw [this]
    omega
theorem trimZ_sum (L b : Int) (z : Zn) (h : 0 ≤ z.c) : len (trimZ L b z) = z.c := by
  unfold trimZ
  rw [len_append, units_sum]
  have one : ∀ y : Zn, len [y] = y.c := fun y => by
    unfold len
    simp
  unfold safeP
  split
  · rename_i hs
    rw [one]
    show safeZ L b z + _ = _
    unfold safeZ unitN loZ at *
    split at hs <;> rename_i h1
    · split <;> omega
    · split <;> omega
  · rename_i hs
    have e : len [] = 0 := rfl
    rw [e]
    unfold safeZ unitN loZ at *
    split at hs <;> rename_i h1
    · split <;> omega
    · split <;> omega
theorem trimmed_sum (L : Int) : ∀ (zs : List Zn) (b : Int), (∀ z ∈ zs, 0 ≤ z.c) → len (trimmedF L b zs) = len zs
  | [], _, _ => rfl
  | z :: zs, b, h => by
    rw [trimmedF, len_append, trimZ_sum L b z (h z (.head _)), trimmed_sum L zs (b + z.c) (fun y hy => h y (.tail _ hy)), len_cons]
/-! ### levels and weights, plain -/
abbrev GS := List Int × List Int
def insA (xs : List Int) : List Int := xs.take 15 ++ [0] ++ xs.drop 15
def hdL (m : Nat) (l : Int) (L : List Int) : List Int := if m = 0 then L else L.set (lowB m) (if l > L.getD (lowB m) 0 then l else L.getD (lowB m) 0)
def hdW (m : Nat) (w : Int) (W : List Int) : List Int := if m = 0 then W else W.set (lowB m) (W.getD (lowB m) 0 + w)
def tkI (m : Nat) (s : GS) : (Int × Int) × GS := ((s.1.getD 0 0 + 1, s.2.getD 0 0 + 1), (hdL m (s.1.getD 0 0 + 1) (insA s.1.tail), hdW m (s.2.getD 0 0 + 1) (insA s.2.tail)))
def tkAll : List Nat → GS → List (Int × Int) × GS
  | [], s => ([], s)
  | m :: ms, s => ((tkI m s).1 :: (tkAll ms (tkI m s).2).1, (tkAll ms (tkI m s).2).2)
theorem tkAll_snoc : ∀ (ms : List Nat) (m : Nat) (s : GS), tkAll (ms ++ [m]) s = ((tkAll ms s).1 ++ [(tkI m (tkAll ms s).2).1], (tkI m (tkAll ms s).2).2)
  | [], _, _ => rfl
  | x :: ms, m, s => by
    show (((tkI x s).1 :: (tkAll (ms ++ [m]) (tkI x s).2).1, (tkAll (ms ++ [m]) (tkI x s).2).2) : List (Int × Int) × GS) = _
    rw [tkAll_snoc ms m]
    rfl
theorem tkAll_len : ∀ (ms : List Nat) (s : GS), (tkAll ms s).1.length = ms.length
  | [], _ => rfl
  | _ :: ms, s => by
    show ((tkI _ s).1 :: (tkAll ms (tkI _ s).2).1).length = _
    rw [List.length_cons, tkAll_len ms, List.length_cons]
theorem insA_len {xs : List Int} {n : Nat} (h : xs.length = 16 + n) : (insA xs.tail).length = 16 + n := by
  unfold insA
  rw [List.length_append, List.length_append, List.length_take, List.length_drop, List.length_tail, List.length_singleton]
  omega
theorem hdL_len (m : Nat) (l : Int) (L : List Int) : (hdL m l L).length = L.length := by
  unfold hdL
  split
  · rfl
  · rw [List.length_set]
theorem hdW_len (m : Nat) (w : Int) (W : List Int) : (hdW m w W).length = W.length := by
  unfold hdW
  split
  · rfl
  · rw [List.length_set]
def Len (n : Nat) (s : GS) : Prop := s.1.length = 16 + n ∧ s.2.length = 16 + n
theorem Len.tk {n : Nat} {s : GS} (h : Len n s) (m : Nat) : Len n (tkI m s).2 := ⟨by
  show (hdL m _ _).length = _
  rw [hdL_len, insA_len h.1], by
  show (hdW m _ _).length = _
  rw [hdW_len, insA_len h.2]⟩
theorem Len.all {n : Nat} : ∀ (ms : List Nat) {s : GS}, Len n s → Len n (tkAll ms s).2
  | [], _, h => h
  | m :: ms, s, h => Len.all ms (h.tk m)
/-- bounds: each level, and the weights together -/
def absS (W : List Int) : Nat := (W.map Int.natAbs).sum
def Bnd (N : Nat) (s : GS) : Prop := (∀ v ∈ s.1, v.natAbs ≤ N) ∧ absS s.2 ≤ N
theorem absS_append (a b : List Int) : absS (a ++ b) = absS a + absS b := by
  unfold absS
  rw [List.map_append, List.sum_append]
theorem absS_get {W : List Int} {v : Int} (h : v ∈ W) : v.natAbs ≤ absS W := by
  induction W with
  | nil => cases h
  | cons x W ih =>
    show _ ≤ x.natAbs + absS W
    rcases List.mem_cons.mp h with e | e
    · rw [e]
      omega
    · have := ih e
      omega
theorem absS_set : ∀ (W : List Int) (p : Nat) (w : Int), absS (W.set p (W.getD p 0 + w)) ≤ absS W + w.natAbs
  | [], _, _ => by
    rw [List.set_nil]
    omega
  | x :: W, 0, w => by
    show (x + w).natAbs + absS W ≤ x.natAbs + absS W + w.natAbs
    omega
  | x :: W, p + 1, w => by
    have := absS_set W p w
    show x.natAbs + absS (W.set p (W.getD p 0 + w)) ≤ x.natAbs + absS W + w.natAbs
    omega
theorem absS_ins (xs : List Int) : absS (insA xs) = absS xs := by
  unfold insA
  rw [absS_append, absS_append]
  have : absS xs = absS (xs.take 15) + absS (xs.drop 15) := by rw [← absS_append, List.take_append_drop]
  rw [this]
  show _ + (0 + 0) + _ = _
  omega
theorem Bnd.tk {N : Nat} {s : GS} (h : Bnd N s) (m : Nat) : Bnd (N + 1) (tkI m s).2 ∧ (tkI m s).1.1.natAbs ≤ N + 1 ∧ (tkI m s).1.2.natAbs ≤ N + 1 := by
  obtain ⟨L, W⟩ := s
  obtain ⟨h1, h2⟩ := h
  simp only at h1 h2
  have hl : (L.getD 0 0).natAbs ≤ N := by
    cases L with
    | nil => exact Nat.zero_le _
    | cons x L => exact h1 x (.head _)
  have hw : (W.getD 0 0).natAbs + absS W.tail ≤ N := by
    cases W with
    | nil => exact Nat.zero_le _
    | cons x W => exact h2
  have hi : ∀ v ∈ insA L.tail, v.natAbs ≤ N := fun v hv => by
    unfold insA at hv
    rcases List.mem_append.mp hv with hv | hv
    · rcases List.mem_append.mp hv with hv | hv
      · exact h1 v (List.mem_of_mem_tail (List.mem_of_mem_take hv))
      · rw [List.mem_singleton] at hv
        rw [hv]
        exact Nat.zero_le _
    · exact h1 v (List.mem_of_mem_tail (List.mem_of_mem_drop hv))
  refine ⟨⟨?_, ?_⟩, ?_, ?_⟩
  · show ∀ v ∈ hdL m (L.getD 0 0 + 1) (insA L.tail), v.natAbs ≤ N + 1
    unfold hdL
    split
    · exact fun v hv => Nat.le_succ_of_le (hi v hv)
    · intro v hv
      rcases List.mem_or_eq_of_mem_set hv with hv | hv
      · exact Nat.le_succ_of_le (hi v hv)
      · rw [hv]
        split
        · omega
        · have : ((insA L.tail).getD (lowB m) 0).natAbs ≤ N := by
            rw [List.getD_eq_getElem?_getD]
            cases e : (insA L.tail)[lowB m]? with
            | none => exact Nat.zero_le _
            | some y => exact hi y (List.mem_of_getElem? e)
          omega
  · show absS (hdW m (W.getD 0 0 + 1) (insA W.tail)) ≤ N + 1
    unfold hdW
    split
    · rw [absS_ins]
      omega
    · have := absS_set (insA W.tail) (lowB m) (W.getD 0 0 + 1)
      rw [absS_ins] at this
      omega
  · show (L.getD 0 0 + 1).natAbs ≤ N + 1
    omega
  · show (W.getD 0 0 + 1).natAbs ≤ N + 1
    omega
theorem Bnd.mono {N M : Nat} {s : GS} (h : Bnd N s) (hn : N ≤ M) : Bnd M s := ⟨fun v hv => Nat.le_trans (h.1 v hv) hn, Nat.le_trans h.2 hn⟩
theorem Bnd.all : ∀ (ms : List Nat) {N : Nat} {s : GS}, Bnd N s → Bnd (N + ms.length) (tkAll ms s).2 ∧ ∀ p ∈ (tkAll ms s).1, p.1.natAbs ≤ N + ms.length ∧ p.2.natAbs ≤ N + ms.length
  | [], _, _, h => ⟨h, fun _ h => nomatch h⟩
  | m :: ms, N, s, h => by
    obtain ⟨h1, h2, h3⟩ := h.tk m
    obtain ⟨h4, h5⟩ := Bnd.all ms h1
    rw [List.length_cons]
    refine ⟨h4.mono (by omega), fun p hp => ?_⟩
    rcases List.mem_cons.mp hp with e | e
    · rw [e]
      omega
    · have := h5 p e
      omega
def goneL (a b : List Int) (n : Int) : List Int := List.zipWith (fun e x => x + n * (x - e)) a b
theorem gone_le {e x n : Int} : (x + n * (x - e)).natAbs ≤ x.natAbs + n.natAbs * (x.natAbs + e.natAbs) := by
  have h1 : (x + n * (x - e)).natAbs ≤ x.natAbs + (n * (x - e)).natAbs := Int.natAbs_add_le _ _
  have h2 : (n * (x - e)).natAbs = n.natAbs * (x - e).natAbs := Int.natAbs_mul _ _
  have h3 : (x - e).natAbs ≤ x.natAbs + e.natAbs := Int.natAbs_sub_le _ _
  have h4 := Nat.mul_le_mul_left n.natAbs h3
  omega
theorem absS_gone (n : Int) : ∀ a b : List Int, absS (goneL a b n) ≤ absS b + n.natAbs * (absS b + absS a)
  | [], b => by
    show 0 ≤ _
    omega
  | _ :: _, [] => by
    show 0 ≤ _
    omega
  | e :: a, x :: b => by
    show (x + n * (x - e)).natAbs + absS (goneL a b n) ≤ (x.natAbs + absS b) + n.natAbs * ((x.natAbs + absS b) + (e.natAbs + absS a))
    have h1 := gone_le (e := e) (x := x) (n := n)
    have h2 := absS_gone n a b
    have h3 : n.natAbs * ((x.natAbs + absS b) + (e.natAbs + absS a)) = n.natAbs * (x.natAbs + e.natAbs) + n.natAbs * (absS b + absS a) := by
      rw [← Nat.mul_add]
      congr 1
      omega
    omega
theorem Bnd.gone {N : Nat} {s t : GS} (hs : Bnd N s) (ht : Bnd N t) (n : Int) : Bnd (N + n.natAbs * (N + N)) (goneL s.1 t.1 n, goneL s.2 t.2 n) := by
  refine ⟨fun v hv => ?_, ?_⟩
  · have key : ∀ (a b : List Int), (∀ v ∈ a, v.natAbs ≤ N) → (∀ v ∈ b, v.natAbs ≤ N) → ∀ v ∈ goneL a b n, v.natAbs ≤ N + n.natAbs * (N + N) := by
      intro a
      induction a with
      | nil => intro b _ _ v h; cases h
      | cons e a ih =>
        intro b h1 h2 v hv
        cases b with
        | nil => cases hv
        | cons x b =>
          rcases List.mem_cons.mp hv with q | q
          · rw [q]
            show (x + n * (x - e)).natAbs ≤ _
            have g := gone_le (e := e) (x := x) (n := n)
            have a1 := h1 e (.head _)
            have a2 := h2 x (.head _)
            have := Nat.mul_le_mul_left n.natAbs (show x.natAbs + e.natAbs ≤ N + N by omega)
            omega
          · exact ih b (fun v h => h1 v (.tail _ h)) (fun v h => h2 v (.tail _ h)) v q
    exact key _ _ hs.1 ht.1 v hv
  · have g := absS_gone n s.2 t.2
    have h1 := hs.2
    have h2 := ht.2
    have := Nat.mul_le_mul_left n.natAbs (show absS t.2 + absS s.2 ≤ N + N by omega)
    show absS (goneL s.2 t.2 n) ≤ _
    omega
theorem Len.gone {n : Nat} {s t : GS} (hs : Len n s) (ht : Len n t) (k : Int) : Len n (goneL s.1 t.1 k, goneL s.2 t.2 k) := ⟨by
  show (goneL s.1 t.1 k).length = _
  unfold goneL
  rw [List.length_zipWith, hs.1, ht.1]
  omega, by
  show (goneL s.2 t.2 k).length = _
  unfold goneL
  rw [List.length_zipWith, hs.2, ht.2]
  omega⟩
/-- the masks of some unknowns -/
def mR (M : Nat → Nat) (i k : Nat) : List Nat := (List.range k).map fun t => M (i + t)
theorem mR_len (M : Nat → Nat) (i k : Nat) : (mR M i k).length = k := by
  unfold mR
  rw [List.length_map, List.length_range]
theorem mR_succ (M : Nat → Nat) (i k : Nat) : mR M i (k + 1) = mR M i k ++ [M (i + k)] := by
  unfold mR
  rw [List.range_succ, List.map_append]
  rfl
theorem mR_get {M : Nat → Nat} {i k j : Nat} (h : j < k) : (mR M i k)[j]? = some (M (i + j)) := by
  unfold mR
  rw [List.getElem?_map, List.getElem?_range h]
  rfl
def lapsZ (c tail lap : Nat) : Int := ((c : Int) - tail - 16 - lap - lap) / lap
def restN (c tail lap : Nat) : Nat := (((c : Int) - tail - 16 - lap - lap) % lap).toNat
/-- what a stretch makes: levels and weights as they are told, what is handed on, and the lap that is kept -/
def riseF (M : Nat → Nat) (c tail lap : Nat) (s : GS) : List (Int × Int) × GS × Nat :=
  if lapsZ c tail lap < 0 then ((tkAll (mR M 0 c) s).1, (tkAll (mR M 0 c) s).2, 0)
  else
    let A := tkAll (mR M 0 (tail + 16 + lap)) s
    let B := tkAll (mR M (tail + 16 + lap) lap) A.2
    (A.1 ++ B.1, (tkAll (mR M (c - restN c tail lap) (restN c tail lap)) (goneL A.2.1 B.2.1 (lapsZ c tail lap), goneL A.2.2 B.2.2 (lapsZ c tail lap))).2, lap)
end Fb
namespace Fb
open PySem PySem.Spec PyProof.Rows L2
theorem big {n : Nat} (h : n ≤ 10000000) : n < sizeLine := by
  rw [sizeLine_eq]
  omega
theorem Told.ms {d : Nat} {ss : List Nat} {c n tail : Nat} (h : Told d ss c n tail) {j : Nat} (hj : j < c) : WM.Ms d ss (atN n tail j) = WM.Ms d ss j := by
  unfold WM.Ms
  rw [(h.at hj).2]
theorem mss_at {d : Nat} {ss : List Nat} {n j : Nat} (h : j < n) : ((mss d ss n).map vN)[j]? = some (vN (WM.Ms d ss j)) := by
  unfold mss
  rw [List.getElem?_map, List.getElem?_map, List.getElem?_range h]
  rfl
section
variable {P : Program} {w : World} {K : PySem.W.Frag} {mg : Str → Option Value} {base : Heap}
/-! ### mask_at, masks_between -/
theorem sc_Stretch_mask_at : FnScope nm_Stretch_mask_at ["self", "unknown"] (defScope s_Stretch_mask_at) := ⟨rfl, rfl, rfl, by decide +kernel, rfl, by decide +kernel, by decide +kernel⟩
def spMaskAt (C : Addr) : Sp := fun vs H Q _ => ∃ (st : Addr) (b0 u : Int) (z : Zn) (ss : List Nat) (j : Nat), vs = [.ref st, .int u] ∧ StrR C H st b0 z ss ∧ u = b0 + j ∧ j < z.c.toNat ∧ Q (.int (WM.Ms (zd z) ss j : Nat)) H
theorem ok_mask_at {f C : Addr} {fd : FuncData} (F : Fun K "mask_at" "Stretch.mask_at" s_Stretch_mask_at f fd) (bt : Bt mg bn) (c : Cls K C) (n1 : NoAttr K C "begin") (n2 : NoAttr K C "masks") (n3 : NoAttr K C "tail") :
    FnOk P w K mg base CX0 1 f fd ["self", "unknown"] (spMaskAt C) := by
  refine F.ok sc_Stretch_mask_at (fun vs H Q E h => ?_) (fun cdv A outer s H vs Q E hr h => ?_)
  · obtain ⟨st, b0, u, z, ss, j, rfl, _⟩ := h
    rfl
  · obtain ⟨st, b0, u, z, ss, j, rfl, hst, rfl, hj, q⟩ := h
    obtain ⟨dx, Dm, Dn, n, tail, lap, h1, h2, h3, h4, h5, h6⟩ := hst.ex
    refine ⟨_, (pss_cons (ps_set (i := 2) sc_Stretch_mask_at.nd rfl (.inl rfl) (pe_op op_sub (pv 1) (pe_fld (pv 0) rfl)))
      (pss_cons (ps_if (pt_cmpR op_ge (pv 2) (pe_callB call_len_seq (by rfl) (bt "len" (by decide)) PySem.boot_len (pa_cons (pe_fld (pv 0) rfl) pa_nil)) (nomark _))
        (pss_one (ps_set (i := 2) sc_Stretch_mask_at.nd rfl (.inl rfl) (pe_op op_add (pe_fld (pv 0) rfl) (pe_op op_mod (pe_op op_sub (pv 2) (pe_fld (pv 0) rfl)) (pe_op op_sub (pe_callB call_len_seq (by rfl) (bt "len" (by decide)) PySem.boot_len (pa_cons (pe_fld (pv 0) rfl) pa_nil)) (pe_fld (pv 0) rfl))))))
        pss_nil)
      (pss_one (ps_ret (pe_ix (r := rIxL K) ix_list (pe_fld (pv 0) rfl) (pv 2) (fun _ _ => rfl)))))), ?_⟩
    have lm : ((mss (zd z) ss n).map vN).length = n := by rw [List.length_map, mss_len]
    obtain ⟨a1, a2⟩ := h5.at hj
    have a3 := h5.ms hj
    refine ⟨_, rfl, _, rfl, st, C, dx, _, _, rfl, h1, c, n1, rfl, _, _, rfl, rfl, ?_⟩
    refine ⟨_, rfl, _, rfl, st, C, dx, _, _, rfl, h1, c, n2, rfl, Dm, _, rfl, .inl (SqL.of h3), _, _, rfl, rfl, _, rfl, ite2 (fun hge => ?_) (fun hge => ?_)⟩
    · have hge := of_decide_eq_true hge
      rw [lm] at hge
      have hjn : n ≤ j := by omega
      have htn : tail < n := by
        rcases h5 with ⟨e1, e2⟩ | ⟨e1, _⟩
        · omega
        · exact e1
      have e : atN n tail j = tail + (j - tail) % (n - tail) := if_neg (by omega)
      refine ⟨_, rfl, st, C, dx, _, _, rfl, h1, c, n3, rfl, _, rfl, _, rfl, st, C, dx, _, _, rfl, h1, c, n3, rfl, _, _, rfl, rfl, _, rfl, st, C, dx, _, _, rfl, h1, c, n2, rfl, Dm, _, rfl, .inl (SqL.of h3), _, rfl, st, C, dx, _, _, rfl, h1, c, n3, rfl, _, _, rfl, rfl, _, _, rfl, rfl, ?_, _, _, rfl, rfl, ?_⟩
      · show (0 : Int) < (((((mss (zd z) ss n).map vN).length : Nat) : Int) - (tail : Int))
        rw [lm]
        omega
      · refine ⟨_, rfl, st, C, dx, _, _, rfl, h1, c, n2, rfl, _, rfl, Dm, _, _, _, rfl, rfl, SqL.of h3, ?_, q⟩
        have hidx : ((tail : Int) + ((b0 + (j : Int) - b0) - (tail : Int)) % (((((mss (zd z) ss n).map vN).length : Nat) : Int) - (tail : Int))) = ((atN n tail j : Nat) : Int) := by
          rw [lm, e]
          have e1 : (b0 + (j : Int) - b0 - (tail : Int)) = ((j - tail : Nat) : Int) := by omega
          have e2 : ((n : Int) - (tail : Int)) = ((n - tail : Nat) : Int) := by omega
          rw [e1, e2, ← Int.natCast_emod]
          omega
        show atI ((mss (zd z) ss n).map vN) ((tail : Int) + ((b0 + (j : Int) - b0) - (tail : Int)) % (((((mss (zd z) ss n).map vN).length : Nat) : Int) - (tail : Int))) = _
        rw [hidx, ← a3]
        exact atI_nat (mss_at a1)
    · have hge := of_decide_eq_false (Bool.eq_false_iff.mpr hge)
      rw [lm] at hge
      have hjn : j < n := by omega
      refine ⟨_, rfl, st, C, dx, _, _, rfl, h1, c, n2, rfl, _, rfl, Dm, _, _, _, rfl, rfl, SqL.of h3, ?_, q⟩
      show atI ((mss (zd z) ss n).map vN) (b0 + (j : Int) - b0) = _
      rw [show b0 + (j : Int) - b0 = (j : Int) by omega]
      exact atI_nat (mss_at hjn)
theorem sc_Stretch_masks_between : FnScope nm_Stretch_masks_between ["self", "begin", "end"] (defScope s_Stretch_masks_between) := ⟨rfl, rfl, rfl, by decide +kernel, rfl, by decide +kernel, by decide +kernel⟩
def spBetween (C : Addr) : Sp := fun vs H Q _ => ∃ (st : Addr) (b0 u v : Int) (z : Zn) (ss : List Nat) (i k : Nat), vs = [.ref st, .int u, .int v] ∧ StrR C H st b0 z ss ∧ u = b0 + i ∧ v = b0 + i + k ∧ i + k ≤ z.c.toNat ∧ k ≤ 1000000 ∧
  ∀ H' p, Same H H' → H p = none → H' p = some (.lst ((mR (WM.Ms (zd z) ss) i k).map vN)) → Q (.ref p) H'
theorem sIx_le {n : Nat} {i : Nat} : HT.sIx n 0 (some (i : Int)) = min i n := by
  unfold HT.sIx
  simp
  omega
theorem sIx_le2 {n : Nat} {i : Nat} : HT.sIx n n (some (i : Int)) = min i n := by
  unfold HT.sIx
  simp
  omega
theorem ok_masks_between {f C : Addr} {fd : FuncData} (F : Fun K "masks_between" "Stretch.masks_between" s_Stretch_masks_between f fd) (bt : Bt mg bn) (c : Cls K C) (n1 : NoAttr K C "begin") (n2 : NoAttr K C "masks")
    (M_mask_at : DMeth P w K mg base CX0 1 C "mask_at" ["self", "unknown"] (spMaskAt C)) :
    FnOk P w K mg base CX0 2 f fd ["self", "begin", "end"] (spBetween C) := by
  refine F.ok sc_Stretch_masks_between (fun vs H Q E h => ?_) (fun cdv A outer s H vs Q E hr h => ?_)
  · obtain ⟨st, b0, u, v, z, ss, i, k, rfl, _⟩ := h
    rfl
  · obtain ⟨st, b0, u, v, z, ss, i, k, rfl, hst, rfl, rfl, hik, hk, q⟩ := h
    obtain ⟨dx, Dm, Dn, n, tail, lap, h1, h2, h3, h4, h5, h6⟩ := hst.ex
    refine ⟨_, (pss_cons (ps_set (i := 3) sc_Stretch_masks_between.nd rfl (.inl rfl) (pe_slice (r := rSlL K) sl_list (pe_fld (pv 0) rfl) (po_some (pe_op op_sub (pv 1) (pe_fld (pv 0) rfl))) (po_some (pe_op op_sub (pv 2) (pe_fld (pv 0) rfl)))))
      (pss_cons (ps_for PassesOwn.never rfl (pi_range2L (by rfl) (bt "range" (by decide)) (pa_cons (pe_op op_add (pv 1) (pe_callB call_len_seq (by rfl) (bt "len" (by decide)) PySem.boot_len (pa_cons (pv 3) pa_nil))) (pa_cons (pv 2) pa_nil))) (pg_name (i := 4) sc_Stretch_masks_between.nd rfl (.inl rfl))
        (pss_one (ps_expr (pe_bm PySem.F.plainAttrs_list PySem.F.slot_list_append PySem.F.type_list_append mt_append (pv 3) (pa_cons (pe_methD M_mask_at hr (by decide) pass0 (pv 0) (pa_cons (pv 4) pa_nil)) pa_nil)))))
      (pss_one (ps_ret (pv 3))))), ?_⟩
    refine ⟨_, rfl, st, C, dx, _, _, rfl, h1, c, n2, rfl, _, rfl, _, rfl, st, C, dx, _, _, rfl, h1, c, n1, rfl, _, _, rfl, rfl, _, rfl, _, rfl, _, rfl, st, C, dx, _, _, rfl, h1, c, n1, rfl, _, _, rfl, rfl, _, rfl, Dm, _, rfl, SqL.of h3, fun D nD => ?_⟩
    have lm : ((mss (zd z) ss n).map vN).length = n := by rw [List.length_map, mss_len]
    have hcut : cutV ((mss (zd z) ss n).map vN) (some (b0 + (i : Int) - b0)) (some (b0 + (i : Int) + (k : Int) - b0)) = (mR (WM.Ms (zd z) ss) i (min (i + k) n - min i n)).map vN := by
      rw [show b0 + (i : Int) - b0 = ((i : Nat) : Int) by omega, show b0 + (i : Int) + (k : Int) - b0 = ((i + k : Nat) : Int) by omega]
      unfold cutV
      rw [lm]
      have s1 : HT.sIx n 0 (some ((i : Nat) : Int)) = min i n := sIx_le
      have s2 : HT.sIx n n (some ((i + k : Nat) : Int)) = min (i + k) n := sIx_le2
      rw [s1, s2]
      refine List.ext_getElem? fun t => ?_
      rw [List.getElem?_take, List.getElem?_drop, List.getElem?_map, List.getElem?_map]
      by_cases ht : t < min (i + k) n - min i n
      · rw [if_pos ht, mR_get ht]
        have := mss_at (d := zd z) (ss := ss) (n := n) (j := min i n + t) (by omega)
        rw [List.getElem?_map] at this
        rw [this, show min i n = i by omega]
        rfl
      · rw [if_neg ht]
        have : (mR (WM.Ms (zd z) ss) i (min (i + k) n - min i n))[t]? = none := List.getElem?_eq_none (by rw [mR_len]; omega)
        rw [this]
        rfl
    generalize hk0 : min (i + k) n - min i n = k0 at hcut
    have hk0' : k0 ≤ k := by omega
    generalize eD : upd _ D _ = H1
    have W := (Own.nil (H := H)).new nD eD
    rw [show cutV ((mss (zd z) ss n).map vN) (some (b0 + (i : Int) - b0)) (some (b0 + (i : Int) + (k : Int) - b0)) = _ from hcut] at W
    refine ⟨_, rfl, _, rfl, D, _, rfl, .inl (SqL.of W.g0), _, _, rfl, rfl, _, rfl, _, _, rfl, ?_⟩
    have e1 : (b0 + (i : Int) + ((((mR (WM.Ms (zd z) ss) i k0).map vN).length : Nat) : Int)) = b0 + ((i + k0 : Nat) : Int) := by
      rw [List.length_map, mR_len]
      omega
    have e2 : (b0 + (i : Int) + (k : Int) - (b0 + (i : Int) + ((((mR (WM.Ms (zd z) ss) i k0).map vN).length : Nat) : Int))).toNat = k - k0 := by
      rw [List.length_map, mR_len]
      omega
    have e3 : (0 : Nat) + k0 = k0 := by omega
    refine for_range (lo := _) (n := _) (fun t σ H' => ∃ y4, σ = [some (.ref st), some (.int (b0 + (i : Int))), some (.int (b0 + (i : Int) + (k : Int))), some (.ref D), y4] ∧ Own H [(D, .lst ((mR (WM.Ms (zd z) ss) i (k0 + t)).map vN))] H')
      ⟨none, rfl, W⟩ ?_ ?_
    · rintro t σ H' ht ⟨y4, rfl, W'⟩
      rw [e2] at ht
      refine ⟨_, rfl, .inl ⟨rfl, _, SqL.of W'.g0⟩, _, rfl, st, dx, _, rfl, W'.s _ _ h1, rfl, _, rfl, st, b0, _, z, ss, i + k0 + t, rfl, hst.same W'.s, ?_, by omega, D, _, _, rfl, rfl, W'.g0, ?_, ?_⟩
      · rw [e1]
        omega
      · rw [List.length_map, mR_len]
        exact big (by omega)
      · generalize e5 : upd _ D _ = H5
        have W5 := W'.set0 e5
        refine ⟨_, rfl, ?_⟩
        rw [show k0 + (t + 1) = (k0 + t) + 1 by omega, mR_succ, List.map_append, show i + (k0 + t) = i + k0 + t by omega]
        exact W5
    · rintro σ H' ⟨y4, rfl, W'⟩
      rw [e2, show k0 + (k - k0) = k by omega] at W'
      exact ⟨_, rfl, q H' D W'.s nD W'.g0⟩
end
end Fb
namespace Fb
open PySem PySem.Spec PyProof.Rows L2
section
variable {P : Program} {w : World} {K : PySem.W.Frag} {mg : Str → Option Value} {base : Heap}
/-! ### Handed -/
def iL (l : List Int) : HO := .lst (l.map V.int)
def hdO (C dx la wa : Addr) : HO := .ins C dx [("levels", .ref la), ("weights", .ref wa)]
theorem iL_rep (n : Nat) : HO.lst (List.replicate n [V.int 0]).flatten = iL (List.replicate n 0) := by
  unfold iL
  congr 1
  induction n with
  | zero => rfl
  | succ b ih => rw [List.replicate_succ, List.flatten_cons, ih, List.replicate_succ]; rfl
theorem sc_Handed_init : FnScope nm_Handed_init ["self", "borders"] (defScope s_Handed_init) := ⟨rfl, rfl, rfl, by decide +kernel, rfl, by decide +kernel, by decide +kernel⟩
def spHandedInit (C : Addr) : Sp := fun vs H Q _ => ∃ (x dx : Addr) (b : Nat) (H1 : Hp) (ds : List Cell), vs = [.ref x, .int b] ∧ Own H1 ((x, .ins C dx []) :: ds) H ∧ b ≤ 6 ∧
  ∀ H' la wa, Own H1 ((x, hdO C dx la wa) :: (la, iL (List.replicate (16 + b) 0)) :: (wa, iL (List.replicate (16 + b) 0)) :: ds) H' → Q .non H'
theorem ok_Handed_init {f C : Addr} {fd : FuncData} (F : Fun K "__init__" "Handed.__init__" s_Handed_init f fd) (c : Cls K C) (n1 : NoAttr K C "levels") (n2 : NoAttr K C "weights") (g_MOST_OFFSET : GInt mg "MOST_OFFSET" 16) :
    FnOk P w K mg base CX0 1 f fd ["self", "borders"] (spHandedInit C) := by
  refine F.ok sc_Handed_init (fun vs H Q E h => ?_) (fun cdv A outer s H vs Q E hr h => ?_)
  · obtain ⟨x, dx, b, H1, ds, rfl, _⟩ := h
    rfl
  · obtain ⟨x, dx, b, B, ds, rfl, W, hb, q⟩ := h
    refine ⟨_, (pss_cons (ps_fld (pv 0) (pe_op op_rep (pe_lst (pa_cons pe_int pa_nil)) (pe_op op_add (pe_globI (n := (16)) g_MOST_OFFSET) (pv 1))) rfl)
      (pss_one (ps_fld (pv 0) (pe_op op_rep (pe_lst (pa_cons pe_int pa_nil)) (pe_op op_add (pe_globI (n := (16)) g_MOST_OFFSET) (pv 1))) rfl))), ?_⟩
    have hz : ∀ n : Nat, n ≤ 1000 → 1 * (n : Int).toNat ≤ sizeLine := fun n hn => by
      have := big (n := n) (by omega)
      omega
    refine ⟨Nat.succ_le_of_lt (small (by decide)), fun l0 nl0 => ⟨_, rfl, _, _, rfl, rfl, l0, _, _, rfl, rfl, upd_same, by show -(2 ^ 63) ≤ (16 : Int) + (b : Int); omega, by show (16 : Int) + (b : Int) < 2 ^ 63; omega, hz (16 + b) (by omega), fun la nla => ?_⟩⟩
    generalize e1 : upd _ la _ = H1
    have W1 := ((W.new nl0 rfl).new nla e1).sub (.cons₂ _ (.cons _ (List.Sublist.refl _)))
    refine ⟨_, rfl, x, C, dx, _, rfl, W1.g1, c, n1, by show 0 < 1000; decide, ?_⟩
    generalize e2 : upd _ x _ = H2
    have W2 := W1.set1 e2
    refine ⟨Nat.succ_le_of_lt (small (by decide)), fun l1 nl1 => ⟨_, rfl, _, _, rfl, rfl, l1, _, _, rfl, rfl, upd_same, by show -(2 ^ 63) ≤ (16 : Int) + (b : Int); omega, by show (16 : Int) + (b : Int) < 2 ^ 63; omega, hz (16 + b) (by omega), fun wa nwa => ?_⟩⟩
    generalize e3 : upd _ wa _ = H3
    have W3 := ((W2.new nl1 rfl).new nwa e3).sub (.cons₂ _ (.cons _ (List.Sublist.refl _)))
    refine ⟨_, rfl, x, C, dx, _, rfl, W3.g2, c, n2, by show 1 < 1000; decide, ?_⟩
    generalize e4 : upd _ x _ = H4
    have W4 := W3.set2 e4
    rw [show ((16 : Int) + (b : Int)).toNat = 16 + b by omega, iL_rep] at W4
    exact q H4 la wa (W4.rot2.perm ((List.Perm.swap _ _ _).cons _))
/-! ### _hand_on -/
def hdCells (C x dx la wa : Addr) (s : GS) (ds : List Cell) : List Cell := (x, hdO C dx la wa) :: (la, iL s.1) :: (wa, iL s.2) :: ds
theorem sc_Handed_hand_on : FnScope nm_Handed_hand_on ["self", "mask", "level", "weight"] (defScope s_Handed_hand_on) := ⟨rfl, rfl, rfl, by decide +kernel, rfl, by decide +kernel, by decide +kernel⟩
theorem getD_ints {L : List Int} {p : Nat} (h : p < L.length) : (L.map V.int)[p]? = some (.int (L.getD p 0)) := by
  rw [List.getElem?_map, List.getD_eq_getElem?_getD, List.getElem?_eq_getElem h]
  rfl
theorem ixN_nat {n p : Nat} (h : p < n) : ixN n (p : Int) = some p := by
  unfold ixN
  rw [if_pos (Int.natCast_nonneg p), if_pos (by omega)]
  rfl
theorem set_ints (L : List Int) (p : Nat) (v : Int) : (L.map V.int).set p (.int v) = (L.set p v).map V.int := by
  rw [List.map_set]
def spHandOn (C : Addr) : Sp := fun vs H Q _ => ∃ (x dx la wa : Addr) (m : Nat) (l wt : Int) (b : Nat) (s : GS) (H1 : Hp) (ds : List Cell), vs = [.ref x, .int m, .int l, .int wt] ∧ Own H1 (hdCells C x dx la wa s ds) H ∧ Len b s ∧ b ≤ 6 ∧ (∀ a, 16 + b ≤ a → m.testBit a = false) ∧
  ∀ H', Own H1 (hdCells C x dx la wa (hdL m l s.1, hdW m wt s.2) ds) H' → Q .non H'
theorem ok_handed_hand_on {f C : Addr} {fd : FuncData} (F : Fun K "_hand_on" "Handed._hand_on" s_Handed_hand_on f fd) (bt : Bt mg bn) (c : Cls K C) (n1 : NoAttr K C "levels") (n2 : NoAttr K C "weights")
    (D_lowest : Def P w K mg base CX0 1 "lowest" ["mask"] spLow) : FnOk P w K mg base CX0 2 f fd ["self", "mask", "level", "weight"] (spHandOn C) := by
  refine F.ok sc_Handed_hand_on (fun vs H Q E h => ?_) (fun cdv A outer s H vs Q E hr h => ?_)
  · obtain ⟨x, dx, la, wa, m, l, wt, b, s, H1, ds, rfl, _⟩ := h
    rfl
  · obtain ⟨x, dx, la, wa, m, l, wt, b, s, B, ds, rfl, W, hl, hb, hm, q⟩ := h
    refine ⟨_, (pss_one (ps_if (pt_truth (pv 1) (by intro _; rfl))
        (pss_cons (ps_set (i := 4) sc_Handed_hand_on.nd rfl (.inl rfl) (pe_callD D_lowest hr (by decide) pass0 (pa_cons (pv 1) pa_nil)))
        (pss_cons (ps_asg (pe_callB (call_max2 rfl) (by rfl) (bt "max" (by decide)) PyProof.Rows.boot_max (pa_cons (pe_ix (r := rIxL K) ix_list (pe_fld (pv 0) rfl) (pv 4) (fun _ _ => rfl)) (pa_cons (pv 2) pa_nil))) (pg_sub (pe_fld (pv 0) rfl) (pv 4) set_list))
        (pss_one (ps_augS (pe_fld (pv 0) rfl) (pv 4) get_list (pv 3) ip_add set_list))))
        pss_nil)), ?_⟩
    unfold hdCells at W
    by_cases h0 : m = 0
    · subst h0
      refine ⟨_, rfl, false, rfl, iteF ?_⟩
      exact q H W
    · refine ⟨_, rfl, true, ?_, iteT ?_⟩
      · show true = ((m : Int) != 0)
        simp [h0]
      · obtain ⟨p1, p2⟩ := lowB_spec (B := 16 + b) (by omega) h0 hm
        refine ⟨_, rfl, m, rfl, h0, fun k hk hkj => ?_⟩
        have ek := lowB_is (m := m) (k := k) (by
          by_cases z : k < 64
          · exact z
          · rw [hm k (by omega)] at hk
            cases hk) hk hkj
        rw [ek]
        generalize hp : lowB m = p at *
        have pl : p < s.1.length := by rw [hl.1]; exact p1
        have pw : p < s.2.length := by rw [hl.2]; exact p1
        refine ⟨_, rfl, x, C, dx, _, _, rfl, W.g0, c, n1, rfl, _, rfl, la, _, _, _, rfl, rfl, SqL.of W.g1, atI_nat (getD_ints pl), _, rfl, _, _, rfl, ?_⟩
        refine ⟨_, rfl, x, C, dx, _, _, rfl, W.g0, c, n1, rfl, _, rfl, la, _, _, p, rfl, rfl, W.g1, by rw [List.length_map]; exact ixN_nat pl, ?_⟩
        generalize e1 : upd _ la _ = H1
        have W1 := W.set1 e1
        refine ⟨_, rfl, x, C, dx, _, _, rfl, W1.g0, c, n2, rfl, _, rfl, wa, _, p, _, rfl, rfl, SqL.of W1.g2, getD_ints pw, _, rfl, _, _, rfl, rfl, wa, _, _, p, rfl, rfl, W1.g2, by rw [List.length_map]; exact ixN_nat pw, ?_⟩
        generalize e2 : upd _ wa _ = H2
        have W2 := W1.set2 e2
        refine q H2 ?_
        unfold hdCells hdL hdW
        rw [if_neg h0, if_neg h0, hp]
        rw [show ∀ v, HO.lst ((s.1.map V.int).set p (V.int v)) = iL (s.1.set p v) from fun v => by rw [set_ints]; rfl, set_ints] at W2
        exact W2
/-! ### take_inner, take_border -/
theorem sc_Handed_take_inner : FnScope nm_Handed_take_inner ["self", "mask"] (defScope s_Handed_take_inner) := ⟨rfl, rfl, rfl, by decide +kernel, rfl, by decide +kernel, by decide +kernel⟩
def spTakeIn (C : Addr) : Sp := fun vs H Q _ => ∃ (x dx la wa : Addr) (m : Nat) (b : Nat) (s : GS) (H1 : Hp) (ds : List Cell), vs = [.ref x, .int m] ∧ Own H1 (hdCells C x dx la wa s ds) H ∧ Len b s ∧ b ≤ 6 ∧ (∀ a, 16 + b ≤ a → m.testBit a = false) ∧
  ∀ H' t, Own H1 ((t, .tup [.int (tkI m s).1.1, .int (tkI m s).1.2]) :: hdCells C x dx la wa (tkI m s).2 ds) H' → Q (.ref t) H'
theorem insA_map (L : List Int) : (L.map V.int).take (15 : Int).toNat ++ [V.int 0] ++ (L.map V.int).drop (15 : Int).toNat = (insA L).map V.int := by
  unfold insA
  rw [List.map_append, List.map_append, List.map_take, List.map_drop]
  rfl
theorem seq0 {n : Nat} (h : 0 < n) : seqIndex? 0 n = some 0 := by
  unfold seqIndex?
  simp
  omega
theorem erase_map (L : List Int) : (L.map V.int).eraseIdx 0 = L.tail.map V.int := by
  cases L <;> rfl
theorem ok_take_inner {f C : Addr} {fd : FuncData} (F : Fun K "take_inner" "Handed.take_inner" s_Handed_take_inner f fd) (bt : Bt mg bn) (c : Cls K C) (n1 : NoAttr K C "levels") (n2 : NoAttr K C "weights") (g_MOST_OFFSET : GInt mg "MOST_OFFSET" 16)
    (M_hand_on : DMeth P w K mg base CX0 2 C "_hand_on" ["self", "mask", "level", "weight"] (spHandOn C)) : FnOk P w K mg base CX0 3 f fd ["self", "mask"] (spTakeIn C) := by
  refine F.ok sc_Handed_take_inner (fun vs H Q E h => ?_) (fun cdv A outer s H vs Q E hr h => ?_)
  · obtain ⟨x, dx, la, wa, m, b, s, H1, ds, rfl, _⟩ := h
    rfl
  · obtain ⟨x, dx, la, wa, m, b, s, B, ds, rfl, W, hl, hb, hm, q⟩ := h
    refine ⟨_, (pss_cons (ps_set (i := 2) sc_Handed_take_inner.nd rfl (.inl rfl) (pe_op op_add (pe_bm PySem.F.plainAttrs_list PySem.F.slot_list_pop PySem.F.type_list_pop mt_popAt (pe_fld (pv 0) rfl) (pa_cons pe_int pa_nil)) pe_int))
      (pss_cons (ps_set (i := 3) sc_Handed_take_inner.nd rfl (.inl rfl) (pe_op op_add (pe_bm PySem.F.plainAttrs_list PySem.F.slot_list_pop PySem.F.type_list_pop mt_popAt (pe_fld (pv 0) rfl) (pa_cons pe_int pa_nil)) pe_int))
      (pss_cons (ps_expr (pe_bm PySem.F.plainAttrs_list PySem.F.slot_list_insert PySem.F.type_list_insert mt_insert (pe_fld (pv 0) rfl) (pa_cons (pe_op op_sub (pe_globI (n := (16)) g_MOST_OFFSET) pe_int) (pa_cons pe_int pa_nil))))
      (pss_cons (ps_expr (pe_bm PySem.F.plainAttrs_list PySem.F.slot_list_insert PySem.F.type_list_insert mt_insert (pe_fld (pv 0) rfl) (pa_cons (pe_op op_sub (pe_globI (n := (16)) g_MOST_OFFSET) pe_int) (pa_cons pe_int pa_nil))))
      (pss_cons (ps_expr (pe_methD M_hand_on hr (by decide) pass0 (pv 0) (pa_cons (pv 1) (pa_cons (pv 2) (pa_cons (pv 3) pa_nil)))))
      (pss_one (ps_ret (pe_tup (pa_cons (pv 2) (pa_cons (pv 3) pa_nil)))))))))), ?_⟩
    unfold hdCells at W
    have l0 : 0 < s.1.length := by rw [hl.1]; omega
    have w0 : 0 < s.2.length := by rw [hl.2]; omega
    refine ⟨_, rfl, x, C, dx, _, _, rfl, W.g0, c, n1, rfl, .inl ⟨rfl, _, SqL.of W.g1⟩, la, _, 0, 0, _, rfl, rfl, W.g1, by decide, by decide, ?_, getD_ints l0, ?_⟩
    · rw [List.length_map, hl.1]
      exact seq0 (by omega)
    generalize e1 : upd _ la _ = H1
    have W1 := W.set1 e1
    refine ⟨_, _, rfl, rfl, ?_⟩
    refine ⟨_, rfl, x, C, dx, _, _, rfl, W1.g0, c, n2, rfl, .inl ⟨rfl, _, SqL.of W1.g2⟩, wa, _, 0, 0, _, rfl, rfl, W1.g2, by decide, by decide, ?_, getD_ints w0, ?_⟩
    · rw [List.length_map, hl.2]
      exact seq0 (by omega)
    generalize e2 : upd _ wa _ = H2
    have W2 := W1.set2 e2
    refine ⟨_, _, rfl, rfl, ?_⟩
    rw [erase_map] at W2
    rw [erase_map] at W2
    refine ⟨_, rfl, x, C, dx, _, _, rfl, W2.g0, c, n1, rfl, .inl ⟨rfl, _, SqL.of W2.g1⟩, _, _, rfl, rfl, la, _, 15, .int 0, rfl, rfl, W2.g1, ?_, by decide, by decide, ?_⟩
    · rw [List.length_map, List.length_tail, hl.1]
      exact big (by omega)
    generalize e3 : upd _ la _ = H3
    have W3 := W2.set1 e3
    rw [insA_map] at W3
    refine ⟨_, rfl, x, C, dx, _, _, rfl, W3.g0, c, n2, rfl, .inl ⟨rfl, _, SqL.of W3.g2⟩, _, _, rfl, rfl, wa, _, 15, .int 0, rfl, rfl, W3.g2, ?_, by decide, by decide, ?_⟩
    · rw [List.length_map, List.length_tail, hl.2]
      exact big (by omega)
    generalize e4 : upd _ wa _ = H4
    have W4 := W3.set2 e4
    rw [insA_map] at W4
    refine ⟨_, rfl, x, dx, _, rfl, W4.g0, rfl, _, rfl, _, rfl, _, rfl, x, dx, la, wa, m, _, _, b, (insA s.1.tail, insA s.2.tail), B, ds, rfl, W4, ⟨insA_len hl.1, insA_len hl.2⟩, hb, hm, fun H5 W5 => ?_⟩
    refine ⟨_, rfl, _, rfl, by show 2 ≤ sizeLine; decide, fun t nt => ?_⟩
    generalize e6 : upd _ t _ = H6
    exact q H6 t (W5.new nt e6)
theorem sc_Handed_take_border : FnScope nm_Handed_take_border ["self", "touch", "mask"] (defScope s_Handed_take_border) := ⟨rfl, rfl, rfl, by decide +kernel, rfl, by decide +kernel, by decide +kernel⟩
def tkB (k m : Nat) (s : GS) : (Int × Int) × GS := ((s.1.getD (16 + k) 0 + 1, s.2.getD (16 + k) 0 + 1), (hdL m (s.1.getD (16 + k) 0 + 1) s.1, hdW m (s.2.getD (16 + k) 0 + 1) s.2))
def spTakeB (C : Addr) : Sp := fun vs H Q _ => ∃ (x dx la wa : Addr) (k m : Nat) (b : Nat) (s : GS) (H1 : Hp) (ds : List Cell), vs = [.ref x, .int k, .int m] ∧ Own H1 (hdCells C x dx la wa s ds) H ∧ Len b s ∧ b ≤ 6 ∧ k < b ∧ (∀ a, 16 + b ≤ a → m.testBit a = false) ∧
  ∀ H' t, Own H1 ((t, .tup [.int (tkB k m s).1.1, .int (tkB k m s).1.2]) :: hdCells C x dx la wa (tkB k m s).2 ds) H' → Q (.ref t) H'
theorem ok_take_border {f C : Addr} {fd : FuncData} (F : Fun K "take_border" "Handed.take_border" s_Handed_take_border f fd) (bt : Bt mg bn) (c : Cls K C) (n1 : NoAttr K C "levels") (n2 : NoAttr K C "weights") (g_MOST_OFFSET : GInt mg "MOST_OFFSET" 16)
    (M_hand_on : DMeth P w K mg base CX0 2 C "_hand_on" ["self", "mask", "level", "weight"] (spHandOn C)) : FnOk P w K mg base CX0 3 f fd ["self", "touch", "mask"] (spTakeB C) := by
  refine F.ok sc_Handed_take_border (fun vs H Q E h => ?_) (fun cdv A outer s H vs Q E hr h => ?_)
  · obtain ⟨x, dx, la, wa, k, m, b, s, H1, ds, rfl, _⟩ := h
    rfl
  · obtain ⟨x, dx, la, wa, k, m, b, s, B, ds, rfl, W, hl, hb, hk, hm, q⟩ := h
    refine ⟨_, (pss_cons (ps_set (i := 3) sc_Handed_take_border.nd rfl (.inl rfl) (pe_op op_add (pe_ix (r := rIxL K) ix_list (pe_fld (pv 0) rfl) (pe_op op_add (pe_globI (n := (16)) g_MOST_OFFSET) (pv 1)) (fun _ _ => rfl)) pe_int))
      (pss_cons (ps_set (i := 4) sc_Handed_take_border.nd rfl (.inl rfl) (pe_op op_add (pe_ix (r := rIxL K) ix_list (pe_fld (pv 0) rfl) (pe_op op_add (pe_globI (n := (16)) g_MOST_OFFSET) (pv 1)) (fun _ _ => rfl)) pe_int))
      (pss_cons (ps_expr (pe_methD M_hand_on hr (by decide) pass0 (pv 0) (pa_cons (pv 2) (pa_cons (pv 3) (pa_cons (pv 4) pa_nil)))))
      (pss_one (ps_ret (pe_tup (pa_cons (pv 3) (pa_cons (pv 4) pa_nil)))))))), ?_⟩
    unfold hdCells at W
    have l0 : 16 + k < s.1.length := by rw [hl.1]; omega
    have w0 : 16 + k < s.2.length := by rw [hl.2]; omega
    have ek : (16 : Int) + (k : Int) = ((16 + k : Nat) : Int) := by omega
    refine ⟨_, rfl, x, C, dx, _, _, rfl, W.g0, c, n1, rfl, _, rfl, _, _, rfl, rfl, la, _, _, _, rfl, rfl, SqL.of W.g1, by rw [ek]; exact atI_nat (getD_ints l0), _, _, rfl, rfl, ?_⟩
    refine ⟨_, rfl, x, C, dx, _, _, rfl, W.g0, c, n2, rfl, _, rfl, _, _, rfl, rfl, wa, _, _, _, rfl, rfl, SqL.of W.g2, by rw [ek]; exact atI_nat (getD_ints w0), _, _, rfl, rfl, ?_⟩
    refine ⟨_, rfl, x, dx, _, rfl, W.g0, rfl, _, rfl, _, rfl, _, rfl, x, dx, la, wa, m, _, _, b, s, B, ds, rfl, W, hl, hb, hm, fun H5 W5 => ?_⟩
    refine ⟨_, rfl, _, rfl, by show 2 ≤ sizeLine; decide, fun t nt => ?_⟩
    generalize e6 : upd _ t _ = H6
    exact q H6 t (W5.new nt e6)
/-! ### take_all -/
def pD (p : Int × Int) : PyData := .tuple [.int p.1, .int p.2]
theorem sc_Handed_take_all : FnScope nm_Handed_take_all ["self", "stretch", "begin", "end"] (defScope s_Handed_take_all) := ⟨rfl, rfl, rfl, by decide +kernel, rfl, by decide +kernel, by decide +kernel⟩
def spTakeAll (C CS : Addr) : Sp := fun vs H Q _ => ∃ (x dx la wa st : Addr) (b0 u v : Int) (z : Zn) (ss : List Nat) (i k b : Nat) (s : GS) (H1 : Hp) (ds : List Cell), vs = [.ref x, .ref st, .int u, .int v] ∧ Own H1 (hdCells C x dx la wa s ds) H ∧ StrR CS H1 st b0 z ss ∧ u = b0 + i ∧ v = b0 + i + k ∧ i + k ≤ z.c.toNat ∧ k ≤ 1000000 ∧
  Len b s ∧ b ≤ 6 ∧ (∀ j a, 16 + b ≤ a → (WM.Ms (zd z) ss j).testBit a = false) ∧
  ∀ Hb H' D vs, Same H1 Hb → Own Hb ((D, .lst vs) :: hdCells C x dx la wa (tkAll (mR (WM.Ms (zd z) ss) i k) s).2 ds) H' → DpAll K Hb vs ((tkAll (mR (WM.Ms (zd z) ss) i k) s).1.map pD) → Q (.ref D) H'
theorem ok_take_all {f C CS : Addr} {fd : FuncData} (F : Fun K "take_all" "Handed.take_all" s_Handed_take_all f fd) (bt : Bt mg bn)
    (M_take_inner : DMeth P w K mg base CX0 3 C "take_inner" ["self", "mask"] (spTakeIn C)) (M_masks_between : DMeth P w K mg base CX0 2 CS "masks_between" ["self", "begin", "end"] (spBetween CS)) :
    FnOk P w K mg base CX0 4 f fd ["self", "stretch", "begin", "end"] (spTakeAll (K := K) C CS) := by
  refine F.ok sc_Handed_take_all (fun vs H Q E h => ?_) (fun cdv A outer s H vs Q E hr h => ?_)
  · obtain ⟨x, dx, la, wa, st, b0, u, v, z, ss, i, k, b, s, H1, ds, rfl, _⟩ := h
    rfl
  · obtain ⟨x, dx, la, wa, st, b0, u, v, z, ss, i, k, b, s, B, ds, rfl, W, hst, rfl, rfl, hik, hk, hl, hb, hm, q⟩ := h
    refine ⟨_, (pss_one (ps_ret (pe_lc (own := [("mask", 4)]) (tt := tYes) (g := (gName 4)) rfl sc_Handed_take_all.nd (pi_list (pe_methD M_masks_between hr (by decide) pass0 (pv 1) (pa_cons (pv 2) (pa_cons (pv 3) pa_nil)))) (blkOk_by (N := nm_Handed_take_all) (sc := defScope s_Handed_take_all) (by decide +kernel)) (fun _ _ _ _ _ => (pg_name (i := 4) sc_Handed_take_all.nd rfl (.inl rfl))) (fun _ _ _ _ _ => pts_nil) (fun _ _ _ _ _ => (pe_methD M_take_inner hr (by decide) pass0 (pv 0) (pa_cons (pv 4) pa_nil)))))), ?_⟩
    have hst' := hst.same W.s
    obtain ⟨dxs, Dm, Dn, n, tail, lap, h1, h2, h3, h4⟩ := hst'.ex
    refine ⟨_, rfl, st, dxs, _, rfl, h1, rfl, _, rfl, _, rfl, st, b0, _, _, z, ss, i, k, rfl, hst', rfl, rfl, hik, hk, fun H1 p S1 np hp => ?_⟩
    obtain ⟨B1, W1, SB, kB⟩ := (W.mono S1).rebase'
    have hpB : B1 p = some (.lst ((mR (WM.Ms (zd z) ss) i k).map vN)) := kB _ _ (fun m => by
      obtain ⟨cc, hc, e⟩ := List.mem_map.mp m
      have := W.h cc hc
      rw [e, np] at this
      cases this) hp
    refine ⟨p, rfl, ⟨_, SqL.of hp⟩, fun D nD => ?_⟩
    refine lc_list (xs := (mR (WM.Ms (zd z) ss) i k).map vN) (fun t H' => ∃ (B2 : Hp) (vs : List V), Same B1 B2 ∧ Own B2 ((D, .lst vs) :: hdCells C x dx la wa (tkAll (mR (WM.Ms (zd z) ss) i t) s).2 ds) H' ∧ DpAll K B2 vs ((tkAll (mR (WM.Ms (zd z) ss) i t) s).1.map pD))
      ⟨B1, [], Same.refl _, W1.new nD rfl, .nil⟩ (fun t H' _ ⟨B2, vs, S2, W2, _⟩ => SqL.of (S2.trans W2.s _ _ hpB)) ?_ ?_
    · rintro t y H' hy ⟨B2, vs, S2, W2, hv⟩
      obtain ⟨m, hmm, rfl⟩ := nats_get hy
      have ht : t < k := by
        rw [List.getElem?_eq_some_iff] at hmm
        obtain ⟨h, _⟩ := hmm
        rw [mR_len] at h
        exact h
      rw [mR_get ht] at hmm
      have em := Option.some.inj hmm
      subst em
      have lv := dpAll_len hv
      rw [List.length_map, tkAll_len, mR_len] at lv
      refine ⟨rfl, ?_⟩
      refine ⟨_, rfl, x, dx, _, rfl, W2.g1, rfl, _, rfl, x, dx, la, wa, _, b, _, B2, (D, .lst vs) :: ds, rfl, W2.perm (List.perm_middle (a := ((D, .lst vs) : Cell)) (l₁ := [_, _, _]) (l₂ := ds)).symm, hl.all _, hb, hm _, fun H3 tt W3 => ?_⟩
      obtain ⟨B3, S3, k3, W4⟩ := W3.fix
      have W5 := W4.perm (List.perm_middle (a := ((D, .lst vs) : Cell)) (l₁ := [_, _, _]) (l₂ := ds))
      refine ⟨vs, W5.g0, by rw [lv]; exact big (by omega), B3, vs ++ [.ref tt], S2.trans S3, ?_, ?_⟩
      · generalize e6 : upd _ D _ = H6
        rw [mR_succ, tkAll_snoc]
        exact W5.set0 e6
      · rw [mR_succ, tkAll_snoc, List.map_append]
        refine dpAll_append (dpAll_same S3 _ hv) (.cons ?_ .nil)
        exact .tup (.inl (.inl k3)) (.cons (.int _) (.cons (.int _) .nil))
    · rintro H' ⟨B2, vs, S2, W2, hv⟩
      rw [List.length_map, mR_len] at W2 hv
      exact q B2 H' D vs (SB.trans S2) W2 hv
end
end Fb
namespace Fb
open PySem PySem.Spec PyProof.Rows L2
/-! ### how large numbers become: 130 bits more a stretch -/
def expN (t : Nat) : Nat := 2 ^ (130 * (t + 1))
theorem expN_succ (t : Nat) : expN (t + 1) = 1361129467683753853853498429727072845824 * expN t := by
  unfold expN
  rw [show 130 * (t + 1 + 1) = 130 * (t + 1) + 130 by omega, Nat.pow_add, Nat.mul_comm]
theorem expN_big (t : Nat) : 1361129467683753853853498429727072845824 ≤ expN t := by
  unfold expN
  rw [show 130 * (t + 1) = 130 + 130 * t by omega, Nat.pow_add]
  exact Nat.le_mul_of_pos_right _ (Nat.pow_pos (by omega))
theorem expN_lt {t : Nat} (h : t ≤ 3000) {n : Nat} (hn : n ≤ 4 * expN t) : n < 2 ^ 390140 := by
  have h1 : expN t ≤ 2 ^ 390130 := Nat.pow_le_pow_right (by omega) (by omega)
  have h2 : 2 ^ 390140 = 2 ^ 10 * 2 ^ 390130 := by rw [← Nat.pow_add]
  rw [h2]
  have h3 : 0 < 2 ^ 390130 := Nat.pow_pos (by omega)
  generalize 2 ^ 390130 = q at *
  have : (2 : Nat) ^ 10 = 1024 := by decide
  omega
def laps30 : Nat := 1000000000000000000000000000000
theorem laps_lt {n : Int} (h : n.natAbs ≤ 1000000000000000000000000000000) : n.natAbs < 2 ^ 110 := Nat.lt_of_le_of_lt h (by decide)
theorem ints_getV {L : List Int} {i : Nat} {x : V} (h : (L.map V.int)[i]? = some x) : ∃ v, L[i]? = some v ∧ x = .int v := by
  rw [List.getElem?_map] at h
  cases e : L[i]? with
  | none => rw [e] at h; cases h
  | some v => rw [e] at h; exact ⟨v, rfl, (Option.some.inj h).symm⟩
theorem pD_get {ps : List (Int × Int)} {K : PySem.W.Frag} {H : Hp} {vs : List V} (h : DpAll K H vs (ps.map pD)) {i : Nat} {x : V} (hx : vs[i]? = some x) : ∃ (p : Int × Int) (a : Addr), ps[i]? = some p ∧ x = .ref a ∧ SqT K H a [.int p.1, .int p.2] := by
  obtain ⟨d, h1, h2⟩ := dpAll_getV h hx
  rw [List.getElem?_map] at h1
  cases e : ps[i]? with
  | none => rw [e] at h1; cases h1
  | some p =>
    rw [e] at h1
    have := Option.some.inj h1
    subst this
    obtain ⟨a, xs, rfl, hs, hxs⟩ := dp_tup h2
    cases hxs with
    | cons g1 g2 =>
      cases g1
      cases g2 with
      | cons g3 g4 =>
        cases g3
        cases g4
        exact ⟨p, a, rfl, rfl, hs⟩
section
variable {P : Program} {w : World} {K : PySem.W.Frag} {mg : Str → Option Value} {base : Heap}
/-! ### gone_on -/
theorem sc_gone_on : FnScope nm_gone_on ["before", "now", "laps"] (defScope s_gone_on) := ⟨rfl, rfl, rfl, by decide +kernel, rfl, by decide +kernel, by decide +kernel⟩
def spGone (K : PySem.W.Frag) : Sp := fun vs H Q _ => ∃ (a b : Addr) (xs ys : List Int) (n : Int) (N : Nat) (t : Nat), vs = [.ref a, .ref b, .int n] ∧ SqL K H a (xs.map V.int) ∧ SqL K H b (ys.map V.int) ∧ xs.length ≤ 1000 ∧ n.natAbs ≤ 1000000000000000000000000000000 ∧ (∀ v ∈ xs, v.natAbs ≤ N) ∧ (∀ v ∈ ys, v.natAbs ≤ N) ∧ N ≤ 2 * expN t ∧ t ≤ 3000 ∧
  ∀ H' p, Same H H' → H p = none → H' p = some (iL (goneL xs ys n)) → Q (.ref p) H'
theorem goneL_get {xs ys : List Int} {n : Int} {i : Nat} {x y : Int} (h1 : xs[i]? = some x) (h2 : ys[i]? = some y) : (goneL xs ys n)[i]? = some (y + n * (y - x)) := by
  unfold goneL
  rw [List.getElem?_zipWith, h1, h2]
theorem ok_gone_on {f : Addr} {fd : FuncData} (F : Fun K "gone_on" "gone_on" s_gone_on f fd) (bt : Bt mg bn) : FnOk P w K mg base CX0 1 f fd ["before", "now", "laps"] (spGone K) := by
  refine F.ok sc_gone_on (fun vs H Q E h => ?_) (fun cdv A outer s H vs Q E hr h => ?_)
  · obtain ⟨a, b, xs, ys, n, N, t, rfl, _⟩ := h
    rfl
  · obtain ⟨a, b, xs, ys, n, N, t, rfl, ha, hb, hl, hn, h1, h2, hN, ht, q⟩ := h
    refine ⟨_, (pss_one (ps_ret (pe_lc (own := [("earlier", 3), ("number", 4)]) (tt := tYes) (g := (gTup K 2 (gCons (gName 3) (gCons (gName 4) gNil)))) rfl sc_gone_on.nd (pi_zip (by rfl) (bt "zip" (by decide)) (pa_cons (pv 0) (pa_cons (pv 1) pa_nil))) (blkOk_by (N := nm_gone_on) (sc := defScope s_gone_on) (by decide +kernel)) (fun _ _ _ _ _ => (pg_tup rfl (pgs_cons (pg_name (i := 3) sc_gone_on.nd rfl (.inl rfl)) (pgs_cons (pg_name (i := 4) sc_gone_on.nd rfl (.inl rfl)) pgs_nil)))) (fun _ _ _ _ _ => pts_nil) (fun _ _ _ _ _ => (pe_op op_add (pv 4) (pe_op op_mulW (pv 2) (pe_op op_sub (pv 4) (pv 3)))))))), ?_⟩
    have gl : (goneL xs ys n).length = min (xs.map V.int).length (ys.map V.int).length := by
      unfold goneL
      rw [List.length_zipWith, List.length_map, List.length_map]
    refine ⟨_, rfl, _, rfl, a, b, _, _, rfl, ha, hb, fun D nD => ?_⟩
    refine lc_it (walk_zip (K := K) (a := a) (b := b) (xs := xs.map V.int) (ys := ys.map V.int) gl) (fun i H' => Own H [(D, iL ((goneL xs ys n).take i))] H') (Own.nil.new nD rfl) (fun i H' _ W => ⟨W.s.seq ha, W.s.seq hb⟩) ?_ ?_
    · rintro i x H3 H4 hi W ⟨T, x1, y1, rfl, nT, rfl, e1, e2⟩
      obtain ⟨u, hu, rfl⟩ := ints_getV e1
      obtain ⟨v, hv, rfl⟩ := ints_getV e2
      generalize eT : upd _ T _ = H4
      have WT := W.new nT eT
      refine ⟨T, _, rfl, .inl (.inl WT.g0), rfl, _, _, rfl, _, _, rfl, rfl, rfl, ?_⟩
      have a1 := h1 u (List.mem_of_getElem? hu)
      have a2 := h2 v (List.mem_of_getElem? hv)
      refine ⟨_, rfl, _, rfl, _, rfl, _, rfl, _, _, rfl, rfl, _, _, rfl, rfl, ?_, _, _, rfl, rfl, _, WT.g1, ?_, ?_⟩
      · refine wide_mul (a := 110) (b := 390140) (laps_lt hn) ?_ (by omega) (by omega) (by omega)
        refine expN_lt ht ?_
        have := Int.natAbs_sub_le v u
        omega
      · rw [List.length_map, List.length_take]
        have := hl
        rw [List.length_map, List.length_map] at gl
        exact big (by omega)
      · generalize e5 : upd _ D _ = H5
        have W5 := WT.tl.set0 e5
        rw [take_snoc (goneL_get hu hv)]
        unfold iL
        rw [List.map_append]
        exact W5
    · rintro H' W
      rw [List.take_length] at W
      exact q H' D W.s nD W.g0
/-! ### take_laps -/
theorem sc_Handed_take_laps : FnScope nm_Handed_take_laps ["self", "stretch", "begin", "laps"] (defScope s_Handed_take_laps) := ⟨rfl, rfl, rfl, by decide +kernel, rfl, by decide +kernel, by decide +kernel⟩
def gonS (s t : GS) (n : Int) : GS := (goneL s.1 t.1 n, goneL s.2 t.2 n)
def spTakeLaps (K : PySem.W.Frag) (C CS : Addr) : Sp := fun vs H Q _ => ∃ (x dx la wa st : Addr) (b0 u : Int) (n : Int) (z : Zn) (ss : List Nat) (i nn tail lap b t : Nat) (dxs Dm Dn : Addr) (s : GS) (N : Nat) (H1 : Hp) (ds : List Cell), vs = [.ref x, .ref st, .int u, .int n] ∧ Own H1 (hdCells C x dx la wa s ds) H ∧
  H1 st = some (.ins CS dxs (strF b0 (b0 + z.c) Dm Dn tail lap)) ∧ H1 Dn = some (.lst ((nes (zd z) ss nn).map vN)) ∧ H1 Dm = some (.lst ((mss (zd z) ss nn).map vN)) ∧ nn ≤ 5800 ∧ Told (zd z) ss z.c.toNat nn tail ∧ LapOk z.o nn tail lap ∧
  u = b0 + i ∧ i + lap ≤ z.c.toNat ∧ lap ≤ 1000000 ∧ n.natAbs ≤ 1000000000000000000000000000000 ∧ Len b s ∧ b ≤ 6 ∧ (∀ j a, 16 + b ≤ a → (WM.Ms (zd z) ss j).testBit a = false) ∧ Bnd N s ∧ N + lap ≤ 2 * expN t ∧ t ≤ 3000 ∧
  ∀ Hb H' D vs la' wa', Same H1 Hb → Own Hb ((D, .lst vs) :: hdCells C x dx la' wa' (gonS s (tkAll (mR (WM.Ms (zd z) ss) i lap) s).2 n) ds) H' → DpAll K Hb vs ((tkAll (mR (WM.Ms (zd z) ss) i lap) s).1.map pD) → Q (.ref D) H'
theorem bnd_w {N : Nat} {s : GS} (h : Bnd N s) : ∀ v ∈ s.2, v.natAbs ≤ N := fun v hv => Nat.le_trans (absS_get hv) h.2
theorem ok_take_laps {f C CS : Addr} {fd : FuncData} (F : Fun K "take_laps" "Handed.take_laps" s_Handed_take_laps f fd) (bt : Bt mg bn) (c : Cls K C) (n1 : NoAttr K C "levels") (n2 : NoAttr K C "weights") (cs : Cls K CS) (n3 : NoAttr K CS "lap")
    (M_take_all : DMeth P w K mg base CX0 4 C "take_all" ["self", "stretch", "begin", "end"] (spTakeAll (K := K) C CS)) (D_gone_on : Def P w K mg base CX0 1 "gone_on" ["before", "now", "laps"] (spGone K)) :
    FnOk P w K mg base CX0 5 f fd ["self", "stretch", "begin", "laps"] (spTakeLaps K C CS) := by
  refine F.ok sc_Handed_take_laps (fun vs H Q E h => ?_) (fun cdv A outer s H vs Q E hr h => ?_)
  · obtain ⟨x, dx, la, wa, st, b0, u, n, z, ss, i, nn, tail, lap, b, t, dxs, Dm, Dn, s, N, H1, ds, rfl, _⟩ := h
    rfl
  · obtain ⟨x, dx, la, wa, st, b0, u, n, z, ss, i, nn, tail, lap, b, t, dxs, Dm, Dn, s, N, B, ds, rfl, W, s1, s2, s3, s4, s5, s6, rfl, hil, hlap, hn, hl, hb, hm, hB, hN, ht, q⟩ := h
    refine ⟨_, (pss_cons (ps_set (i := 4) sc_Handed_take_laps.nd rfl (.inl rfl) (pe_callTy (r := rListOf K) call_list_of (by rfl) (bt "list" (by decide)) PyProof.Rows.boot_list (pa_cons (pe_fld (pv 0) rfl) pa_nil)))
      (pss_cons (ps_set (i := 5) sc_Handed_take_laps.nd rfl (.inl rfl) (pe_callTy (r := rListOf K) call_list_of (by rfl) (bt "list" (by decide)) PyProof.Rows.boot_list (pa_cons (pe_fld (pv 0) rfl) pa_nil)))
      (pss_cons (ps_set (i := 6) sc_Handed_take_laps.nd rfl (.inl rfl) (pe_methD M_take_all hr (by decide) pass0 (pv 0) (pa_cons (pv 1) (pa_cons (pv 2) (pa_cons (pe_op op_add (pv 2) (pe_fld (pv 1) rfl)) pa_nil)))))
      (pss_cons (ps_fld (pv 0) (pe_callD D_gone_on hr (by decide) pass0 (pa_cons (pv 4) (pa_cons (pe_fld (pv 0) rfl) (pa_cons (pv 3) pa_nil)))) rfl)
      (pss_cons (ps_fld (pv 0) (pe_callD D_gone_on hr (by decide) pass0 (pa_cons (pv 5) (pa_cons (pe_fld (pv 0) rfl) (pa_cons (pv 3) pa_nil)))) rfl)
      (pss_one (ps_ret (pv 6)))))))), ?_⟩
    refine ⟨_, rfl, x, C, dx, _, _, rfl, W.g0, c, n1, rfl, la, _, rfl, .inl (SqL.of W.g1), fun l0 nl0 => ?_⟩
    generalize e1 : upd _ l0 _ = H1
    have W1 := W.new nl0 e1
    refine ⟨_, rfl, x, C, dx, _, _, rfl, W1.g1, c, n2, rfl, wa, _, rfl, .inl (SqL.of W1.g3), fun w0 nw0 => ?_⟩
    generalize e2 : upd _ w0 _ = H2
    have W2 := W1.new nw0 e2
    have P1 : Own B (hdCells C x dx la wa s ((w0, iL s.2) :: (l0, iL s.1) :: ds)) H2 := W2.perm (List.perm_append_comm (l₁ := [_, _]) (l₂ := [_, _, _]) |>.append_right ds)
    have R : StrR CS B st b0 z ss := ⟨⟨dxs, Dm, Dn, nn, tail, lap, s1, s2, s3, s4, s5, s6⟩⟩
    refine ⟨_, rfl, x, dx, _, rfl, W2.g2, rfl, _, rfl, _, rfl, _, rfl, _, rfl, st, CS, dxs, _, _, rfl, W2.s _ _ s1, cs, n3, rfl, _, _, rfl, rfl, x, dx, la, wa, st, b0, _, _, z, ss, i, lap, b, s, B, _, rfl, P1, R, rfl, rfl, hil, hlap, hl, hb, hm, fun B3 H3 D vs S3 W3 hv => ?_⟩
    obtain ⟨b1, b2⟩ := hB.all (mR (WM.Ms (zd z) ss) i lap)
    rw [mR_len] at b1 b2
    have L3 := hl.all (mR (WM.Ms (zd z) ss) i lap)
    generalize tkAll (mR (WM.Ms (zd z) ss) i lap) s = r at *
    obtain ⟨ps, s'⟩ := r
    have hB' := hB.mono (Nat.le_add_right N lap)
    refine ⟨_, rfl, _, rfl, x, C, dx, _, _, rfl, W3.g1, c, n1, rfl, _, rfl, l0, la, s.1, s'.1, n, N + lap, t, rfl, SqL.of W3.g5, SqL.of W3.g2, by rw [hl.1]; omega, hn, hB'.1, b1.1, hN, ht, fun H4 p S4 np hp => ?_⟩
    generalize hcs : (w0, iL s.2) :: (l0, iL s.1) :: ds = es at *
    have W4 := W3.adopt S4 np hp
    refine ⟨_, rfl, x, C, dx, _, rfl, W4.g2, c, n1, by show 2 < 1000; decide, ?_⟩
    generalize e5 : upd _ x _ = H5
    have W6 := W4.set2 e5
    subst hcs
    refine ⟨_, rfl, _, rfl, x, C, dx, _, _, rfl, W6.g2, c, n2, rfl, _, rfl, w0, wa, s.2, s'.2, n, N + lap, t, rfl, SqL.of W6.g5, SqL.of W6.g4, by rw [hl.2]; omega, hn, bnd_w hB', bnd_w b1, hN, ht, fun H7 p2 S7 np2 hp2 => ?_⟩
    have W7 := W6.adopt S7 np2 hp2
    refine ⟨_, rfl, x, C, dx, _, rfl, W7.g3, c, n2, by show 2 < 1000; decide, ?_⟩
    generalize e8 : upd _ x _ = H8
    have W8 := W7.set3 e8
    have W9 : Own B3 ((p2, iL (goneL s.2 s'.2 n)) :: (p, iL (goneL s.1 s'.1 n)) :: (D, .lst vs) :: (x, hdO C dx p p2) :: ds) H8 := W8.sub (.cons₂ _ (.cons₂ _ (.cons₂ _ (.cons₂ _ (.cons _ (.cons _ (.cons _ (.cons _ (List.Sublist.refl _)))))))))
    refine ⟨_, rfl, q B3 H8 D vs p p2 S3 (W9.perm ?_) hv⟩
    exact (List.reverse_perm [(p2, iL (goneL s.2 s'.2 n)), (p, iL (goneL s.1 s'.1 n)), (D, HO.lst vs), (x, hdO C dx p p2)]).symm.trans (((List.Perm.refl _).cons _).trans (List.Perm.swap _ _ _)) |>.append_right ds
end
end Fb
namespace Fb
open PySem PySem.Spec PyProof.Rows L2
section
variable {P : Program} {w : World} {K : PySem.W.Frag} {mg : Str → Option Value} {base : Heap}
/-! ### Course, Rise -/
theorem sc_Course_init : FnScope nm_Course_init ["self", "told", "count", "lap"] (defScope s_Course_init) := ⟨rfl, rfl, rfl, by decide +kernel, rfl, by decide +kernel, by decide +kernel⟩
def spCourseInit (C : Addr) : Sp := fun vs H Q _ => ∃ (x dx : Addr) (t c l : V), vs = [.ref x, t, c, l] ∧ H x = some (.ins C dx []) ∧ Q .non (upd H x (.ins C dx [("told", t), ("count", c), ("lap", l)]))
theorem ok_Course_init {f C : Addr} {fd : FuncData} (F : Fun K "__init__" "Course.__init__" s_Course_init f fd) (c : Cls K C) (n1 : NoAttr K C "told") (n2 : NoAttr K C "count") (n3 : NoAttr K C "lap") :
    FnOk P w K mg base CX0 1 f fd ["self", "told", "count", "lap"] (spCourseInit C) := by
  refine F.ok sc_Course_init (fun vs H Q E h => ?_) (fun cdv A outer s H vs Q E hr h => ?_)
  · obtain ⟨x, dx, t, cc, l, rfl, _⟩ := h
    rfl
  · obtain ⟨x, dx, t, cc, l, rfl, hx, q⟩ := h
    refine ⟨_, (pss_cons (ps_fld (pv 0) (pv 1) rfl)
      (pss_cons (ps_fld (pv 0) (pv 2) rfl)
      (pss_one (ps_fld (pv 0) (pv 3) rfl)))), ?_⟩
    refine ⟨_, rfl, _, rfl, x, C, dx, _, rfl, hx, c, n1, by show 0 < 1000; decide, ?_⟩
    refine ⟨_, rfl, _, rfl, x, C, dx, _, rfl, upd_same, c, n2, by show 1 < 1000; decide, ?_⟩
    rw [upd_upd]
    refine ⟨_, rfl, _, rfl, x, C, dx, _, rfl, upd_same, c, n3, by show 2 < 1000; decide, ?_⟩
    rw [upd_upd]
    exact q
theorem sc_Rise_init : FnScope nm_Rise_init ["self", "begin", "levels", "weights"] (defScope s_Rise_init) := ⟨rfl, rfl, rfl, by decide +kernel, rfl, by decide +kernel, by decide +kernel⟩
def spRiseInit (C : Addr) : Sp := fun vs H Q _ => ∃ (x dx : Addr) (t c l : V), vs = [.ref x, t, c, l] ∧ H x = some (.ins C dx []) ∧ Q .non (upd H x (.ins C dx [("begin", t), ("levels", c), ("weights", l)]))
theorem ok_Rise_init {f C : Addr} {fd : FuncData} (F : Fun K "__init__" "Rise.__init__" s_Rise_init f fd) (c : Cls K C) (n1 : NoAttr K C "begin") (n2 : NoAttr K C "levels") (n3 : NoAttr K C "weights") :
    FnOk P w K mg base CX0 1 f fd ["self", "begin", "levels", "weights"] (spRiseInit C) := by
  refine F.ok sc_Rise_init (fun vs H Q E h => ?_) (fun cdv A outer s H vs Q E hr h => ?_)
  · obtain ⟨x, dx, t, cc, l, rfl, _⟩ := h
    rfl
  · obtain ⟨x, dx, t, cc, l, rfl, hx, q⟩ := h
    refine ⟨_, (pss_cons (ps_fld (pv 0) (pv 1) rfl)
      (pss_cons (ps_fld (pv 0) (pv 2) rfl)
      (pss_one (ps_fld (pv 0) (pv 3) rfl)))), ?_⟩
    refine ⟨_, rfl, _, rfl, x, C, dx, _, rfl, hx, c, n1, by show 0 < 1000; decide, ?_⟩
    refine ⟨_, rfl, _, rfl, x, C, dx, _, rfl, upd_same, c, n2, by show 1 < 1000; decide, ?_⟩
    rw [upd_upd]
    refine ⟨_, rfl, _, rfl, x, C, dx, _, rfl, upd_same, c, n3, by show 2 < 1000; decide, ?_⟩
    rw [upd_upd]
    exact q
structure CourseR (C : Addr) (H : Hp) (a : Addr) (ls : List Int) (c lap : Int) : Prop where
  ex : ∃ (dx l : Addr), H a = some (.ins C dx [("told", .ref l), ("count", .int c), ("lap", .int lap)]) ∧ H l = some (iL ls)
theorem CourseR.same {C : Addr} {H H' : Hp} {a : Addr} {ls : List Int} {c lap : Int} (h : CourseR C H a ls c lap) (S : Same H H') : CourseR C H' a ls c lap := by
  obtain ⟨dx, l, h1, h2⟩ := h.ex
  exact ⟨⟨dx, l, S _ _ h1, S _ _ h2⟩⟩
structure RiseR (CR CC : Addr) (H : Hp) (r : Addr) (b0 : Int) (ps : List (Int × Int)) (c lap : Int) : Prop where
  ex : ∃ (dx a1 a2 : Addr), H r = some (.ins CR dx [("begin", .int b0), ("levels", .ref a1), ("weights", .ref a2)]) ∧ CourseR CC H a1 (ps.map (·.1)) c lap ∧ CourseR CC H a2 (ps.map (·.2)) c lap
theorem RiseR.same {CR CC : Addr} {H H' : Hp} {r : Addr} {b0 : Int} {ps : List (Int × Int)} {c lap : Int} (h : RiseR CR CC H r b0 ps c lap) (S : Same H H') : RiseR CR CC H' r b0 ps c lap := by
  obtain ⟨dx, a1, a2, h1, h2, h3⟩ := h.ex
  exact ⟨⟨dx, a1, a2, S _ _ h1, h2.same S, h3.same S⟩⟩
/-! ### rise_of -/
theorem sc_rise_of : FnScope nm_rise_of ["begin", "taken", "count", "lap"] (defScope s_rise_of) := ⟨rfl, rfl, rfl, by decide +kernel, rfl, by decide +kernel, by decide +kernel⟩
def spRiseOf (K : PySem.W.Frag) (CR CC : Addr) : Sp := fun vs H Q _ => ∃ (b0 : Int) (D : Addr) (vs0 : List V) (ps : List (Int × Int)) (c lap : Int) (B : Hp) (ds : List Cell), vs = [.int b0, .ref D, .int c, .int lap] ∧ Own B ds H ∧ SqL K B D vs0 ∧ DpAll K B vs0 (ps.map pD) ∧ ps.length ≤ 5000000 ∧
  ∀ Hb H' r, Same B Hb → Own Hb ds H' → RiseR CR CC Hb r b0 ps c lap → Q (.ref r) H'
theorem ok_rise_of {f CR CC : Addr} {fd : FuncData} (F : Fun K "rise_of" "rise_of" s_rise_of f fd) (bt : Bt mg bn)
    (K_Course : DMake P w K mg base CX0 1 "Course" CC ["self", "told", "count", "lap"] (spCourseInit CC)) (K_Rise : DMake P w K mg base CX0 1 "Rise" CR ["self", "begin", "levels", "weights"] (spRiseInit CR)) :
    FnOk P w K mg base CX0 3 f fd ["begin", "taken", "count", "lap"] (spRiseOf K CR CC) := by
  refine F.ok sc_rise_of (fun vs H Q E h => ?_) (fun cdv A outer s H vs Q E hr h => ?_)
  · obtain ⟨b0, D, vs0, ps, c, lap, B, ds, rfl, _⟩ := h
    rfl
  · obtain ⟨b0, D, vs0, ps, c, lap, B, ds, rfl, W, hD, hA, hl, q⟩ := h
    refine ⟨_, (pss_cons (ps_set (i := 4) sc_rise_of.nd rfl (.inl rfl) (pe_makeD K_Course hr (by decide) pass0 (pa_cons (pe_lc (own := [("level", 6), ("_", 7)]) (tt := tYes) (g := (gTup K 2 (gCons (gName 6) (gCons (gName 7) gNil)))) rfl sc_rise_of.nd (pi_list (pv 1)) (blkOk_by (N := nm_rise_of) (sc := defScope s_rise_of) (by decide +kernel)) (fun _ _ _ _ _ => (pg_tup rfl (pgs_cons (pg_name (i := 6) sc_rise_of.nd rfl (.inl rfl)) (pgs_cons (pg_name (i := 7) sc_rise_of.nd rfl (.inl rfl)) pgs_nil)))) (fun _ _ _ _ _ => pts_nil) (fun _ _ _ _ _ => (pv 6))) (pa_cons (pv 2) (pa_cons (pv 3) pa_nil)))))
      (pss_cons (ps_set (i := 5) sc_rise_of.nd rfl (.inl rfl) (pe_makeD K_Course hr (by decide) pass0 (pa_cons (pe_lc (own := [("_", 7), ("weight", 8)]) (tt := tYes) (g := (gTup K 2 (gCons (gName 7) (gCons (gName 8) gNil)))) rfl sc_rise_of.nd (pi_list (pv 1)) (blkOk_by (N := nm_rise_of) (sc := defScope s_rise_of) (by decide +kernel)) (fun _ _ _ _ _ => (pg_tup rfl (pgs_cons (pg_name (i := 7) sc_rise_of.nd rfl (.inl rfl)) (pgs_cons (pg_name (i := 8) sc_rise_of.nd rfl (.inl rfl)) pgs_nil)))) (fun _ _ _ _ _ => pts_nil) (fun _ _ _ _ _ => (pv 8))) (pa_cons (pv 2) (pa_cons (pv 3) pa_nil)))))
      (pss_one (ps_ret (pe_makeD K_Rise hr (by decide) pass0 (pa_cons (pv 0) (pa_cons (pv 4) (pa_cons (pv 5) pa_nil)))))))), ?_⟩
    have lv := dpAll_len hA
    rw [List.length_map] at lv
    refine ⟨_, rfl, D, rfl, ⟨_, W.s.seq hD⟩, fun L1 nL1 => ?_⟩
    refine lc_list (xs := vs0) (fun t H' => Own B ((L1, iL ((ps.map (·.1)).take t)) :: ds) H') (W.new nL1 rfl) (fun t H' _ W' => W'.s.seq hD) ?_ ?_
    · rintro t y H' hy W'
      obtain ⟨p, a, hp, rfl, hs⟩ := pD_get hA hy
      refine ⟨a, _, rfl, sqt_same W'.s hs, rfl, _, _, rfl, _, _, rfl, rfl, rfl, ?_⟩
      refine ⟨_, rfl, _, W'.g0, ?_, ?_⟩
      · rw [List.length_map, List.length_take, List.length_map]
        exact big (by omega)
      · generalize e : upd _ L1 _ = H5
        rw [take_snoc (show (ps.map (·.1))[t]? = some p.1 by rw [List.getElem?_map, hp]; rfl)]
        unfold iL
        rw [List.map_append]
        exact W'.set0 e
    rintro H1 W1
    rw [List.take_of_length_le (by rw [List.length_map]; omega)] at W1
    refine ⟨_, rfl, _, rfl, fun x1 dx1 nx ndx ne => ⟨x1, dx1, _, _, _, rfl, upd_same, rfl, ?_⟩⟩
    rw [upd_upd]
    generalize e2 : upd _ x1 _ = H2
    have W2 := W1.ins nx ndx ne e2
    obtain ⟨B2, S2, k1, k2, W3⟩ := W2.fix2
    -- the second one
    refine ⟨_, rfl, D, rfl, ⟨_, (S2.trans W3.s).seq hD⟩, fun L2 nL2 => ?_⟩
    refine lc_list (xs := vs0) (fun t H' => Own B2 ((L2, iL ((ps.map (·.2)).take t)) :: ds) H') (W3.new nL2 rfl) (fun t H' _ W' => (S2.trans W'.s).seq hD) ?_ ?_
    · rintro t y H' hy W'
      obtain ⟨p, a, hp, rfl, hs⟩ := pD_get hA hy
      refine ⟨a, _, rfl, sqt_same (S2.trans W'.s) hs, rfl, _, _, rfl, _, _, rfl, rfl, rfl, ?_⟩
      refine ⟨_, rfl, _, W'.g0, ?_, ?_⟩
      · rw [List.length_map, List.length_take, List.length_map]
        exact big (by omega)
      · generalize e : upd _ L2 _ = H5
        rw [take_snoc (show (ps.map (·.2))[t]? = some p.2 by rw [List.getElem?_map, hp]; rfl)]
        unfold iL
        rw [List.map_append]
        exact W'.set0 e
    rintro H4 W4
    rw [List.take_of_length_le (by rw [List.length_map]; omega)] at W4
    refine ⟨_, rfl, _, rfl, fun x2 dx2 nx2 ndx2 ne2 => ⟨x2, dx2, _, _, _, rfl, upd_same, rfl, ?_⟩⟩
    rw [upd_upd]
    generalize e5 : upd _ x2 _ = H5
    have W5 := W4.ins nx2 ndx2 ne2 e5
    obtain ⟨B5, S5, k3, k4, W6⟩ := W5.fix2
    refine ⟨_, rfl, _, rfl, _, rfl, fun r dr nr ndr ner => ⟨r, dr, _, _, _, rfl, upd_same, rfl, ?_⟩⟩
    rw [upd_upd]
    generalize e7 : upd _ r _ = H7
    have W7 := W6.ins nr ndr ner e7
    obtain ⟨B7, S7, k5, W8⟩ := W7.fix
    exact q B7 H7 r (S2.trans (S5.trans S7)) W8 ⟨⟨dr, x1, x2, k5, ⟨⟨dx1, L1, S7 _ _ (S5 _ _ k1), S7 _ _ (S5 _ _ k2)⟩⟩, ⟨⟨dx2, L2, S7 _ _ k3, S7 _ _ k4⟩⟩⟩⟩
/-! ### risen -/
theorem sc_risen : FnScope nm_risen ["stretch", "handed"] (defScope s_risen) := ⟨rfl, rfl, rfl, by decide +kernel, rfl, by decide +kernel, by decide +kernel⟩
/-- how a stretch is told, and what it makes -/
def RiseOk (z : Zn) (ss : List Nat) (n tail lap : Nat) : Prop := n ≤ 5800 ∧ Told (zd z) ss z.c.toNat n tail ∧ LapOk z.o n tail lap
def spRisen (K : PySem.W.Frag) (CH CS CR CC : Addr) : Sp := fun vs H Q _ => ∃ (st x dx la wa : Addr) (b0 : Int) (z : Zn) (ss : List Nat) (b t : Nat) (s : GS) (B : Hp) (ds : List Cell), vs = [.ref st, .ref x] ∧ Own B (hdCells CH x dx la wa s ds) H ∧ StrR CS B st b0 z ss ∧ 1 ≤ z.c ∧ z.c ≤ 1000000000000000000000000000000 ∧ (∀ o ∈ z.o, 1 ≤ o ∧ o ≤ 16) ∧
  Len b s ∧ b ≤ 6 ∧ (∀ j a, 16 + b ≤ a → (WM.Ms (zd z) ss j).testBit a = false) ∧ Bnd (expN t) s ∧ t ≤ 2999 ∧
  ∀ Hb H' r la' wa' n tail lap, Same B Hb → RiseOk z ss n tail lap → Own Hb (hdCells CH x dx la' wa' (riseF (WM.Ms (zd z) ss) z.c.toNat tail lap s).2.1 ds) H' →
    RiseR CR CC Hb r b0 (riseF (WM.Ms (zd z) ss) z.c.toNat tail lap s).1 z.c (riseF (WM.Ms (zd z) ss) z.c.toNat tail lap s).2.2 →
    Len b (riseF (WM.Ms (zd z) ss) z.c.toNat tail lap s).2.1 → Bnd (expN (t + 1)) (riseF (WM.Ms (zd z) ss) z.c.toNat tail lap s).2.1 → Q (.ref r) H'
theorem lap_bounds {z : Zn} {n tail lap : Nat} (h : LapOk z.o n tail lap) (hn : n ≤ 5800) (ho : ∀ o ∈ z.o, 1 ≤ o ∧ o ≤ 16) : 1 ≤ lap ∧ lap ≤ 92800 := by
  rcases h with ⟨_, rfl⟩ | ⟨h1, rfl⟩
  · omega
  · exact ⟨lapF_pos _ (by omega), lapF_le ho (by omega)⟩
theorem ok_risen {f CH CS CR CC : Addr} {fd : FuncData} (F : Fun K "risen" "risen" s_risen f fd) (bt : Bt mg bn) (g_MOST_OFFSET : GInt mg "MOST_OFFSET" 16) (cs : Cls K CS) (n1 : NoAttr K CS "begin") (n2 : NoAttr K CS "end") (n3 : NoAttr K CS "tail") (n4 : NoAttr K CS "lap")
    (M_take_all : DMeth P w K mg base CX0 4 CH "take_all" ["self", "stretch", "begin", "end"] (spTakeAll (K := K) CH CS)) (M_take_laps : DMeth P w K mg base CX0 5 CH "take_laps" ["self", "stretch", "begin", "laps"] (spTakeLaps K CH CS))
    (D_rise_of : Def P w K mg base CX0 3 "rise_of" ["begin", "taken", "count", "lap"] (spRiseOf K CR CC)) :
    FnOk P w K mg base CX0 6 f fd ["stretch", "handed"] (spRisen K CH CS CR CC) := by
  refine F.ok sc_risen (fun vs H Q E h => ?_) (fun cdv A outer s H vs Q E hr h => ?_)
  · obtain ⟨st, x, dx, la, wa, b0, z, ss, b, t, s, B, ds, rfl, _⟩ := h
    rfl
  · obtain ⟨st, x, dx, la, wa, b0, z, ss, b, t, s, B, ds, rfl, W, hst, hc1, hc30, ho, hl, hb, hm, hB, ht, q⟩ := h
    refine ⟨_, (pss_cons (ps_set (i := 2) sc_risen.nd rfl (.inl rfl) (pe_op op_sub (pe_fld (pv 0) rfl) (pe_fld (pv 0) rfl)))
      (pss_cons (ps_set (i := 3) sc_risen.nd rfl (.inl rfl) (pe_op op_add (pe_op op_add (pe_fld (pv 0) rfl) (pe_fld (pv 0) rfl)) (pe_globI (n := (16)) g_MOST_OFFSET)))
      (pss_cons (ps_set (i := 4) sc_risen.nd rfl (.inl rfl) (pe_op op_add (pv 3) (pe_fld (pv 0) rfl)))
      (pss_cons (ps_asg (pe_callB call_divmod (by rfl) (bt "divmod" (by decide)) PyProof.Rows.boot_divmod (pa_cons (pe_op op_sub (pe_op op_sub (pe_fld (pv 0) rfl) (pv 4)) (pe_fld (pv 0) rfl)) (pa_cons (pe_fld (pv 0) rfl) pa_nil))) (pg_tup rfl (pgs_cons (pg_name (i := 5) sc_risen.nd rfl (.inl rfl)) (pgs_cons (pg_name (i := 6) sc_risen.nd rfl (.inl rfl)) pgs_nil))))
      (pss_cons (ps_if (pt_cmpR op_lt (pv 5) pe_int (nomark _))
        (pss_one (ps_ret (pe_callD D_rise_of hr (by decide) pass0 (pa_cons (pe_fld (pv 0) rfl) (pa_cons (pe_methD M_take_all hr (by decide) pass0 (pv 1) (pa_cons (pv 0) (pa_cons (pe_fld (pv 0) rfl) (pa_cons (pe_fld (pv 0) rfl) pa_nil)))) (pa_cons (pv 2) (pa_cons pe_int pa_nil)))))))
        pss_nil)
      (pss_cons (ps_set (i := 7) sc_risen.nd rfl (.inl rfl) (pe_methD M_take_all hr (by decide) pass0 (pv 1) (pa_cons (pv 0) (pa_cons (pe_fld (pv 0) rfl) (pa_cons (pv 4) pa_nil)))))
      (pss_cons (ps_expr (pe_bm PySem.F.plainAttrs_list PySem.F.slot_list_extend PySem.F.type_list_extend mt_extend (pv 7) (pa_cons (pe_methD M_take_laps hr (by decide) pass0 (pv 1) (pa_cons (pv 0) (pa_cons (pv 4) (pa_cons (pv 5) pa_nil)))) pa_nil)))
      (pss_cons (ps_expr (pe_methD M_take_all hr (by decide) pass0 (pv 1) (pa_cons (pv 0) (pa_cons (pe_op op_sub (pe_fld (pv 0) rfl) (pv 6)) (pa_cons (pe_fld (pv 0) rfl) pa_nil)))))
      (pss_one (ps_ret (pe_callD D_rise_of hr (by decide) pass0 (pa_cons (pe_fld (pv 0) rfl) (pa_cons (pv 7) (pa_cons (pv 2) (pa_cons (pe_fld (pv 0) rfl) pa_nil))))))))))))))), ?_⟩
    obtain ⟨dxs, Dm, Dn, n, tail, lap, s1, s2, s3, s4, s5, s6⟩ := hst.ex
    obtain ⟨lap1, lap2⟩ := lap_bounds s6 s4 ho
    have hRO : RiseOk z ss n tail lap := ⟨s4, s5, s6⟩
    have s1' := W.s _ _ s1
    obtain ⟨c, hcc⟩ : ∃ c : Nat, z.c = (c : Int) := ⟨z.c.toNat, by omega⟩
    have hct : z.c.toNat = c := by omega
    have htn : tail ≤ n := by rcases s6 with ⟨e, _⟩ | ⟨e, _⟩ <;> omega
    have hE := expN_big t
    have hE1 := expN_succ t
    have q' := fun Hb H' r la' wa' => q Hb H' r la' wa' n tail lap
    rw [hct, hcc] at q'
    refine ⟨_, rfl, st, CS, dxs, _, _, rfl, s1', cs, n2, rfl, _, rfl, st, CS, dxs, _, _, rfl, s1', cs, n1, rfl, _, _, rfl, rfl, ?_⟩
    refine ⟨_, rfl, st, CS, dxs, _, _, rfl, s1', cs, n1, rfl, _, rfl, st, CS, dxs, _, _, rfl, s1', cs, n3, rfl, _, _, rfl, rfl, _, _, rfl, rfl, ?_⟩
    refine ⟨_, rfl, _, rfl, st, CS, dxs, _, _, rfl, s1', cs, n4, rfl, _, _, rfl, rfl, ?_⟩
    refine ⟨_, rfl, st, CS, dxs, _, _, rfl, s1', cs, n2, rfl, _, rfl, _, _, rfl, rfl, _, rfl, st, CS, dxs, _, _, rfl, s1', cs, n4, rfl, _, _, rfl, rfl, _, rfl, st, CS, dxs, _, _, rfl, s1', cs, n4, rfl, _, _, rfl, ⟨by omega, by omega⟩, fun p np => ?_⟩
    generalize eP : upd _ p _ = HP
    have WP := W.new np eP
    have el : (b0 + z.c - (b0 + (tail : Int) + 16 + (lap : Int)) - (lap : Int)) / (lap : Int) = lapsZ c tail lap := by
      unfold lapsZ
      rw [show b0 + z.c - (b0 + (tail : Int) + 16 + (lap : Int)) - (lap : Int) = (c : Int) - tail - 16 - lap - lap by omega]
    have er : (b0 + z.c - (b0 + (tail : Int) + 16 + (lap : Int)) - (lap : Int)) % (lap : Int) = ((restN c tail lap : Nat) : Int) := by
      unfold restN
      rw [Int.toNat_of_nonneg (Int.emod_nonneg _ (by omega)), show b0 + z.c - (b0 + (tail : Int) + 16 + (lap : Int)) - (lap : Int) = (c : Int) - tail - 16 - lap - lap by omega]
    rw [el, er] at WP
    refine ⟨p, _, rfl, .inl (.inl WP.g0), rfl, _, _, rfl, _, _, rfl, rfl, ?_⟩
    have W1 := WP.tl
    have s11 := W1.s _ _ s1
    have R : StrR CS B st b0 z ss := hst
    refine ⟨_, rfl, _, _, rfl, rfl, _, rfl, ite2 (fun hneg => ?_) (fun hpos => ?_)⟩
    · have hneg := of_decide_eq_true hneg
      have hsmall : c < tail + 16 + lap + lap := by
        unfold lapsZ at hneg
        have := Int.ediv_nonneg (a := (c : Int) - tail - 16 - lap - lap) (b := (lap : Int))
        by_cases hz : (0 : Int) ≤ (c : Int) - tail - 16 - lap - lap
        · have := this hz (by omega)
          omega
        · omega
      have eF : riseF (WM.Ms (zd z) ss) c tail lap s = ((tkAll (mR (WM.Ms (zd z) ss) 0 c) s).1, (tkAll (mR (WM.Ms (zd z) ss) 0 c) s).2, 0) := by
        unfold riseF
        exact if_pos hneg
      refine ⟨_, rfl, st, CS, dxs, _, _, rfl, s11, cs, n1, rfl, _, rfl, x, dx, _, rfl, W1.g0, rfl, _, rfl, _, rfl, st, CS, dxs, _, _, rfl, s11, cs, n1, rfl, _, rfl, st, CS, dxs, _, _, rfl, s11, cs, n2, rfl, x, dx, la, wa, st, b0, _, _, z, ss, 0, c, b, s, B, ds, rfl, W1, R, ?_, ?_, by omega, by omega, hl, hb, hm, fun B3 H3 D vs S3 W3 hv => ?_⟩
      · show b0 = b0 + ((0 : Nat) : Int)
        omega
      · show b0 + z.c = b0 + ((0 : Nat) : Int) + (c : Int)
        omega
      obtain ⟨B4, S4, k4, W4⟩ := W3.fix
      obtain ⟨b1, b2⟩ := hB.all (mR (WM.Ms (zd z) ss) 0 c)
      rw [mR_len] at b1
      have lps := tkAll_len (mR (WM.Ms (zd z) ss) 0 c) s
      rw [mR_len] at lps
      refine ⟨_, rfl, b0, D, vs, (tkAll (mR (WM.Ms (zd z) ss) 0 c) s).1, _, 0, B4, _, rfl, W4, SqL.of k4, dpAll_same S4 _ hv, by omega, fun B5 H5 r S5 W5 hr5 => ?_⟩
      have e1 : (0 : Int) = ((0 : Nat) : Int) := rfl
      refine q' B5 H5 r la wa (S3.trans (S4.trans S5)) hRO (by rw [eF]; exact W5) ?_ ?_ ?_
      · rw [eF]
        rw [show b0 + z.c - b0 = (c : Int) by omega] at hr5
        exact hr5
      · rw [eF]
        exact hl.all _
      · rw [eF]
        exact b1.mono (by omega)
    · have hpos := of_decide_eq_false (Bool.eq_false_iff.mpr hpos)
      have hlarge : tail + 16 + lap + lap ≤ c := by
        unfold lapsZ at hpos
        have := Int.ediv_neg_of_neg_of_pos (a := (c : Int) - tail - 16 - lap - lap) (b := (lap : Int))
        by_cases hz : (0 : Int) ≤ (c : Int) - tail - 16 - lap - lap
        · omega
        · have := this (by omega) (by omega)
          omega
      have hrest : restN c tail lap < lap := by
        unfold restN
        have := Int.emod_lt_of_pos ((c : Int) - tail - 16 - lap - lap) (show (0 : Int) < lap by omega)
        omega
      have hlaps : (lapsZ c tail lap).natAbs ≤ 1000000000000000000000000000000 := by
        unfold lapsZ
        have h1 := Int.ediv_le_self (lap : Int) (show (0 : Int) ≤ (c : Int) - tail - 16 - lap - lap by omega)
        have h2 := Int.ediv_nonneg (show (0 : Int) ≤ (c : Int) - tail - 16 - lap - lap by omega) (show (0 : Int) ≤ (lap : Int) by omega)
        omega
      have eF : riseF (WM.Ms (zd z) ss) c tail lap s = ((tkAll (mR (WM.Ms (zd z) ss) 0 (tail + 16 + lap)) s).1 ++ (tkAll (mR (WM.Ms (zd z) ss) (tail + 16 + lap) lap) (tkAll (mR (WM.Ms (zd z) ss) 0 (tail + 16 + lap)) s).2).1,
          (tkAll (mR (WM.Ms (zd z) ss) (c - restN c tail lap) (restN c tail lap)) (gonS (tkAll (mR (WM.Ms (zd z) ss) 0 (tail + 16 + lap)) s).2 (tkAll (mR (WM.Ms (zd z) ss) (tail + 16 + lap) lap) (tkAll (mR (WM.Ms (zd z) ss) 0 (tail + 16 + lap)) s).2).2 (lapsZ c tail lap))).2, lap) := by
        unfold riseF
        exact if_neg (by omega)
      rw [eF] at q'
      -- taken = handed.take_all(stretch, stretch.begin, last)
      refine ⟨_, rfl, x, dx, _, rfl, W1.g0, rfl, _, rfl, _, rfl, st, CS, dxs, _, _, rfl, s11, cs, n1, rfl, _, rfl, x, dx, la, wa, st, b0, _, _, z, ss, 0, tail + 16 + lap, b, s, B, ds, rfl, W1, R, ?_, ?_, by omega, by omega, hl, hb, hm, fun B3 H3 D vs S3 W3 hv => ?_⟩
      · show b0 = b0 + ((0 : Nat) : Int)
        omega
      · show b0 + (tail : Int) + 16 + (lap : Int) = b0 + ((0 : Nat) : Int) + ((tail + 16 + lap : Nat) : Int)
        omega
      obtain ⟨b1, b2⟩ := hB.all (mR (WM.Ms (zd z) ss) 0 (tail + 16 + lap))
      have L3 := hl.all (mR (WM.Ms (zd z) ss) 0 (tail + 16 + lap))
      have lps := tkAll_len (mR (WM.Ms (zd z) ss) 0 (tail + 16 + lap)) s
      rw [mR_len] at b1 lps
      generalize hA : tkAll (mR (WM.Ms (zd z) ss) 0 (tail + 16 + lap)) s = A at *
      obtain ⟨psA, sA⟩ := A
      have s13 := S3 _ _ s1
      -- taken.extend(handed.take_laps(stretch, last, laps))
      have P3 : Own B3 (hdCells CH x dx la wa sA ((D, .lst vs) :: ds)) H3 := W3.perm (List.perm_middle (a := ((D, .lst vs) : Cell)) (l₁ := [_, _, _]) (l₂ := ds)).symm
      refine ⟨_, rfl, .inl ⟨rfl, _, SqL.of W3.g0⟩, _, rfl, x, dx, _, rfl, W3.g1, rfl, _, rfl, _, rfl, _, rfl, x, dx, la, wa, st, b0, _, lapsZ c tail lap, z, ss, tail + 16 + lap, n, tail, lap, b, t, dxs, Dm, Dn, sA, expN t + (tail + 16 + lap), B3, _, rfl, P3, s13, S3 _ _ s2, S3 _ _ s3, s4, s5, s6, ?_, by omega, by omega, hlaps, L3, hb, hm, b1, by omega, by omega, fun B4 H4 D2 vs2 la2 wa2 S4 W4 hv2 => ?_⟩
      · show b0 + (tail : Int) + 16 + (lap : Int) = b0 + ((tail + 16 + lap : Nat) : Int)
        omega
      obtain ⟨b3, b4⟩ := b1.all (mR (WM.Ms (zd z) ss) (tail + 16 + lap) lap)
      have L4 := L3.all (mR (WM.Ms (zd z) ss) (tail + 16 + lap) lap)
      have lps2 := tkAll_len (mR (WM.Ms (zd z) ss) (tail + 16 + lap) lap) sA
      rw [mR_len] at b3 lps2
      generalize hBB : tkAll (mR (WM.Ms (zd z) ss) (tail + 16 + lap) lap) sA = BB at *
      obtain ⟨psB, sB⟩ := BB
      have lvA := dpAll_len hv
      have lvB := dpAll_len hv2
      rw [List.length_map] at lvA lvB
      have W4' : Own B4 ((D2, .lst vs2) :: (D, .lst vs) :: hdCells CH x dx la2 wa2 (gonS sA sB (lapsZ c tail lap)) ds) H4 := W4.perm ((List.perm_middle (a := ((D, .lst vs) : Cell)) (l₁ := [_, _, _]) (l₂ := ds)).cons _)
      refine ⟨D, D2, _, _, rfl, rfl, W4'.g1, W4'.g0, ?_, ?_⟩
      · rw [lvA, lvB, lps, lps2]
        have := big (n := tail + 16 + lap + lap) (by omega)
        omega
      generalize e5 : upd _ D _ = H5
      have W5 := (W4'.set1 e5).tl
      obtain ⟨B5, S5, k5, W6⟩ := W5.fix
      -- handed.take_all(stretch, stretch.end - rest, stretch.end)
      have Lg : Len b (gonS sA sB (lapsZ c tail lap)) := L3.gone L4 _
      have Bg : Bnd ((expN t + (tail + 16 + lap) + lap) + (lapsZ c tail lap).natAbs * ((expN t + (tail + 16 + lap) + lap) + (expN t + (tail + 16 + lap) + lap))) (gonS sA sB (lapsZ c tail lap)) := (b1.mono (by omega)).gone b3 _
      have S35 := S3.trans (S4.trans S5)
      have s15 := (S35.trans W6.s) _ _ s1
      refine ⟨_, rfl, x, dx, _, rfl, W6.g0, rfl, _, rfl, _, rfl, st, CS, dxs, _, _, rfl, s15, cs, n2, rfl, _, rfl, _, _, rfl, rfl, _, rfl, st, CS, dxs, _, _, rfl, s15, cs, n2, rfl, x, dx, la2, wa2, st, b0, _, _, z, ss, c - restN c tail lap, restN c tail lap, b, _, B5, ds, rfl, W6, hst.same S35, ?_, ?_, by omega, by omega, Lg, hb, hm, fun B7 H7 D3 vs3 S7 W7 hv3 => ?_⟩
      · show b0 + z.c - (restN c tail lap : Int) = b0 + ((c - restN c tail lap : Nat) : Int)
        omega
      · show b0 + z.c = b0 + ((c - restN c tail lap : Nat) : Int) + (restN c tail lap : Int)
        omega
      have W8 := W7.tl
      have s17 := (S35.trans (S7.trans W8.s)) _ _ s1
      obtain ⟨b5, b6⟩ := Bg.all (mR (WM.Ms (zd z) ss) (c - restN c tail lap) (restN c tail lap))
      rw [mR_len] at b5
      refine ⟨_, rfl, st, CS, dxs, _, _, rfl, s17, cs, n1, rfl, _, rfl, _, rfl, _, rfl, st, CS, dxs, _, _, rfl, s17, cs, n4, rfl, b0, D, vs ++ vs2, psA ++ psB, _, _, B7, _, rfl, W8, SqL.of (S7 _ _ k5), ?_, by rw [List.length_append, lps, lps2]; omega, fun B9 H9 r S9 W9 hr9 => ?_⟩
      · rw [List.map_append]
        exact dpAll_append (dpAll_same (S4.trans (S5.trans S7)) _ hv) (dpAll_same (S5.trans S7) _ hv2)
      · rw [show b0 + z.c - b0 = (c : Int) by omega] at hr9
        refine q' B9 H9 r la2 wa2 (S35.trans (S7.trans S9)) hRO W9 hr9 (Lg.all _) (b5.mono ?_)
        rw [hE1]
        have h1 := Nat.mul_le_mul_right (expN t + (tail + 16 + lap) + lap + (expN t + (tail + 16 + lap) + lap)) hlaps
        omega
end
end Fb
namespace Fb
open PySem PySem.Spec PyProof.Rows L2
/-! ### Growth -/
def gs0 (b : Nat) : GS := (List.replicate (16 + b) 0, List.replicate (16 + b) 0)
theorem gs0_len (b : Nat) : Len b (gs0 b) := ⟨List.length_replicate, List.length_replicate⟩
theorem absS_rep (n : Nat) : absS (List.replicate n 0) = 0 := by
  induction n with
  | zero => rfl
  | succ n ih =>
    rw [List.replicate_succ]
    show 0 + absS (List.replicate n 0) = 0
    omega
theorem gs0_bnd (b t : Nat) : Bnd (expN t) (gs0 b) := by
  have := expN_big t
  refine ⟨fun v hv => ?_, ?_⟩
  · have := List.eq_of_mem_replicate hv
    rw [this]
    exact Nat.zero_le _
  · show absS (List.replicate (16 + b) 0) ≤ _
    rw [absS_rep]
    exact Nat.zero_le _
/-- the rises of zones, one behind the other -/
inductive RisAll (CR CC : Addr) (H : Hp) : Int → List Nat → GS → List Zn → List Addr → GS → Prop where
  | nil {b : Int} {ss : List Nat} {s : GS} : RisAll CR CC H b ss s [] [] s
  | cons {b : Int} {ss : List Nat} {s s' : GS} {z : Zn} {zs : List Zn} {a : Addr} {as : List Addr} {n tail lap : Nat} (ok : RiseOk z ss n tail lap)
      (h : RiseR CR CC H a b (riseF (WM.Ms (zd z) ss) z.c.toNat tail lap s).1 z.c (riseF (WM.Ms (zd z) ss) z.c.toNat tail lap s).2.2)
      (t : RisAll CR CC H (b + z.c) (WM.St (zd z) ss z.c.toNat) (riseF (WM.Ms (zd z) ss) z.c.toNat tail lap s).2.1 zs as s') : RisAll CR CC H b ss s (z :: zs) (a :: as) s'
theorem RisAll.same {CR CC : Addr} {H H' : Hp} (S : Same H H') {b : Int} {ss : List Nat} {s s' : GS} {zs : List Zn} {as : List Addr} (h : RisAll CR CC H b ss s zs as s') : RisAll CR CC H' b ss s zs as s' := by
  induction h with
  | nil => exact .nil
  | cons ok h _ ih => exact .cons ok (h.same S) ih
theorem RisAll.leng {CR CC : Addr} {H : Hp} {b : Int} {ss : List Nat} {s s' : GS} {zs : List Zn} {as : List Addr} (h : RisAll CR CC H b ss s zs as s') : as.length = zs.length := by
  induction h with
  | nil => rfl
  | cons ok h _ ih => rw [List.length_cons, List.length_cons, ih]
theorem RisAll.snoc {CR CC : Addr} {H : Hp} {b : Int} {ss : List Nat} {s s' : GS} {zs : List Zn} {as : List Addr} (h : RisAll CR CC H b ss s zs as s') : ∀ {z : Zn} {a : Addr} {n tail lap : Nat}, RiseOk z (walkP ss zs) n tail lap →
    RiseR CR CC H a (b + len zs) (riseF (WM.Ms (zd z) (walkP ss zs)) z.c.toNat tail lap s').1 z.c (riseF (WM.Ms (zd z) (walkP ss zs)) z.c.toNat tail lap s').2.2 →
    RisAll CR CC H b ss s (zs ++ [z]) (as ++ [a]) (riseF (WM.Ms (zd z) (walkP ss zs)) z.c.toNat tail lap s').2.1 := by
  induction h with
  | nil =>
    intro z a n tail lap ok hr
    have e : len ([] : List Zn) = 0 := rfl
    rw [e, Int.add_zero] at hr
    exact .cons ok hr .nil
  | cons ok h t ih =>
    intro z a n tail lap ok' hr
    rw [len_cons, ← Int.add_assoc] at hr
    exact .cons ok h (ih ok' hr)
/-- how the border unknowns go on -/
def tkBs : Nat → List Nat → GS → List (Int × Int) × GS
  | _, [], s => ([], s)
  | k, m :: ms, s => ((tkB k m s).1 :: (tkBs (k + 1) ms (tkB k m s).2).1, (tkBs (k + 1) ms (tkB k m s).2).2)
theorem tkBs_snoc : ∀ (ms : List Nat) (k m : Nat) (s : GS), tkBs k (ms ++ [m]) s = ((tkBs k ms s).1 ++ [(tkB (k + ms.length) m (tkBs k ms s).2).1], (tkB (k + ms.length) m (tkBs k ms s).2).2)
  | [], _, _, _ => rfl
  | x :: ms, k, m, s => by
    show (((tkB k x s).1 :: (tkBs (k + 1) (ms ++ [m]) (tkB k x s).2).1, (tkBs (k + 1) (ms ++ [m]) (tkB k x s).2).2) : List (Int × Int) × GS) = _
    rw [tkBs_snoc ms (k + 1) m, show k + 1 + ms.length = k + (x :: ms).length by rw [List.length_cons]; omega]
    rfl
theorem tkBs_len : ∀ (ms : List Nat) (k : Nat) (s : GS), (tkBs k ms s).1.length = ms.length
  | [], _, _ => rfl
  | _ :: ms, k, s => by
    show ((tkB k _ s).1 :: (tkBs (k + 1) ms (tkB k _ s).2).1).length = _
    rw [List.length_cons, tkBs_len ms, List.length_cons]
theorem Len.tkB {n : Nat} {s : GS} (h : Len n s) (k m : Nat) : Len n (tkB k m s).2 := ⟨by
  show (hdL m _ _).length = _
  rw [hdL_len, h.1], by
  show (hdW m _ _).length = _
  rw [hdW_len, h.2]⟩
theorem Len.tkBs {n : Nat} : ∀ (ms : List Nat) (k : Nat) {s : GS}, Len n s → Len n (tkBs k ms s).2
  | [], _, _, h => h
  | m :: ms, k, s, h => Len.tkBs ms (k + 1) (h.tkB k m)
structure GrowR (CG CR CC : Addr) (H : Hp) (g : Addr) (b : Nat) (zs : List Zn) : Prop where
  ex : ∃ (dx rl bg lr : Addr) (rs : List Addr) (s' : GS), H g = some (.ins CG dx [("_rises", .ref rl), ("_begins", .ref bg), ("_inner", .int (len zs)), ("_last", .ref lr)]) ∧ H rl = some (.lst (rs.map V.ref)) ∧ RisAll CR CC H 0 ss0 (gs0 b) zs rs s' ∧
    H bg = some (iL (beginsZ 0 (zs.map (·.c)))) ∧ RiseR CR CC H lr (len zs) (tkBs 0 (lastF b zs) s').1 b 0
theorem GrowR.same {CG CR CC : Addr} {H H' : Hp} {g : Addr} {b : Nat} {zs : List Zn} (h : GrowR CG CR CC H g b zs) (S : Same H H') : GrowR CG CR CC H' g b zs := by
  obtain ⟨dx, rl, bg, lr, rs, s', h1, h2, h3, h4, h5⟩ := h.ex
  exact ⟨⟨dx, rl, bg, lr, rs, s', S _ _ h1, S _ _ h2, h3.same S, S _ _ h4, h5.same S⟩⟩
theorem RisAll.get {CR CC : Addr} {H : Hp} {b : Int} {ss : List Nat} {s s' : GS} {zs : List Zn} {as : List Addr} (h : RisAll CR CC H b ss s zs as s') : ∀ {i : Nat} {a : Addr}, as[i]? = some a →
    ∃ z s1 n tail lap, zs[i]? = some z ∧ RisAll CR CC H b ss s (zs.take i) (as.take i) s1 ∧ RiseOk z (walkP ss (zs.take i)) n tail lap ∧ RiseR CR CC H a (b + len (zs.take i)) (riseF (WM.Ms (zd z) (walkP ss (zs.take i))) z.c.toNat tail lap s1).1 z.c (riseF (WM.Ms (zd z) (walkP ss (zs.take i))) z.c.toNat tail lap s1).2.2 := by
  induction h with
  | nil => intro i a e; simp at e
  | @cons b ss s s' z zs a' as n tail lap ok h t ih =>
    intro i a e
    cases i with
    | zero =>
      simp at e
      subst e
      refine ⟨z, s, n, tail, lap, rfl, .nil, ok, ?_⟩
      have e : len ([] : List Zn) = 0 := rfl
      show RiseR CR CC H a' (b + len ([] : List Zn)) _ _ _
      rw [e, Int.add_zero]
      exact h
    | succ i =>
      obtain ⟨z', s1, n', tail', lap', h1, h2, h3, h4⟩ := ih (i := i) (a := a) (by simpa using e)
      refine ⟨z', s1, n', tail', lap', by simpa using h1, .cons ok h h2, h3, ?_⟩
      show RiseR CR CC H a (b + len (z :: zs.take i)) _ _ _
      rw [len_cons, ← Int.add_assoc]
      exact h4
section
variable {P : Program} {w : World} {K : PySem.W.Frag} {mg : Str → Option Value} {base : Heap}
theorem lastF_len (b : Nat) (zs : List Zn) : (lastF b zs).length = b := by
  have key : ∀ (k j : Nat) (ls : List Nat), (lastLoop j k ls).length = ls.length := by
    intro k
    induction k with
    | zero => intro j ls; rfl
    | succ k ih =>
      intro j ls
      show (lastLoop (j + 1) k (borderF ls (ls.getD j 0))).length = _
      rw [ih, borderF_len]
  unfold lastF
  rw [key, foldB_len, List.length_replicate]
theorem lastF_low {b : Nat} {zs : List Zn} (hz : ZOk b zs) : LowL (16 + b) (lastF b zs) := by
  have hb := hz.b
  have key : ∀ (k j : Nat) (ls : List Nat), LowL (16 + b) ls → LowL (16 + b) (lastLoop j k ls) := by
    intro k
    induction k with
    | zero => intro j ls h; exact h
    | succ k ih =>
      intro j ls h
      exact ih (j + 1) _ (h.border (by omega) (h j))
  unfold lastF
  exact key _ _ _ (LowL.fold (by omega) _ (LowL.zero _ _) (walkM_low (by omega) zs ss0 rfl (low0 _) hz.bits))
theorem sc_Growth_init : FnScope nm_Growth_init ["self", "elimination"] (defScope s_Growth_init) := ⟨rfl, rfl, rfl, by decide +kernel, rfl, by decide +kernel, by decide +kernel⟩
def spGrowthInit (K : PySem.W.Frag) (CE CS CG CR CC : Addr) : Sp := fun vs H Q _ => ∃ (x dx e : Addr) (b : Nat) (zs : List Zn) (B : Hp) (ds : List Cell), vs = [.ref x, .ref e] ∧ Own B ((x, .ins CG dx []) :: ds) H ∧ ElimR K CE CS B e b zs ∧ ZOk b zs ∧ zs.length ≤ 2990 ∧ zs ≠ [] ∧ len zs ≤ 1000000000000000000000000000000 ∧
  ∀ Hb H', Same B Hb → Own Hb ds H' → GrowR CG CR CC Hb x b zs → Q .non H'
theorem len_take_le {zs : List Zn} (h : ∀ z ∈ zs, 1 ≤ z.c) {z : Zn} (hz : z ∈ zs) : z.c ≤ len zs := by
  induction zs with
  | nil => cases hz
  | cons y zs ih =>
    rw [len_cons]
    have h0 : 0 ≤ len zs := by
      clear ih hz
      have : ∀ l : List Zn, (∀ z ∈ l, 1 ≤ z.c) → 0 ≤ len l := by
        intro l
        induction l with
        | nil => intro _; exact Int.le_refl _
        | cons y l ih =>
          intro h
          rw [len_cons]
          have := h y (.head _)
          have := ih fun z hz => h z (.tail _ hz)
          omega
      exact this zs fun z hz => h z (.tail _ hz)
    have hy := h y (.head _)
    rcases List.mem_cons.mp hz with e | e
    · rw [e]
      omega
    · have := ih (fun z hz => h z (.tail _ hz)) e
      omega
theorem ok_Growth_init {f CE CS CG CH CR CC : Addr} {fd : FuncData} (F : Fun K "__init__" "Growth.__init__" s_Growth_init f fd) (bt : Bt mg bn) (ce : Cls K CE) (n1 : NoAttr K CE "last_masks") (n2 : NoAttr K CE "stretches") (cs : Cls K CS) (n3 : NoAttr K CS "end")
    (cg : Cls K CG) (g1 : NoAttr K CG "_rises") (g2 : NoAttr K CG "_begins") (g3 : NoAttr K CG "_inner") (g4 : NoAttr K CG "_last") (cr : Cls K CR) (r1 : NoAttr K CR "begin")
    (K_Handed : DMake P w K mg base CX0 1 "Handed" CH ["self", "borders"] (spHandedInit CH)) (D_risen : Def P w K mg base CX0 6 "risen" ["stretch", "handed"] (spRisen K CH CS CR CC))
    (M_take_border : DMeth P w K mg base CX0 3 CH "take_border" ["self", "touch", "mask"] (spTakeB CH)) (D_rise_of : Def P w K mg base CX0 3 "rise_of" ["begin", "taken", "count", "lap"] (spRiseOf K CR CC)) :
    FnOk P w K mg base CX0 7 f fd ["self", "elimination"] (spGrowthInit K CE CS CG CR CC) := by
  refine F.ok sc_Growth_init (fun vs H Q E h => ?_) (fun cdv A outer s H vs Q E hr h => ?_)
  · obtain ⟨x, dx, e, b, zs, B, ds, rfl, _⟩ := h
    rfl
  · obtain ⟨x, dx, e, b, zs, B, ds, rfl, W, hE, hz, hzl, hne, hbig, q⟩ := h
    refine ⟨_, (pss_cons (ps_set (i := 2) sc_Growth_init.nd rfl (.inr rfl) (pe_makeD K_Handed hr (by decide) pass0 (pa_cons (pe_callB call_len_seq (by rfl) (bt "len" (by decide)) PySem.boot_len (pa_cons (pe_fld (pv 1) rfl) pa_nil)) pa_nil)))
      (pss_cons (ps_fld (pv 0) (pe_lc (own := [("stretch", 4)]) (tt := tYes) (g := (gName 4)) rfl sc_Growth_init.nd (pi_list (pe_fld (pv 1) rfl)) (blkOk_by (N := nm_Growth_init) (sc := defScope s_Growth_init) (by decide +kernel)) (fun _ _ _ _ _ => (pg_name (i := 4) sc_Growth_init.nd rfl (.inl rfl))) (fun _ _ _ _ _ => pts_nil) (fun _ _ _ _ _ => (pe_callD D_risen hr (by decide) pass0 (pa_cons (pv 4) (pa_cons (pv 2) pa_nil))))) rfl)
      (pss_cons (ps_fld (pv 0) (pe_lc (own := [("rise", 5)]) (tt := tYes) (te := tFld K (tVar 5) "begin") (g := (gName 5)) rfl sc_Growth_init.nd (pi_list (pe_fld (pv 0) rfl)) (blkOk_by (N := nm_Growth_init) (sc := defScope s_Growth_init) (by decide +kernel)) (fun _ _ _ _ _ => (pg_name (i := 5) sc_Growth_init.nd rfl (.inl rfl))) (fun _ _ _ _ _ => pts_nil) (fun _ _ _ _ _ => (pe_fld (pv 5) rfl))) rfl)
      (pss_cons (ps_fld (pv 0) (pe_fld (pe_ix (r := rIxL K) ix_list (pe_fld (pv 1) rfl) (pe_un un_neg pe_int) (fun _ _ => rfl)) rfl) rfl)
      (pss_cons (ps_setLc (i := 3) (own := [("touch", 6), ("mask", 7)]) (tt := tYes) (g := (gTup K 2 (gCons (gName 6) (gCons (gName 7) gNil)))) rfl sc_Growth_init.nd rfl rfl rfl (pi_enum (by rfl) (bt "enumerate" (by decide)) (pa_cons (pe_fld (pv 1) rfl) pa_nil)) (blkOk_by (N := nm_Growth_init) (sc := defScope s_Growth_init) (by decide +kernel)) (fun _ _ _ _ _ => (pg_tup rfl (pgs_cons (pg_name (i := 6) sc_Growth_init.nd rfl (.inl rfl)) (pgs_cons (pg_name (i := 7) sc_Growth_init.nd rfl (.inl rfl)) pgs_nil)))) (fun _ _ _ _ _ => pts_nil) (fun _ _ _ _ _ => (pe_methD M_take_border hr (by decide) pass0 (pv 2) (pa_cons (pv 6) (pa_cons (pv 7) pa_nil)))))
      (pss_one (ps_fld (pv 0) (pe_callD D_rise_of hr (by decide) pass0 (pa_cons (pe_fld (pv 0) rfl) (pa_cons (pv 3) (pa_cons (pe_callB call_len_seq (by rfl) (bt "len" (by decide)) PySem.boot_len (pa_cons (pv 3) pa_nil)) (pa_cons pe_int pa_nil))))) rfl))))))), ?_⟩
    obtain ⟨dxe, bge, sl, lm, as, e1, e2, e3, e4, e5⟩ := hE.ex
    have hb6 := hz.b
    have las := e4.leng
    refine ⟨_, rfl, e, CE, dxe, _, _, rfl, W.s _ _ e1, ce, n1, rfl, lm, _, rfl, .inl (SqL.of (W.s _ _ e5)), fun h dh nh ndh neh => ?_⟩
    generalize eh : upd (upd _ dh _) h _ = H1
    have W1 := W.ins nh ndh neh eh
    refine ⟨h, dh, b, B, _, ?_, W1, hb6, fun H2 la wa W2 => ⟨rfl, ?_⟩⟩
    · rw [List.length_map, lastF_len]
      rfl
    -- the rises
    have W2' : Own B (hdCells CH h dh la wa (gs0 b) ((x, .ins CG dx []) :: ds)) H2 := W2
    refine ⟨_, rfl, e, CE, dxe, _, _, rfl, W2'.s _ _ e1, ce, n2, rfl, sl, rfl, ⟨_, SqL.of (W2'.s _ _ e3)⟩, fun D nD => ?_⟩
    have pw : ∀ i, WM.Pend (walkP ss0 (zs.take i)) := fun i => walkP_pend _ _ pend0 fun y hy => hz.dir y (List.mem_of_mem_take hy)
    refine lc_list (xs := as.map V.ref) (fun i H' => ∃ (B2 : Hp) (rs : List Addr) (la wa : Addr) (s : GS), Same B B2 ∧ Own B2 ((D, .lst (rs.map V.ref)) :: hdCells CH h dh la wa s ((x, .ins CG dx []) :: ds)) H' ∧ RisAll CR CC B2 0 ss0 (gs0 b) (zs.take i) rs s ∧ Len b s ∧ Bnd (expN i) s)
      ⟨B, [], la, wa, gs0 b, Same.refl _, W2'.new nD rfl, .nil, gs0_len b, gs0_bnd b 0⟩ (fun i H' _ ⟨B2, rs, la, wa, s, S2, W', _⟩ => SqL.of ((S2.trans W'.s) _ _ e3)) ?_ ?_
    · rintro i y H' hy ⟨B2, rs, la, wa, s, S2, W', hall, hl, hB⟩
      obtain ⟨st, hst, rfl⟩ := refs_get hy
      obtain ⟨z, hzi, R⟩ := e4.get hst
      have hzm := List.mem_of_getElem? hzi
      have hi : i < zs.length := by
        rw [List.getElem?_eq_some_iff] at hzi
        exact hzi.1
      have lr := hall.leng
      rw [List.length_take] at lr
      refine ⟨rfl, ?_⟩
      have W3 := W'.perm (List.perm_middle (a := ((D, .lst (rs.map V.ref)) : Cell)) (l₁ := [_, _, _]) (l₂ := (x, .ins CG dx []) :: ds)).symm
      refine ⟨_, rfl, _, rfl, st, h, dh, la, wa, _, z, _, b, i, s, B2, _, rfl, W3, R.same S2, hz.c z hzm, Int.le_trans (len_take_le hz.c hzm) hbig, hz.o z hzm, hl, hb6, fun j a ha => ?_, hB, by omega, fun B3 H3 r la2 wa2 n tail lap S3 ok W4 hr4 hl4 hB4 => ?_⟩
      · exact (walkP_low (B := 16 + b) (by omega) _ _ rfl (low0 _) fun y hy => hz.bits y (List.mem_of_mem_take hy)).Ms (by omega) (pw i).1 (hz.bits z hzm) j a ha
      have W5 := W4.perm (List.perm_middle (a := ((D, .lst (rs.map V.ref)) : Cell)) (l₁ := [_, _, _]) (l₂ := (x, .ins CG dx []) :: ds))
      refine ⟨_, W5.g0, ?_, B3, rs ++ [r], la2, wa2, _, S2.trans S3, ?_, ?_, hl4, hB4⟩
      · rw [List.length_map]
        exact big (by omega)
      · generalize e6 : upd _ D _ = H6
        rw [List.map_append]
        exact W5.set0 e6
      · rw [take_snoc hzi]
        exact (hall.same S3).snoc ok hr4
    rintro H3 ⟨B2, rs, la3, wa3, s3, S2, W3, hall, hl3, hB3⟩
    rw [List.length_map, las, List.take_length] at hall
    have lrs := hall.leng
    refine ⟨_, rfl, x, CG, dx, _, rfl, W3.g4, cg, g1, by show 0 < 1000; decide, ?_⟩
    generalize e6 : upd _ x _ = H4
    have W4 : Own B2 (_ :: _ :: _ :: _ :: (x, .ins CG dx [("_rises", .ref D)]) :: ds) H4 := W3.set4 e6
    obtain ⟨B4, S4, k4, W5⟩ := W4.fix
    -- the begins
    refine ⟨_, rfl, x, CG, dx, _, _, rfl, W5.g3, cg, g1, rfl, D, rfl, ⟨_, SqL.of (W5.s _ _ k4)⟩, fun D2 nD2 => ?_⟩
    refine lc_list (xs := rs.map V.ref) (fun i H' => Own B4 ((D2, iL ((beginsZ 0 (zs.map (·.c))).take i)) :: hdCells CH h dh la3 wa3 s3 ((x, .ins CG dx [("_rises", .ref D)]) :: ds)) H') (W5.new nD2 rfl) (fun i H' _ W' => SqL.of (W'.s _ _ k4)) ?_ ?_
    · rintro i y H' hy W'
      obtain ⟨r, hr', rfl⟩ := refs_get hy
      obtain ⟨z, s1, n, tail, lap, q1, q2, q3, q4⟩ := hall.get hr'
      obtain ⟨dr, a1, a2, q5, _⟩ := q4.ex
      have hi : i < zs.length := by
        rw [List.getElem?_eq_some_iff] at q1
        exact q1.1
      refine ⟨rfl, ?_⟩
      refine ⟨_, rfl, r, CR, dr, _, _, rfl, (S4.trans W'.s) _ _ q5, cr, r1, rfl, _, W'.g0, ?_, ?_⟩
      · rw [List.length_map, List.length_take]
        exact big (by omega)
      · generalize e7 : upd _ D2 _ = H7
        rw [take_snoc (beginsZ_get (zs.map (·.c)) 0 i (by rw [List.length_map]; exact hi))]
        unfold iL
        rw [List.map_append, ← List.map_take]
        exact W'.set0 e7
    rintro H5 W6
    rw [List.take_of_length_le (by rw [beginsZ_len, List.length_map, List.length_map]; omega)] at W6
    refine ⟨_, rfl, x, CG, dx, _, rfl, W6.g4, cg, g2, by show 1 < 1000; decide, ?_⟩
    generalize e7 : upd _ x _ = H6
    have W7 : Own B4 (_ :: _ :: _ :: _ :: (x, .ins CG dx [("_rises", .ref D), ("_begins", .ref D2)]) :: ds) H6 := W6.set4 e7
    obtain ⟨B6, S6, k6, W8⟩ := W7.fix
    -- the end of the last stretch
    have S26 := S2.trans (S4.trans S6)
    obtain ⟨st, hst⟩ : ∃ st, as[as.length - 1]? = some st := by
      cases q : as[as.length - 1]? with
      | some st => exact ⟨st, rfl⟩
      | none =>
        rw [List.getElem?_eq_none_iff] at q
        have : 0 < zs.length := lenpos hne
        omega
    obtain ⟨z, hzi, R⟩ := e4.get hst
    obtain ⟨dxs, Dm, Dn, n, tail, lap, t1, t2⟩ := R.ex
    have hend : 0 + len (zs.take (as.length - 1)) + z.c = len zs := by
      have h1 := take_snoc hzi
      have h2 : zs.take (as.length - 1 + 1) = zs := List.take_of_length_le (by
        have : 0 < zs.length := lenpos hne
        omega)
      rw [h2] at h1
      have h3 : len zs = len (zs.take (as.length - 1)) + len [z] := by
        conv => lhs; rw [h1]
        rw [len_append]
      have h4 : len [z] = z.c := by
        unfold len
        simp
      omega
    refine ⟨_, rfl, e, CE, dxe, _, _, rfl, (S26.trans W8.s) _ _ e1, ce, n2, rfl, _, rfl, sl, _, _, _, rfl, rfl, SqL.of ((S26.trans W8.s) _ _ e3), atI_neg1 (x := .ref st) (by rw [List.length_map, List.getElem?_map, hst]; rfl), st, CS, dxs, _, _, rfl, (S26.trans W8.s) _ _ t1, cs, n3, rfl, ?_⟩
    refine ⟨_, rfl, x, CG, dx, _, rfl, W8.g3, cg, g3, by show 2 < 1000; decide, ?_⟩
    generalize e8 : upd _ x _ = H7
    rw [hend] at e8
    have W9 : Own B6 (_ :: _ :: _ :: (x, .ins CG dx [("_rises", .ref D), ("_begins", .ref D2), ("_inner", .int (len zs))]) :: ds) H7 := W8.set3 e8
    -- the border unknowns
    have lml := lastF_len b zs
    have lmw := lastF_low hz
    refine ⟨_, rfl, e, CE, dxe, _, _, rfl, (S26.trans W9.s) _ _ e1, ce, n1, rfl, lm, _, rfl, SqL.of ((S26.trans W9.s) _ _ e5), fun D3 nD3 => ?_⟩
    refine lc_it (walk_enum (K := K) (a := lm) (xs := (lastF b zs).map vN)) (fun i H' => ∃ (B7 : Hp) (vs : List V), Same B6 B7 ∧ Own B7 ((D3, .lst vs) :: hdCells CH h dh la3 wa3 (tkBs 0 ((lastF b zs).take i) s3).2 ((x, .ins CG dx [("_rises", .ref D), ("_begins", .ref D2), ("_inner", .int (len zs))]) :: ds)) H' ∧ DpAll K B7 vs ((tkBs 0 ((lastF b zs).take i) s3).1.map pD))
      ⟨B6, [], Same.refl _, W9.new nD3 rfl, .nil⟩ (fun i H' _ ⟨B7, vs, S7, W', _⟩ => SqL.of ((S26.trans (S7.trans W'.s)) _ _ e5)) ?_ ?_
    · rintro i y H' H'' hi ⟨B7, vs, S7, W', hv⟩ ⟨T, x1, y1, rfl, nT, rfl, c1, c2⟩
      cases c1
      obtain ⟨m, hm, rfl⟩ := nats_get c2
      rw [List.length_map, lml] at hi
      generalize eT : upd _ T _ = HT
      have WT := W'.new nT eT
      have lv := dpAll_len hv
      rw [List.length_map, tkBs_len, List.length_take] at lv
      refine ⟨T, _, rfl, .inl (.inl WT.g0), rfl, _, _, rfl, _, _, rfl, rfl, rfl, ?_⟩
      have W10 := WT.tl.perm (List.perm_middle (a := ((D3, .lst vs) : Cell)) (l₁ := [_, _, _]) (l₂ := (x, .ins CG dx [("_rises", .ref D), ("_begins", .ref D2), ("_inner", .int (len zs))]) :: ds)).symm
      have hmm : ∀ a, 16 + b ≤ a → m.testBit a = false := by
        have := lmw i
        rw [List.getD_eq_getElem?_getD, hm] at this
        exact this
      refine ⟨_, rfl, h, dh, _, rfl, W10.g0, rfl, _, rfl, _, rfl, h, dh, la3, wa3, i, m, b, _, B7, _, rfl, W10, hl3.tkBs _ _, hb6, hi, hmm, fun H8 tt W11 => ?_⟩
      obtain ⟨B8, S8, k8, W12⟩ := W11.fix
      have W13 := W12.perm (List.perm_middle (a := ((D3, .lst vs) : Cell)) (l₁ := [_, _, _]) (l₂ := (x, .ins CG dx [("_rises", .ref D), ("_begins", .ref D2), ("_inner", .int (len zs))]) :: ds))
      have eni : ((lastF b zs).take i).length = i := by
        rw [List.length_take]
        omega
      refine ⟨vs, W13.g0, by rw [lv]; exact big (by omega), B8, vs ++ [.ref tt], S7.trans S8, ?_, ?_⟩
      · generalize e9 : upd _ D3 _ = H9
        rw [take_snoc hm, tkBs_snoc, eni, Nat.zero_add]
        exact W13.set0 e9
      · rw [take_snoc hm, tkBs_snoc, eni, Nat.zero_add, List.map_append]
        refine dpAll_append (dpAll_same S8 _ hv) (.cons ?_ .nil)
        exact .tup (.inl (.inl k8)) (.cons (.int _) (.cons (.int _) .nil))
    rintro H8 ⟨B7, vs, S7, W10, hv⟩
    rw [List.length_map, List.take_length] at W10 hv
    have lv := dpAll_len hv
    rw [List.length_map, tkBs_len, lml] at lv
    obtain ⟨B8, S8, k8, W11⟩ := W10.fix
    refine ⟨_, rfl, x, CG, dx, _, _, rfl, W11.g3, cg, g3, rfl, _, rfl, _, rfl, D3, _, rfl, .inl (SqL.of (W11.s _ _ k8)), len zs, D3, vs, (tkBs 0 (lastF b zs) s3).1, _, 0, B8, _, rfl, W11, SqL.of k8, dpAll_same S8 _ hv, by rw [tkBs_len, lml]; omega, fun B9 H9 r S9 W12 hr9 => ?_⟩
    refine ⟨_, rfl, x, CG, dx, _, rfl, W12.g3, cg, g4, by show 3 < 1000; decide, ?_⟩
    generalize e9 : upd _ x _ = H10
    have W13 : Own B9 (_ :: _ :: _ :: (x, .ins CG dx [("_rises", .ref D), ("_begins", .ref D2), ("_inner", .int (len zs)), ("_last", .ref r)]) :: ds) H10 := W12.set3 e9
    obtain ⟨B10, S10, k10, W14⟩ := (W13.tl.tl.tl).fix
    rw [lv] at hr9
    have S49 := S6.trans (S7.trans (S8.trans (S9.trans S10)))
    exact q B10 H10 (S2.trans (S4.trans S49)) W14 ⟨⟨dx, D, D2, r, rs, s3, k10, S49 _ _ k4, hall.same (S4.trans S49), (S7.trans (S8.trans (S9.trans S10))) _ _ k6, hr9.same S10⟩⟩
end
end Fb
namespace Fb
open PySem PySem.Spec PyProof.Rows L2
/-! ### zones that are told -/
theorem mergeStep_all {p : Zn → Prop} (hp : ∀ a b : Zn, p a → p b → p ⟨a.c + b.c, b.o, b.t⟩) (acc : List Zn) (z : Zn) (ha : ∀ y ∈ acc, p y) (hz : p z) : ∀ y ∈ mergeStep acc z, p y := by
  unfold mergeStep
  split
  · rename_i y hy
    have py : p y := ha y (List.mem_of_getLast? hy)
    split
    · intro u hu
      rcases List.mem_append.mp hu with m | m
      · exact ha u ((List.dropLast_sublist _).subset m)
      · rw [List.mem_singleton] at m
        rw [m]
        exact hp y z py hz
    · intro u hu
      rcases List.mem_append.mp hu with m | m
      · exact ha u m
      · rw [List.mem_singleton] at m
        rw [m]
        exact hz
  · intro u hu
    rcases List.mem_append.mp hu with m | m
    · exact ha u m
    · rw [List.mem_singleton] at m
      rw [m]
      exact hz
theorem merged_all {p : Zn → Prop} (hp : ∀ a b : Zn, p a → p b → p ⟨a.c + b.c, b.o, b.t⟩) (zs : List Zn) (h : ∀ z ∈ zs, p z) : ∀ z ∈ mergedZ zs, p z := by
  have key : ∀ (l : List Zn) (acc : List Zn), (∀ z ∈ acc, p z) → (∀ z ∈ l, p z) → ∀ z ∈ l.foldl mergeStep acc, p z := by
    intro l
    induction l with
    | nil => intro acc h _; exact h
    | cons z l ih =>
      intro acc ha hl
      exact ih _ (mergeStep_all hp acc z ha (hl z (.head _))) fun y hy => hl y (.tail _ hy)
  exact key zs [] (fun z hz => by cases hz) h
theorem trimmed_all {p : Zn → Prop} (L : Int) : ∀ (zs : List Zn) (b : Int), (∀ z ∈ zs, ∀ c, 1 ≤ c → p ⟨c, z.o, z.t⟩) → (∀ z ∈ zs, ∀ u, p (unitZ L z u)) → ∀ z ∈ trimmedF L b zs, p z
  | [], _, _, _, z, hz => by cases hz
  | y :: zs, b, h1, h2, z, hz => by
    rcases List.mem_append.mp hz with m | m
    · rcases List.mem_append.mp m with m | m
      · unfold safeP at m
        split at m
        · rw [List.mem_singleton] at m
          rw [m]
          exact h1 y (.head _) _ (by omega)
        · cases m
      · unfold unitsZ at m
        obtain ⟨j, _, rfl⟩ := List.mem_map.mp m
        exact h2 y (.head _) _
    · exact trimmed_all L zs (b + y.c) (fun x hx => h1 x (.tail _ hx)) (fun x hx => h2 x (.tail _ hx)) z m
theorem trimmedZ_len (zs : List Zn) (h : ∀ z ∈ zs, 0 ≤ z.c) : (trimmedZ zs).length ≤ zs.length + 16 := by
  have h1 := trimmedF_len (len zs) zs 0 (Int.le_refl _) h
  have h2 := unitsTo_len (len zs)
  rw [Int.zero_add] at h1
  unfold trimmedZ
  omega
def toldZ (zs : List Zn) : List Zn := mergedZ (trimmedZ zs)
theorem told_sum (zs : List Zn) (h : ∀ z ∈ zs, 0 ≤ z.c) : len (toldZ zs) = len zs := by
  unfold toldZ trimmedZ
  rw [merged_sum, trimmed_sum _ _ _ h]
theorem ZOk.told {b : Nat} {zs : List Zn} (h : ZOk b zs) (hn : zs.length ≤ 80000) : ZOk b (toldZ zs) := by
  have hc : ∀ z ∈ zs, 0 ≤ z.c := fun z hz => by have := h.c z hz; omega
  refine ⟨?_, ?_, ?_, ?_, h.b, ?_, ?_⟩
  · have h1 := mergedZ_len (trimmedZ zs)
    have h2 := trimmedZ_len zs hc
    unfold toldZ
    omega
  · refine merged_all (p := fun z => 1 ≤ z.c) (fun a b h1 h2 => ?_) _ (trimmed_all _ _ _ (fun z hz c h => h) fun z hz u => Int.le_refl _)
    show 1 ≤ a.c + b.c
    have h1' : 1 ≤ a.c := h1
    have h2' : 1 ≤ b.c := h2
    omega
  · refine merged_all (p := fun z => ∀ x ∈ z.o, 1 ≤ x ∧ x ≤ 16) (fun a b h1 h2 => h2) _ (trimmed_all _ _ _ (fun z hz c _ => h.o z hz) fun z hz u x hx => ?_)
    exact h.o z hz x (List.mem_filter.mp hx).1
  · exact merged_all (p := fun z => ∀ x ∈ z.t, 0 ≤ x ∧ x < (b : Int)) (fun a b h1 h2 => h2) _ (trimmed_all _ _ _ (fun z hz c _ => h.t z hz) fun z hz u => h.t z hz)
  · refine merged_all (p := fun z => z.o.Pairwise (· < ·)) (fun a b h1 h2 => h2) _ (trimmed_all _ _ _ (fun z hz c _ => h.oa z hz) fun z hz u => ?_)
    exact (h.oa z hz).filter _
  · exact merged_all (p := fun z => z.t.Pairwise (· < ·)) (fun a b h1 h2 => h2) _ (trimmed_all _ _ _ (fun z hz c _ => h.ta z hz) fun z hz u => h.ta z hz)
theorem told_ne {zs : List Zn} (h : ∀ z ∈ zs, 1 ≤ z.c) (hne : zs ≠ []) : toldZ zs ≠ [] := fun e => by
  have h1 := told_sum zs fun z hz => by have := h z hz; omega
  rw [e] at h1
  cases zs with
  | nil => exact hne rfl
  | cons z zs =>
    have h2 := len_take_le h (.head (as := zs) (a := z))
    have h3 := h z (.head _)
    have h4 : len [] = 0 := rfl
    omega
section
variable {P : Program} {w : World} {K : PySem.W.Frag} {mg : Str → Option Value} {base : Heap}
def sysF (v1 v2 v3 v4 v5 v6 v7 : V) : List (Str × V) := [("_borders", v1), ("_zones", v2), ("_told", v3), ("_begins", v4), ("_length", v5), ("elimination", v6), ("growth", v7)]
/-- a system of b border unknowns told by the zones zs -/
structure SysR (K : PySem.W.Frag) (C : Cs) (H : Hp) (x : Addr) (b : Nat) (zs : List Zn) : Prop where
  ok : ZOk b zs
  n : zs.length ≤ 2900
  ne : zs ≠ []
  big : len zs ≤ 1000000000000000000000000000000
  ex : ∃ (dx a1 a2 bg e g : Addr), H x = some (.ins C.sys dx (sysF (.int b) (.ref a1) (.ref a2) (.ref bg) (.int (len zs)) (.ref e) (.ref g))) ∧
    Dp K H (.ref a1) (.list ((mergedZ zs).map zdK)) ∧ Dp K H (.ref a2) (.list ((toldZ zs).map zdK)) ∧ Dp K H (.ref bg) (.list ((beginsZ 0 ((toldZ zs).map (·.c))).map .int)) ∧ ElimR K C.el C.st H e b (toldZ zs) ∧ GrowR C.gr C.ri C.co H g b (toldZ zs)
theorem SysR.same {C : Cs} {H H' : Hp} {x : Addr} {b : Nat} {zs : List Zn} (h : SysR K C H x b zs) (S : Same H H') : SysR K C H' x b zs := by
  obtain ⟨dx, a1, a2, bg, e, g, h1, h2, h3, h4, h5, h6⟩ := h.ex
  exact ⟨h.ok, h.n, h.ne, h.big, dx, a1, a2, bg, e, g, S _ _ h1, dp_same S _ h2, dp_same S _ h3, dp_same S _ h4, h5.same S, h6.same S⟩
def FsOk (fs : List (Str × V)) : Prop := fs = [] ∨ ∃ v1 v2 v3 v4 v5 v6 v7, fs = sysF v1 v2 v3 v4 v5 v6 v7
def spTake (K : PySem.W.Frag) (C : Cs) : Sp := fun vs H Q _ => ∃ (x dx : Addr) (fs : List (Str × V)) (b : Nat) (zv : V) (zs : List Zn) (B : Hp) (ds : List Cell), vs = [.ref x, .int b, zv] ∧ Own B ((x, .ins C.sys dx fs) :: ds) H ∧ NS ds ∧ FsOk fs ∧
  Dp K B zv (.list (zs.map zdK)) ∧ ZOk b zs ∧ zs.length ≤ 2900 ∧ zs ≠ [] ∧ len zs ≤ 1000000000000000000000000000000 ∧ ∀ Hb H', Same B Hb → Own Hb ds H' → SysR K C Hb x b zs → Q .non H'
theorem sc_System_take : FnScope nm_System_take ["self", "borders", "zones"] (defScope s_System_take) := ⟨rfl, rfl, rfl, by decide +kernel, rfl, by decide +kernel, by decide +kernel⟩
theorem fs_all {fs : List (Str × V)} (h : FsOk fs) (v1 v2 v3 v4 v5 v6 v7 : V) :
    putF "growth" v7 (putF "elimination" v6 (putF "_length" v5 (putF "_begins" v4 (putF "_told" v3 (putF "_zones" v2 (putF "_borders" v1 fs)))))) = sysF v1 v2 v3 v4 v5 v6 v7 := by
  rcases h with rfl | ⟨_, _, _, _, _, _, _, rfl⟩ <;> rfl
theorem fs_told {fs : List (Str × V)} (h : FsOk fs) (v1 v2 v3 : V) :
    (putF "_told" v3 (putF "_zones" v2 (putF "_borders" v1 fs))).lookup ("_told" : Str) = some v3 := by
  rcases h with rfl | ⟨_, _, _, _, _, _, _, rfl⟩ <;> rfl
theorem fs_told2 {fs : List (Str × V)} (h : FsOk fs) (v1 v2 v3 v4 v5 : V) :
    (putF "_length" v5 (putF "_begins" v4 (putF "_told" v3 (putF "_zones" v2 (putF "_borders" v1 fs))))).lookup ("_told" : Str) = some v3 := by
  rcases h with rfl | ⟨_, _, _, _, _, _, _, rfl⟩ <;> rfl
theorem fs_el {fs : List (Str × V)} (h : FsOk fs) (v1 v2 v3 v4 v5 v6 : V) :
    (putF "elimination" v6 (putF "_length" v5 (putF "_begins" v4 (putF "_told" v3 (putF "_zones" v2 (putF "_borders" v1 fs)))))).lookup ("elimination" : Str) = some v6 := by
  rcases h with rfl | ⟨_, _, _, _, _, _, _, rfl⟩ <;> rfl
theorem putF_len (f : Str) (v : V) (fs : List (Str × V)) : (putF f v fs).length ≤ fs.length + 1 := by
  induction fs with
  | nil => exact Nat.le_refl _
  | cons p r ih =>
    unfold putF
    split
    · rw [List.length_cons, List.length_cons]
      omega
    · rw [List.length_cons, List.length_cons]
      omega
theorem ok_take {f : Addr} {C : Cs} {fd : FuncData} (F : Fun K "_take" "System._take" s_System_take f fd)
    (c : Cls K C.sys) (n1 : NoAttr K C.sys "_borders") (n2 : NoAttr K C.sys "_zones") (n3 : NoAttr K C.sys "_told") (n4 : NoAttr K C.sys "_begins") (n5 : NoAttr K C.sys "_length") (n6 : NoAttr K C.sys "elimination") (n7 : NoAttr K C.sys "growth")
    (D_merged : Def P w K mg base CX0 1 "merged" ["zones"] (spMerged K)) (D_trimmed : Def P w K mg base CX0 2 "trimmed" ["zones"] (spTrimmed K))
    (D_begins_of : Def P w K mg base CX0 1 "begins_of" ["zones"] (spBegins K)) (D_length_of : Def P w K mg base CX0 1 "length_of" ["zones"] (spLength K))
    (K_Elimination : DMake P w K mg base CX0 4 "Elimination" C.el ["self", "borders", "told"] (spElimInit K C.el C.st))
    (K_Growth : DMake P w K mg base CX0 7 "Growth" C.gr ["self", "elimination"] (spGrowthInit K C.el C.st C.gr C.ri C.co)) :
    FnOk P w K mg base CX0 9 f fd ["self", "borders", "zones"] (spTake K C) := by
  refine F.ok sc_System_take (fun vs H Q E h => ?_) (fun cdv A outer s H vs Q E hr h => ?_)
  · obtain ⟨x, dx, fs, b, zv, zs, B, ds, rfl, _⟩ := h
    rfl
  · obtain ⟨x, dx, fs, b, zv, zs, B, ds, rfl, W, hns, hfs, hd, hz, hn, hne, hbig, q⟩ := h
    refine ⟨_, (pss_cons (ps_fld (pv 0) (pv 1) rfl)
      (pss_cons (ps_fld (pv 0) (pe_callD D_merged hr (by decide) pass0 (pa_cons (pv 2) pa_nil)) rfl)
      (pss_cons (ps_fld (pv 0) (pe_callD D_merged hr (by decide) pass0 (pa_cons (pe_callD D_trimmed hr (by decide) pass0 (pa_cons (pv 2) pa_nil)) pa_nil)) rfl)
      (pss_cons (ps_fld (pv 0) (pe_callD D_begins_of hr (by decide) pass0 (pa_cons (pe_fld (pv 0) rfl) pa_nil)) rfl)
      (pss_cons (ps_fld (pv 0) (pe_callD D_length_of hr (by decide) pass0 (pa_cons (pv 2) pa_nil)) rfl)
      (pss_cons (ps_fld (pv 0) (pe_makeD K_Elimination hr (by decide) pass0 (pa_cons (pv 1) (pa_cons (pe_fld (pv 0) rfl) pa_nil))) rfl)
      (pss_one (ps_fld (pv 0) (pe_makeD K_Growth hr (by decide) pass0 (pa_cons (pe_fld (pv 0) rfl) pa_nil)) rfl)))))))), ?_⟩
    have fl : fs.length ≤ 7 := by
      rcases hfs with rfl | ⟨_, _, _, _, _, _, _, rfl⟩
      · exact Nat.zero_le _
      · exact Nat.le_refl _
    have hc : ∀ z ∈ zs, 0 ≤ z.c := fun z hz' => by have := hz.c z hz'; omega
    -- _borders
    have l1 := putF_len "_borders" (.int b) fs
    refine ⟨_, rfl, _, rfl, x, C.sys, dx, _, rfl, W.g0, c, n1, by omega, ?_⟩
    generalize e1 : upd _ x _ = H1
    have W1 := W.set0 e1
    generalize hf1 : putF "_borders" (.int b) fs = f1 at *
    -- _zones
    refine ⟨_, rfl, _, zs, rfl, dp_same W1.s _ hd, by omega, fun H2 w2 S2 hw2 => ⟨_, rfl, x, C.sys, dx, _, rfl, (W1.mono S2).g0, c, n2, by omega, ?_⟩⟩
    obtain ⟨a1, _, rfl, _, _⟩ := dp_lst hw2
    obtain ⟨B2, W2, SB2, QB2⟩ := (W1.mono S2).rebase hns.ins
    have za := dp_seq QB2 _ hw2
    have l2 := putF_len "_zones" (.ref a1) f1
    generalize e3 : upd _ x _ = H3
    have W3 := W2.set0 e3
    generalize hf2 : putF "_zones" (.ref a1) f1 = f2 at *
    have hd2 := dp_same SB2 _ hd
    -- _told
    refine ⟨_, rfl, _, zs, rfl, dp_same W3.s _ hd2, by omega, fun z hz' => ⟨hc z hz', by have := hz.ol z hz'; omega⟩, fun H4 w4 S4 hw4 => ⟨w4, trimmedZ zs, rfl, hw4, by have := trimmedZ_len zs hc; omega, fun H5 w5 S5 hw5 => ⟨_, rfl, x, C.sys, dx, _, rfl, (W3.mono (S4.trans S5)).g0, c, n3, by omega, ?_⟩⟩⟩
    obtain ⟨a2, _, rfl, _, _⟩ := dp_lst hw5
    obtain ⟨B5, W5, SB5, QB5⟩ := (W3.mono (S4.trans S5)).rebase hns.ins
    have zt := dp_seq QB5 _ hw5
    have l3 := putF_len "_told" (.ref a2) f2
    have ltold : (putF "_told" (.ref a2) f2).lookup ("_told" : Str) = some (.ref a2) := by
      rw [← hf2, ← hf1]
      exact fs_told hfs _ _ _
    generalize e6 : upd _ x _ = H6
    have W6 := W5.set0 e6
    generalize hf3 : putF "_told" (.ref a2) f2 = f3 at *
    have ht := hz.told (by omega)
    have tl : ((toldZ zs).map zdK).length ≤ 100000 := by
      rw [List.length_map]
      have := ht.n
      omega
    -- _begins
    refine ⟨_, rfl, x, C.sys, dx, _, _, rfl, W6.g0, c, n3, ltold, _, _, _, rfl, dp_same W6.s _ zt, heads_K (toldZ zs), tl, fun H7 w7 S7 hw7 => ⟨_, rfl, x, C.sys, dx, _, rfl, (W6.mono S7).g0, c, n4, by omega, ?_⟩⟩
    obtain ⟨bg, _, rfl, _, _⟩ := dp_lst hw7
    obtain ⟨B7, W7, SB7, QB7⟩ := (W6.mono S7).rebase hns.ins
    have zb := dp_seq QB7 _ hw7
    have l4 := putF_len "_begins" (.ref bg) f3
    generalize e8 : upd _ x _ = H8
    have W8 := W7.set0 e8
    generalize hf4 : putF "_begins" (.ref bg) f3 = f4 at *
    -- _length
    have hd7 := dp_same (SB5.trans SB7) _ hd2
    refine ⟨_, rfl, _, _, _, rfl, dp_same W8.s _ hd7, heads_K zs, by rw [List.length_map]; omega, fun H9 S9 => ⟨_, rfl, x, C.sys, dx, _, rfl, (W8.mono S9).g0, c, n5, by omega, ?_⟩⟩
    have l5 := putF_len "_length" (.int (zs.map (·.c)).sum) f4
    have ltold2 : (putF "_length" (.int (zs.map (·.c)).sum) f4).lookup ("_told" : Str) = some (.ref a2) := by
      rw [← hf4, ← hf3, ← hf2, ← hf1]
      exact fs_told2 hfs _ _ _ _ _
    generalize e10 : upd _ x _ = H10
    have W10 := (W8.mono S9).set0 e10
    generalize hf5 : putF "_length" (.int (zs.map (·.c)).sum) f4 = f5 at *
    -- elimination
    refine ⟨_, rfl, _, rfl, x, C.sys, dx, _, _, rfl, W10.g0, c, n3, ltold2, fun e dxe ne nxe neq => ?_⟩
    generalize e11 : upd (upd _ dxe _) e _ = H11
    have W11 := W10.ins ne nxe neq e11
    refine ⟨e, dxe, b, .ref a2, toldZ zs, B7, _, rfl, W11, hns.ins, dp_same SB7 _ zt, ht, fun B12 H12 S12 W12 R => ⟨rfl, _, rfl, x, C.sys, dx, _, rfl, W12.g0, c, n6, by omega, ?_⟩⟩
    have l6 := putF_len "elimination" (.ref e) f5
    have lel : (putF "elimination" (.ref e) f5).lookup ("elimination" : Str) = some (.ref e) := by
      rw [← hf5, ← hf4, ← hf3, ← hf2, ← hf1]
      exact fs_el hfs _ _ _ _ _ _
    generalize e13 : upd _ x _ = H13
    have W13 := W12.set0 e13
    generalize hf6 : putF "elimination" (.ref e) f5 = f6 at *
    -- growth
    refine ⟨_, rfl, x, C.sys, dx, _, _, rfl, W13.g0, c, n6, lel, fun g dg ng ndg neg => ?_⟩
    generalize e14 : upd (upd _ dg _) g _ = H14
    have W14 := W13.ins ng ndg neg e14
    have tln := trimmedZ_len zs hc
    have mln := mergedZ_len (trimmedZ zs)
    refine ⟨g, dg, e, b, toldZ zs, B12, _, rfl, W14, R, ht, by show (mergedZ (trimmedZ zs)).length ≤ 2990; omega, told_ne hz.c hne, by rw [told_sum zs hc]; exact hbig, fun B15 H15 S15 W15 R2 => ⟨rfl, _, rfl, x, C.sys, dx, _, rfl, W15.g0, c, n7, by omega, ?_⟩⟩
    generalize e16 : upd _ x _ = H16
    have W16 := W15.set0 e16
    have hfin : putF "growth" (.ref g) f6 = sysF (.int b) (.ref a1) (.ref a2) (.ref bg) (.int (len zs)) (.ref e) (.ref g) := by
      rw [← hf6, ← hf5, ← hf4, ← hf3, ← hf2, ← hf1]
      exact fs_all hfs _ _ _ _ _ _ _
    rw [hfin] at W16
    obtain ⟨B17, S17, k17, W17⟩ := W16.fix
    have S7 := S12.trans (S15.trans S17)
    exact q B17 H16 (SB2.trans (SB5.trans (SB7.trans S7))) W17 ⟨hz, hn, hne, hbig, dx, a1, a2, bg, e, g, k17, dp_same (SB5.trans (SB7.trans S7)) _ za, dp_same (SB7.trans S7) _ zt, dp_same S7 _ zb, R.same (S15.trans S17), R2.same S17⟩
end
end Fb
namespace Fb
open PySem PySem.Spec PyProof.Rows L2
/-! ### is_ascending, is_zone -/
def ascL : List Int → Bool
  | a :: b :: r => decide (a < b) && ascL (b :: r)
  | _ => true
def jInt : J → Int
  | .int i => i
  | _ => 0
def ascJ (j : J) (lo hi : Int) : Bool := match j with
  | .list js => decide (js.length ≤ 6) && (js.all (within · lo hi) && ascL (js.map jInt))
  | _ => false
def zoneJ (j : J) (b : Int) : Bool := match j with
  | .tup [c, o, t] => within c 1 1000000000000000000000000000000 && (ascJ o 1 16 && ascJ t 0 (b - 1))
  | _ => false
def lessL : List Int → List Bool
  | a :: b :: r => decide (a < b) :: lessL (b :: r)
  | _ => []
theorem lessL_all : ∀ l, (lessL l).all id = ascL l
  | [] => rfl
  | [_] => rfl
  | a :: b :: r => by
    show ((decide (a < b)) && (lessL (b :: r)).all id) = (decide (a < b) && ascL (b :: r))
    rw [lessL_all (b :: r)]
theorem lessL_len : ∀ l, (lessL l).length = l.length - 1
  | [] => rfl
  | [_] => rfl
  | a :: b :: r => by
    show (lessL (b :: r)).length + 1 = _
    rw [lessL_len (b :: r)]
    rfl
theorem lessL_get : ∀ (l : List Int) (i : Nat) (a b : Int), l[i]? = some a → (l.drop 1)[i]? = some b → (lessL l)[i]? = some (decide (a < b))
  | [], i, a, b, h, _ => by simp at h
  | [_], i, a, b, _, h => by simp at h
  | x :: y :: r, 0, a, b, h1, h2 => by
    simp at h1 h2
    subst h1 h2
    rfl
  | x :: y :: r, i + 1, a, b, h1, h2 => by
    have e := lessL_get (y :: r) i a b (by simpa using h1) (by simpa using h2)
    show (decide (x < y) :: lessL (y :: r))[i + 1]? = _
    rw [List.getElem?_cons_succ]
    exact e
section
variable {P : Program} {w : World} {K : PySem.W.Frag} {mg : Str → Option Value} {base : Heap}
theorem ints_get {as : List Int} {i : Nat} {x : V} (h : (as.map V.int)[i]? = some x) : ∃ a, as[i]? = some a ∧ x = .int a := by
  rw [List.getElem?_map] at h
  cases e : as[i]? with
  | none => rw [e] at h; cases h
  | some a => rw [e] at h; exact ⟨a, rfl, (Option.some.inj h).symm⟩
theorem jr_ints {H : Hp} {lo hi : Int} : ∀ {vs : List V} {js : List J}, JrAll K H vs js → js.all (within · lo hi) = true → vs = (js.map jInt).map V.int
  | _, _, .nil, _ => rfl
  | _, _, .cons (v := v) (j := j) (vs := vs) (js := js) h t, e => by
    rw [List.all_cons, Bool.and_eq_true] at e
    rw [jr_ints t e.2]
    cases h with
    | int i => rfl
    | odd _ _ _ => cases e.1
    | lst _ _ _ => cases e.1
    | tup _ _ _ => cases e.1
theorem sc_is_ascending : FnScope nm_is_ascending ["value", "low", "high"] (defScope s_is_ascending) := ⟨rfl, rfl, rfl, by decide +kernel, rfl, by decide +kernel, by decide +kernel⟩
theorem sc_is_zone : FnScope nm_is_zone ["value", "borders"] (defScope s_is_zone) := ⟨rfl, rfl, rfl, by decide +kernel, rfl, by decide +kernel, by decide +kernel⟩
def spAsc (K : PySem.W.Frag) : Sp := fun vs H Q _ => ∃ v j lo hi, vs = [v, .int lo, .int hi] ∧ Jr K H v j ∧ ∀ H', Same H H' → Q (.bl (ascJ j lo hi)) H'
theorem ok_is_ascending {f : Addr} {fd : FuncData} (F : Fun K "is_ascending" "is_ascending" s_is_ascending f fd) (bt : Bt mg bn) (g_MOST_ITEMS : GInt mg "MOST_ITEMS" 6) (D_is_within : Def P w K mg base CX0 2 "is_within" ["value", "low", "high"] (spWithin K)) :
    FnOk P w K mg base CX0 3 f fd ["value", "low", "high"] (spAsc K) := by
  refine F.ok sc_is_ascending (fun vs H Q E h => ?_) (fun cdv A outer s H vs Q E hr h => ?_)
  · obtain ⟨v, j, lo, hi, rfl, _⟩ := h
    rfl
  · obtain ⟨v, j, lo, hi, rfl, hj, q⟩ := h
    obtain ⟨t, _, _, hty, _, _, k3, _, _⟩ := hj.kind
    refine ⟨_, (pss_cons (ps_if (PW.pt (pw_or (pt_not (pt_val (pe_callB (r := rIsi K) call_isi (by rfl) (bt "isinstance" (by decide)) PyProof.Rows.boot_isinstance (pa_cons (pv 0) (pa_cons (pe_bltn (v := .ty "list") (by rfl) (bt "list" (by decide)) PyProof.Rows.boot_list rfl) pa_nil))))) (pw_or1 (pt_cmpR op_gt (pe_callB call_len_seq (by rfl) (bt "len" (by decide)) PySem.boot_len (pa_cons (pv 0) pa_nil)) (pe_globI (n := (6)) g_MOST_ITEMS) (nomark _)))))
        (pss_one (ps_ret pe_bl))
        pss_nil)
      (pss_cons (ps_if (pt_not (pt_val (pe_callB (r := rAll K) (cr_all rfl) (by rfl) (bt "all" (by decide)) PyProof.Rows.boot_all (pa_cons (pe_lc (own := [("item", 3)]) (tt := tYes) (g := (gName 3)) rfl sc_is_ascending.nd (pi_list (pv 0)) (blkOk_by (N := nm_is_ascending) (sc := defScope s_is_ascending) (by decide +kernel)) (fun _ _ _ _ _ => (pg_name (i := 3) sc_is_ascending.nd rfl (.inl rfl))) (fun _ _ _ _ _ => pts_nil) (fun _ _ _ _ _ => (pe_callD D_is_within hr (by decide) pass0 (pa_cons (pv 3) (pa_cons (pv 1) (pa_cons (pv 2) pa_nil)))))) pa_nil))))
        (pss_one (ps_ret pe_bl))
        pss_nil)
      (pss_one (ps_ret (pe_callB (r := rAll K) (cr_all rfl) (by rfl) (bt "all" (by decide)) PyProof.Rows.boot_all (pa_cons (pe_lc (own := [("item", 3), ("following", 4)]) (tt := tYes) (g := (gTup K 2 (gCons (gName 3) (gCons (gName 4) gNil)))) rfl sc_is_ascending.nd (pi_zip (by rfl) (bt "zip" (by decide)) (pa_cons (pv 0) (pa_cons (pe_slice (r := rSlL K) sl_list (pv 0) (po_some pe_int) po_none) pa_nil))) (blkOk_by (N := nm_is_ascending) (sc := defScope s_is_ascending) (by decide +kernel)) (fun _ _ _ _ _ => (pg_tup rfl (pgs_cons (pg_name (i := 3) sc_is_ascending.nd rfl (.inl rfl)) (pgs_cons (pg_name (i := 4) sc_is_ascending.nd rfl (.inl rfl)) pgs_nil)))) (fun _ _ _ _ _ => pts_nil) (fun _ _ _ _ _ => (pe_cmpR op_lt (pv 3) (pv 4) (nomark _)))) pa_nil)))))), ?_⟩
    refine ⟨_, rfl, v, .ty "list", t, .type "list", _, rfl, .ty _, hty, k3, _, rfl, ?_⟩
    cases j with
    | list js =>
      cases hj with
      | @lst a vs _ hs ty ha =>
      have hl := jrAll_len ha
      refine iteF ⟨_, rfl, a, _, rfl, .inl hs, _, _, rfl, rfl, _, rfl, ite2 (fun h6 => ?_) (fun h6 => ?_)⟩
      · have h6 := of_decide_eq_true h6
        have e : ascJ (.list js) lo hi = false := by
          show (decide (js.length ≤ 6) && _) = false
          rw [decide_eq_false (by omega), Bool.false_and]
        rw [e] at q
        exact q H (fun _ _ h => h)
      · have h6 := of_decide_eq_false (Bool.eq_false_iff.mpr h6)
        have l6 : js.length ≤ 6 := by omega
        refine ⟨_, rfl, a, rfl, ⟨_, hs⟩, fun D nD => ?_⟩
        refine lc_list (xs := vs) (fun i H' => Same H H' ∧ H' D = some (.lst (((js.take i).map (within · lo hi)).map V.bl))) ⟨same1 nD, upd_same⟩ (fun i H' _ h => h.1.seq hs) ?_ ?_
        · rintro i x H' hi' ⟨S, hD⟩
          obtain ⟨jj, hjj, hx⟩ := jrAll_getV ha hi'
          refine ⟨rfl, ?_⟩
          refine ⟨_, rfl, _, rfl, _, rfl, x, jj, lo, hi, rfl, jr_same S _ hx, _, hD, small (by rw [List.length_map, List.length_map, List.length_take]; omega), same_lst nD S hD, ?_⟩
          rw [upd_same, take_snoc hjj, List.map_append, List.map_append]
          rfl
        · rintro H' ⟨S, hD⟩
          rw [hl, List.take_length] at hD
          refine ⟨D, _, rfl, SqL.of hD, _, rfl, ?_⟩
          have ea : ((js.map (within · lo hi)).all id) = js.all (within · lo hi) := by
            rw [List.all_map]
            rfl
          rw [ea]
          cases hall : js.all (within · lo hi) with
          | false =>
            have e : ascJ (.list js) lo hi = false := by
              show (decide (js.length ≤ 6) && (js.all _ && _)) = false
              rw [hall, Bool.false_and, Bool.and_false]
            rw [e] at q
            exact iteT (q H' S)
          | true =>
            have e : ascJ (.list js) lo hi = ascL (js.map jInt) := by
              show (decide (js.length ≤ 6) && (js.all _ && _)) = _
              rw [hall, Bool.true_and, decide_eq_true l6, Bool.true_and]
            rw [e] at q
            have hv := jr_ints ha hall
            have hs' := S.seq hs
            rw [hv] at hs'
            generalize hns : js.map jInt = ns at *
            have ln : ns.length ≤ 6 := by rw [← hns, List.length_map]; exact l6
            refine iteF ⟨_, rfl, _, rfl, 1, rfl, a, _, rfl, hs', fun p np => ?_⟩
            have ec : cutV (ns.map V.int) (some 1) none = (ns.drop 1).map V.int := by
              unfold cutV
              show ((ns.map V.int).drop (HT.sIx (ns.map V.int).length 0 (some 1))).take (HT.sIx (ns.map V.int).length (ns.map V.int).length none - HT.sIx (ns.map V.int).length 0 (some 1)) = _
              have e0 : HT.sIx (ns.map V.int).length (ns.map V.int).length none = (ns.map V.int).length := rfl
              rw [e0]
              cases ns with
              | nil => rfl
              | cons n ns =>
                have e1 : HT.sIx ((n :: ns).map V.int).length 0 (some 1) = 1 := by
                  unfold HT.sIx
                  rw [List.length_map, List.length_cons]
                  (try simp only [])
                  first
                    | omega
                    | (split <;> omega)
                    | (simp; omega)
                rw [e1, List.length_map, List.length_cons]
                show ((ns.map V.int)).take (ns.length + 1 - 1) = ns.map V.int
                rw [Nat.add_sub_cancel]
                exact List.take_of_length_le (by rw [List.length_map]; exact Nat.le_refl _)
            rw [ec]
            have Sp : Same H' (upd H' p (.lst ((ns.drop 1).map V.int))) := same1 np
            have hp : (upd H' p (.lst ((ns.drop 1).map V.int))) p = some (.lst ((ns.drop 1).map V.int)) := upd_same
            generalize upd H' p (.lst ((ns.drop 1).map V.int)) = H2 at Sp hp ⊢
            refine ⟨a, p, _, _, rfl, Sp.seq hs', SqL.of hp, fun D2 nD2 => ?_⟩
            have nl : (lessL ns).length = min (ns.map V.int).length ((ns.drop 1).map V.int).length := by
              rw [lessL_len, List.length_map, List.length_map, List.length_drop]
              omega
            refine lc_it (walk_zip (K := K) (a := a) (b := p) (xs := ns.map V.int) (ys := (ns.drop 1).map V.int) nl) (fun i H3 => Same H2 H3 ∧ H3 D2 = some (.lst (((lessL ns).take i).map V.bl))) ⟨same1 nD2, upd_same⟩ (fun i H3 _ h => ⟨h.1.seq (Sp.seq hs'), h.1.seq (SqL.of hp)⟩) ?_ ?_
            · rintro i x H3 H4 hi' ⟨S3, hD3⟩ ⟨T, x1, y1, rfl, nT, rfl, e1, e2⟩
              obtain ⟨a1, ha1, rfl⟩ := ints_get e1
              obtain ⟨b1, hb1, rfl⟩ := ints_get e2
              have ST : Same H3 (upd H3 T (.tup [V.int a1, V.int b1])) := same1 nT
              have hT : (upd H3 T (.tup [V.int a1, V.int b1])) T = some (.tup [V.int a1, V.int b1]) := upd_same
              generalize upd H3 T (.tup [V.int a1, V.int b1]) = H4 at ST hT ⊢
              refine ⟨T, _, rfl, .inl (.inl hT), rfl, _, _, rfl, _, _, rfl, rfl, rfl, ?_⟩
              refine ⟨_, rfl, _, rfl, _, _, rfl, rfl, _, ST _ _ hD3, small (by
                rw [List.length_map, List.length_take]
                have := lessL_len ns
                omega), same_lst nD2 (S3.trans ST) (ST _ _ hD3), ?_⟩
              rw [upd_same, take_snoc (lessL_get ns i a1 b1 ha1 hb1), List.map_append]
              rfl
            · rintro H3 ⟨S3, hD3⟩
              rw [List.take_length] at hD3
              refine ⟨D2, _, rfl, SqL.of hD3, ?_⟩
              rw [lessL_all]
              exact q H3 ((S.trans Sp).trans S3)
    | int i => exact iteT (q H fun _ _ h => h)
    | odd => exact iteT (q H fun _ _ h => h)
    | tup l => exact iteT (q H fun _ _ h => h)
def spZone (K : PySem.W.Frag) : Sp := fun vs H Q _ => ∃ v j b, vs = [v, .int b] ∧ Jr K H v j ∧ ∀ H', Same H H' → Q (.bl (zoneJ j b)) H'
theorem ok_is_zone {f : Addr} {fd : FuncData} (F : Fun K "is_zone" "is_zone" s_is_zone f fd) (bt : Bt mg bn) (g_MOST_UNKNOWNS : GInt mg "MOST_UNKNOWNS" 1000000000000000000000000000000) (g_MOST_OFFSET : GInt mg "MOST_OFFSET" 16)
    (D_is_within : Def P w K mg base CX0 2 "is_within" ["value", "low", "high"] (spWithin K)) (D_is_ascending : Def P w K mg base CX0 3 "is_ascending" ["value", "low", "high"] (spAsc K)) :
    FnOk P w K mg base CX0 4 f fd ["value", "borders"] (spZone K) := by
  refine F.ok sc_is_zone (fun vs H Q E h => ?_) (fun cdv A outer s H vs Q E hr h => ?_)
  · obtain ⟨v, j, b, rfl, _⟩ := h
    rfl
  · obtain ⟨v, j, b, rfl, hj, q⟩ := h
    obtain ⟨t, _, _, hty, _, _, _, k4, _⟩ := hj.kind
    refine ⟨_, (pss_cons (ps_if (PW.pt (pw_or (pt_not (pt_val (pe_callB (r := rIsi K) call_isi (by rfl) (bt "isinstance" (by decide)) PyProof.Rows.boot_isinstance (pa_cons (pv 0) (pa_cons (pe_bltn (v := .ty "tuple") (by rfl) (bt "tuple" (by decide)) PyProof.Rows.boot_tuple rfl) pa_nil))))) (pw_or1 (pt_cmpR op_ne (pe_callB call_len_seq (by rfl) (bt "len" (by decide)) PySem.boot_len (pa_cons (pv 0) pa_nil)) pe_int (nomark _)))))
        (pss_one (ps_ret pe_bl))
        pss_nil)
      (pss_cons (ps_asg (pv 0) (pg_tup rfl (pgs_cons (pg_name (i := 2) sc_is_zone.nd rfl (.inl rfl)) (pgs_cons (pg_name (i := 3) sc_is_zone.nd rfl (.inl rfl)) (pgs_cons (pg_name (i := 4) sc_is_zone.nd rfl (.inl rfl)) pgs_nil)))))
      (pss_cons (ps_if (pt_not (pt_val (pe_callD D_is_within hr (by decide) pass0 (pa_cons (pv 2) (pa_cons pe_int (pa_cons (pe_globI (n := (1000000000000000000000000000000)) g_MOST_UNKNOWNS) pa_nil))))))
        (pss_one (ps_ret pe_bl))
        pss_nil)
      (pss_one (ps_ret (pe_and (pe_callD D_is_ascending hr (by decide) pass0 (pa_cons (pv 3) (pa_cons pe_int (pa_cons (pe_globI (n := (16)) g_MOST_OFFSET) pa_nil)))) (pe_one (pe_callD D_is_ascending hr (by decide) pass0 (pa_cons (pv 4) (pa_cons pe_int (pa_cons (pe_op op_sub (pv 1) pe_int) pa_nil))))))))))), ?_⟩
    refine ⟨_, rfl, v, .ty "tuple", t, .type "tuple", _, rfl, .ty _, hty, k4, _, rfl, ?_⟩
    cases j with
    | int i => exact iteT (q H fun _ _ h => h)
    | odd => exact iteT (q H fun _ _ h => h)
    | list l => exact iteT (q H fun _ _ h => h)
    | tup js =>
      cases hj with
      | @tup a vs _ hs ty ha =>
      have hl := jrAll_len ha
      have e3 : decide (V.int (vs.length : Int) = V.int 3) = decide (vs.length = 3) := decide_eq_decide.mpr ⟨fun e => by
        injection e with e
        omega, fun e => by rw [e]; rfl⟩
      refine iteF ⟨_, rfl, a, _, rfl, .inr hs, rfl, _, rfl, ?_⟩
      rw [e3]
      by_cases h3 : vs.length = 3
      · rw [decide_eq_true h3]
        refine iteF ?_
        rw [hl] at h3
        match js, h3, ha, q with
        | [c, o, t], _, ha, q =>
          obtain ⟨vc, vo, vt, rfl, hc, ho, ht⟩ : ∃ vc vo vt, vs = [vc, vo, vt] ∧ Jr K H vc c ∧ Jr K H vo o ∧ Jr K H vt t := by
            cases ha with
            | cons h1 ha =>
            cases ha with
            | cons h2 ha =>
            cases ha with
            | cons h3 ha =>
            cases ha
            exact ⟨_, _, _, rfl, h1, h2, h3⟩
          refine ⟨_, rfl, a, _, rfl, hs, rfl, _, _, rfl, _, _, rfl, _, _, rfl, rfl, ?_⟩
          refine ⟨_, rfl, vc, c, 1, _, rfl, hc, _, rfl, ?_⟩
          have ez : zoneJ (.tup [c, o, t]) b = (within c 1 1000000000000000000000000000000 && (ascJ o 1 16 && ascJ t 0 (b - 1))) := rfl
          rw [ez] at q
          cases hw : within c 1 1000000000000000000000000000000 with
          | false =>
            rw [hw, Bool.false_and] at q
            exact iteT (q H fun _ _ h => h)
          | true =>
            rw [hw, Bool.true_and] at q
            refine iteF ⟨_, rfl, vo, o, 1, 16, rfl, ho, fun H1 S1 => ?_⟩
            refine ⟨_, rfl, ?_⟩
            cases ho1 : ascJ o 1 16 with
            | false =>
              rw [ho1, Bool.false_and] at q
              exact iteF (q H1 S1)
            | true =>
              rw [ho1, Bool.true_and] at q
              exact iteT ⟨_, rfl, _, rfl, _, _, rfl, rfl, vt, t, 0, b - 1, rfl, jr_same S1 _ ht, fun H2 S2 => q H2 (S1.trans S2)⟩
      · rw [decide_eq_false h3]
        have e : zoneJ (.tup js) b = false := by
          unfold zoneJ
          split
          · rename_i c o t he
            cases he
            exfalso
            apply h3
            rw [hl]
            rfl
          · rfl
        rw [e] at q
        exact iteT (q H (fun _ _ h => h))
end
end Fb
namespace Fb
open PySem PySem.Spec PyProof.Rows L2
section
variable {P : Program} {w : World} {K : PySem.W.Frag} {mg : Str → Option Value} {base : Heap}
/-! ### check_length, check_zones -/
theorem sc_check_length : FnScope nm_check_length ["zones"] (defScope s_check_length) := ⟨rfl, rfl, rfl, by decide +kernel, rfl, by decide +kernel, by decide +kernel⟩
theorem sc_check_zones : FnScope nm_check_zones ["value", "borders"] (defScope s_check_zones) := ⟨rfl, rfl, rfl, by decide +kernel, rfl, by decide +kernel, by decide +kernel⟩
/-- an error of one field is on its way -/
def Err (C : Addr) (fld : Str) (v : V) (H : Hp) (E : XK) : Prop := ∀ H' d, Same H H' → H' d = some (.xd [(fld, v)]) → E (.ref C) (some d) H'
def spCheckLen (K : PySem.W.Frag) (CZ : Addr) : Sp := fun vs H Q E => ∃ v ds cs, vs = [v] ∧ Dp K H v (.list ds) ∧ Heads ds cs ∧ ds.length ≤ 100000 ∧ (cs.sum ≤ 1000000000000000000000000000000 → ∀ H', Same H H' → Q .non H') ∧ (1000000000000000000000000000000 < cs.sum → Err CZ "item" .non H E)
theorem ok_check_length {f CZ : Addr} {fd : FuncData} (F : Fun K "check_length" "check_length" s_check_length f fd) (g_MOST_UNKNOWNS : GInt mg "MOST_UNKNOWNS" 1000000000000000000000000000000)
    (X_InvalidZones : DErrF P K mg "InvalidZones" "item" CZ) (D_length_of : Def P w K mg base CX0 1 "length_of" ["zones"] (spLength K)) :
    FnOk P w K mg base (L2.CX P w) 2 f fd ["zones"] (spCheckLen K CZ) := by
  refine F.okX sc_check_length (fun vs H Q E h => ?_) (fun cdv A outer s H vs Q E hr h => ?_)
  · obtain ⟨v, ds, cs, rfl, _⟩ := h
    rfl
  · obtain ⟨v, ds, cs, rfl, hd, hh, hl, q, qe⟩ := h
    refine ⟨_, (pss_one (ps_if (pt_cmpR op_gt (pe_callD D_length_of hr (by decide) pass0 (pa_cons (pv 0) pa_nil)) (pe_globI (n := (1000000000000000000000000000000)) g_MOST_UNKNOWNS) (nomark _))
        (pss_one (ps_raise rfl (takes_of rfl rfl rfl rfl) (pmk_fldD X_InvalidZones hr pe_non)))
        pss_nil)), ?_⟩
    refine ⟨_, rfl, v, ds, cs, rfl, hd, hh, hl, fun H1 S1 => ⟨_, _, rfl, rfl, _, rfl, ite2 (fun hgt => ?_) (fun hgt => ?_)⟩⟩
    · have hgt := of_decide_eq_true hgt
      refine ⟨.inl rfl, fun d nd => qe hgt _ d (S1.trans (same1 nd)) upd_same⟩
    · have hgt := of_decide_eq_false (Bool.eq_false_iff.mpr hgt)
      exact q (by omega) H1 S1
/-- a zone as it is given -/
def znJ : J → Zn
  | .tup [.int c, .list o, .list t] => ⟨c, o.map jInt, t.map jInt⟩
  | _ => ⟨0, [], []⟩
theorem ascJ_list {j : J} {lo hi : Int} (h : ascJ j lo hi = true) : ∃ js, j = .list js ∧ js.length ≤ 6 ∧ js.all (within · lo hi) = true ∧ ascL (js.map jInt) = true := by
  cases j with
  | list js =>
    have e : (decide (js.length ≤ 6) && (js.all (within · lo hi) && ascL (js.map jInt))) = true := h
    rw [Bool.and_eq_true, Bool.and_eq_true] at e
    exact ⟨js, rfl, of_decide_eq_true e.1, e.2.1, e.2.2⟩
  | int i => cases h
  | odd => cases h
  | tup l => cases h
theorem zoneJ_parts {j : J} {b : Int} (h : zoneJ j b = true) : ∃ (c : Int) (o t : List J), j = .tup [.int c, .list o, .list t] ∧ 1 ≤ c ∧ c ≤ 1000000000000000000000000000000 ∧ ascJ (.list o) 1 16 = true ∧ ascJ (.list t) 0 (b - 1) = true := by
  unfold zoneJ at h
  split at h
  · rename_i c o t
    rw [Bool.and_eq_true, Bool.and_eq_true] at h
    obtain ⟨h1, h2, h3⟩ := h
    obtain ⟨os, rfl, _⟩ := ascJ_list h2
    obtain ⟨ts, rfl, _⟩ := ascJ_list h3
    cases c with
    | int c =>
      have e : (decide (1 ≤ c) && decide (c ≤ 1000000000000000000000000000000)) = true := h1
      rw [Bool.and_eq_true] at e
      exact ⟨c, os, ts, rfl, of_decide_eq_true e.1, of_decide_eq_true e.2, h2, h3⟩
    | odd => cases h1
    | list l => cases h1
    | tup l => cases h1
  · cases h
theorem jr_list_dp {H : Hp} {v : V} {js : List J} {lo hi : Int} (h : Jr K H v (.list js)) (e : js.all (within · lo hi) = true) : Dp K H v (.list ((js.map jInt).map .int)) := by
  cases h with
  | lst s _ ha =>
    have z := jr_ints ha e
    subst z
    exact .lst s (dpAll_ints _)
theorem jr_zone {H : Hp} {v : V} {j : J} {b : Int} (h : Jr K H v j) (e : zoneJ j b = true) : Dp K H v (zdG (znJ j)) := by
  obtain ⟨c, o, t, rfl, _, _, h1, h2⟩ := zoneJ_parts e
  obtain ⟨o', ho', _, o2, _⟩ := ascJ_list h1
  obtain ⟨t', ht', _, t2, _⟩ := ascJ_list h2
  cases ho'
  cases ht'
  cases h with
  | tup s _ ha =>
    cases ha with
    | cons a1 ha =>
    cases ha with
    | cons a2 ha =>
    cases ha with
    | cons a3 ha =>
    cases ha
    cases a1
    exact .tup s (.cons (.int _) (.cons (jr_list_dp a2 o2) (.cons (jr_list_dp a3 t2) .nil)))
theorem jr_zones {H : Hp} {b : Int} : ∀ {vs : List V} {js : List J}, JrAll K H vs js → (∀ j ∈ js, zoneJ j b = true) → DpAll K H vs ((js.map znJ).map zdG)
  | _, [], .nil, _ => .nil
  | _, j :: js, .cons h t, e => .cons (jr_zone h (e j (.head _))) (jr_zones t fun x hx => e x (.tail _ hx))
/-- what is wrong with a list of zones: nothing, or an item, or all of it -/
def badAt (b : Int) : Nat → List J → Option Nat
  | _, [] => none
  | i, j :: js => if zoneJ j b = true then badAt b (i + 1) js else some i
def lenJ (js : List J) : Int := ((js.map znJ).map (·.c)).sum
def badZ (j : J) (b : Int) : Option V := match j with
  | .list js => if 1 ≤ js.length ∧ js.length ≤ 12 then (match badAt b 0 js with
    | some i => some (.int (i : Nat))
    | none => if 1000000000000000000000000000000 < lenJ js then some .non else none) else some .non
  | _ => some .non
theorem badAt_none {b : Int} : ∀ {js : List J} {i : Nat}, badAt b i js = none → ∀ j ∈ js, zoneJ j b = true
  | [], _, _, j, h => by cases h
  | x :: js, i, e, j, h => by
    unfold badAt at e
    split at e
    · rename_i hx
      rcases List.mem_cons.mp h with z | z
      · rw [z]
        exact hx
      · exact badAt_none e j z
    · cases e
theorem badAt_skip {b : Int} : ∀ (js : List J) (n i : Nat), (∀ j ∈ js.take n, zoneJ j b = true) → n ≤ js.length → badAt b i js = badAt b (i + n) (js.drop n)
  | js, 0, i, _, _ => by rw [Nat.add_zero, List.drop_zero]
  | [], n + 1, i, _, h => by simp at h
  | x :: js, n + 1, i, h, hl => by
    have hx := h x (by rw [List.take_succ_cons]; exact .head _)
    show (if zoneJ x b = true then badAt b (i + 1) js else some i) = _
    rw [if_pos hx, badAt_skip js n (i + 1) (fun j hj => h j (by rw [List.take_succ_cons]; exact .tail _ hj)) (by simpa using hl)]
    rw [List.drop_succ_cons, show i + 1 + n = i + (n + 1) by omega]
def spCheckZones (K : PySem.W.Frag) (CZ : Addr) : Sp := fun vs H Q E => ∃ v j b, vs = [v, .int b] ∧ Jr K H v j ∧ (badZ j b = none → ∀ H', Same H H' → Q .non H') ∧ (∀ it, badZ j b = some it → Err CZ "item" it H E)
theorem ok_check_zones {f CZ : Addr} {fd : FuncData} (F : Fun K "check_zones" "check_zones" s_check_zones f fd) (bt : Bt mg bn) (g_MOST_ZONES : GInt mg "MOST_ZONES" 12)
    (X_InvalidZones : DErrF P K mg "InvalidZones" "item" CZ) (D_is_zone : Def P w K mg base CX0 4 "is_zone" ["value", "borders"] (spZone K)) (D_check_length : Def P w K mg base (L2.CX P w) 2 "check_length" ["zones"] (spCheckLen K CZ)) :
    FnOk P w K mg base (L2.CX P w) 5 f fd ["value", "borders"] (spCheckZones K CZ) := by
  refine F.okX sc_check_zones (fun vs H Q E h => ?_) (fun cdv A outer s H vs Q E hr h => ?_)
  · obtain ⟨v, j, b, rfl, _⟩ := h
    rfl
  · obtain ⟨v, j, b, rfl, hj, q, qe⟩ := h
    obtain ⟨t, _, _, hty, _, _, k3, _, _⟩ := hj.kind
    refine ⟨_, (pss_cons (ps_if (PW.pt (pw_or (pt_not (pt_val (pe_callB (r := rIsi K) call_isi (by rfl) (bt "isinstance" (by decide)) PyProof.Rows.boot_isinstance (pa_cons (pv 0) (pa_cons (pe_bltn (v := .ty "list") (by rfl) (bt "list" (by decide)) PyProof.Rows.boot_list rfl) pa_nil))))) (pw_or1 (pt_not (pt_chain op_le op_le pe_int (pe_callB call_len_seq (by rfl) (bt "len" (by decide)) PySem.boot_len (pa_cons (pv 0) pa_nil)) (pe_globI (n := (12)) g_MOST_ZONES))))))
        (pss_one (ps_raise rfl (takes_of rfl rfl rfl rfl) (pmk_fldD X_InvalidZones hr pe_non)))
        pss_nil)
      (pss_cons (ps_for (passes_of rfl) rfl (pi_enum (by rfl) (bt "enumerate" (by decide)) (pa_cons (pv 0) pa_nil)) (pg_tup rfl (pgs_cons (pg_name (i := 2) sc_check_zones.nd rfl (.inl rfl)) (pgs_cons (pg_name (i := 3) sc_check_zones.nd rfl (.inl rfl)) pgs_nil)))
        (pss_one (ps_if (pt_not (pt_val (pe_callD D_is_zone hr (by decide) pass0 (pa_cons (pv 3) (pa_cons (pv 1) pa_nil)))))
          (pss_one (ps_raise rfl (takes_of rfl rfl rfl rfl) (pmk_fldD X_InvalidZones hr (pv 2))))
          pss_nil)))
      (pss_one (ps_expr (pe_callD D_check_length hr (by decide) (passes_call (takes_of rfl rfl rfl rfl) (fun _ _ _ _ h => h)) (pa_cons (pv 0) pa_nil)))))), ?_⟩
    refine ⟨_, rfl, v, .ty "list", t, .type "list", _, rfl, .ty _, hty, k3, _, rfl, ?_⟩
    cases j with
    | int i => exact iteT ⟨.inl rfl, fun d nd => qe _ rfl _ d (same1 nd) upd_same⟩
    | odd => exact iteT ⟨.inl rfl, fun d nd => qe _ rfl _ d (same1 nd) upd_same⟩
    | tup l => exact iteT ⟨.inl rfl, fun d nd => qe _ rfl _ d (same1 nd) upd_same⟩
    | list js =>
      cases hj with
      | @lst a vs _ hs ty ha =>
      have hl := jrAll_len ha
      refine iteF ⟨_, rfl, a, _, rfl, .inl hs, _, _, rfl, rfl, ?_⟩
      rw [hl]
      by_cases h1 : 1 ≤ js.length
      · by_cases h2 : js.length ≤ 12
        · have n1 : decide ((1 : Int) ≤ (js.length : Int)) = true := decide_eq_true (by omega)
          have n2 : decide ((js.length : Int) ≤ 12) = true := decide_eq_true (by omega)
          refine ⟨_, rfl, ?_⟩
          rw [n1]
          refine iteT ⟨_, _, rfl, rfl, _, rfl, ?_⟩
          rw [n2]
          have hb : badZ (.list js) b = (match badAt b 0 js with
            | some i => some (.int (i : Nat))
            | none => if 1000000000000000000000000000000 < lenJ js then some .non else none) := if_pos ⟨h1, h2⟩
          rw [hb] at q qe
          refine iteF ⟨_, rfl, a, _, rfl, hs, for_it (walk_enum (K := K) (a := a) (xs := vs)) (fun i σ H' => ∃ y2 y3, σ = [some (.ref a), some (.int b), y2, y3] ∧ Same H H' ∧ ∀ j ∈ js.take i, zoneJ j b = true)
            ⟨none, none, rfl, fun _ _ h => h, fun j hj => by cases hj⟩ (fun i σ H' _ ⟨_, _, _, S, _⟩ => S.seq hs) ?_ ?_⟩
          · rintro i x σ H1 H2 hi ⟨y2, y3, rfl, S, hall⟩ ⟨T, x1, y1, rfl, nT, rfl, e1, e2⟩
            cases e1
            obtain ⟨jj, hjj, hx⟩ := jrAll_getV ha e2
            have ST : Same H1 (upd H1 T (.tup [V.int (i : Nat), y1])) := same1 nT
            have hT : (upd H1 T (.tup [V.int (i : Nat), y1])) T = some (.tup [V.int (i : Nat), y1]) := upd_same
            generalize upd H1 T (.tup [V.int (i : Nat), y1]) = H2 at ST hT ⊢
            refine ⟨T, _, rfl, .inl (.inl hT), rfl, _, _, rfl, _, _, rfl, rfl, ?_⟩
            refine ⟨_, rfl, _, rfl, y1, jj, b, rfl, jr_same (S.trans ST) _ hx, fun H3 S3 => ⟨_, rfl, ?_⟩⟩
            cases hz : zoneJ jj b with
            | false =>
              have hbad : badAt b 0 js = some i := by
                have hi' : i < js.length := by omega
                rw [badAt_skip js i 0 hall (by omega), List.drop_eq_getElem_cons hi']
                rw [List.getElem?_eq_getElem hi'] at hjj
                rw [Option.some.inj hjj]
                unfold badAt
                rw [hz, Nat.zero_add]
                rfl
              refine iteT ⟨_, rfl, .inr ⟨_, rfl, ?_⟩, fun d nd => qe (.int (i : Nat)) ?_ _ d (((S.trans ST).trans S3).trans (same1 nd)) upd_same⟩
              · rw [Int.natAbs_natCast]
                have : i < 2 ^ 1920 := Nat.lt_of_lt_of_le (show i < 2 ^ 4 by omega) (Nat.pow_le_pow_right (by decide) (by decide))
                exact Nat.lt_of_le_of_lt (Nat.log2_le_self i) (by omega)
              · rw [hbad]
            | true =>
              refine iteF ⟨_, _, rfl, (S.trans ST).trans S3, fun j hj => ?_⟩
              rw [take_snoc hjj] at hj
              rcases List.mem_append.mp hj with m | m
              · exact hall j m
              · rw [List.mem_singleton] at m
                rw [m]
                exact hz
          · rintro σ H1 ⟨y2, y3, rfl, S, hall⟩
            rw [hl, List.take_length] at hall
            have hbad : badAt b 0 js = none := by
              rw [badAt_skip js js.length 0 (by rw [List.take_length]; exact hall) (Nat.le_refl _), List.drop_length]
              rfl
            rw [hbad] at q qe
            have hdp : Dp K H (.ref a) (.list ((js.map znJ).map zdG)) := .lst hs (jr_zones ha hall)
            refine ⟨_, rfl, .ref a, _, _, rfl, dp_same S _ hdp, heads_G _, by rw [List.length_map, List.length_map]; omega, fun hle H2 S2 => q ?_ H2 (S.trans S2), fun hgt H2 d S2 e2 => qe .non ?_ H2 d (S.trans S2) e2⟩
            · have : ¬ (1000000000000000000000000000000 < lenJ js) := by
                unfold lenJ
                omega
              exact if_neg this
            · exact if_pos hgt
        · have hb : badZ (.list js) b = some .non := if_neg (fun z => h2 z.2)
          have n1 : decide ((1 : Int) ≤ (js.length : Int)) = true := decide_eq_true (by omega)
          have n2 : decide ((js.length : Int) ≤ 12) = false := decide_eq_false (by omega)
          refine ⟨_, rfl, ?_⟩
          rw [n1]
          refine iteT ⟨_, _, rfl, rfl, _, rfl, ?_⟩
          rw [n2]
          exact iteT ⟨.inl rfl, fun d nd => qe _ hb _ d (same1 nd) upd_same⟩
      · have hb : badZ (.list js) b = some .non := if_neg (fun z => h1 z.1)
        have n1 : decide ((1 : Int) ≤ (js.length : Int)) = false := decide_eq_false (by omega)
        refine ⟨_, rfl, ?_⟩
        rw [n1]
        exact iteF ⟨_, rfl, iteT ⟨.inl rfl, fun d nd => qe _ hb _ d (same1 nd) upd_same⟩⟩
end
end Fb
namespace Fb
open PySem PySem.Spec PyProof.Rows L2
section
variable {P : Program} {w : World} {K : PySem.W.Frag} {mg : Str → Option Value} {base : Heap}
theorem sc_System_init : FnScope nm_System_init ["self", "borders", "zones"] (defScope s_System_init) := ⟨rfl, rfl, rfl, by decide +kernel, rfl, by decide +kernel, by decide +kernel⟩
/-- the zones that are given -/
def zsJ : J → List Zn
  | .list js => js.map znJ
  | _ => []
theorem badZ_none {j : J} {b : Int} (h : badZ j b = none) : ∃ js, j = .list js ∧ 1 ≤ js.length ∧ js.length ≤ 12 ∧ (∀ x ∈ js, zoneJ x b = true) ∧ lenJ js ≤ 1000000000000000000000000000000 := by
  cases j with
  | list js =>
    by_cases h1 : 1 ≤ js.length ∧ js.length ≤ 12
    · have e1 : badZ (.list js) b = (match badAt b 0 js with
        | some i => some (.int (i : Nat))
        | none => if 1000000000000000000000000000000 < lenJ js then some .non else none) := if_pos h1
      rw [e1] at h
      cases e : badAt b 0 js with
      | some i => rw [e] at h; cases h
      | none =>
        rw [e] at h
        by_cases h2 : 1000000000000000000000000000000 < lenJ js
        · have h' : (if 1000000000000000000000000000000 < lenJ js then some V.non else none) = none := h
          rw [if_pos h2] at h'
          cases h'
        · exact ⟨js, rfl, h1.1, h1.2, badAt_none e, by omega⟩
    · have e1 : badZ (.list js) b = some .non := if_neg h1
      rw [e1] at h
      cases h
  | int i => cases h
  | odd => cases h
  | tup l => cases h
theorem within_ints {js : List J} {lo hi : Int} (h : js.all (within · lo hi) = true) : ∀ x ∈ js.map jInt, lo ≤ x ∧ x ≤ hi := by
  intro x hx
  obtain ⟨j, hj, rfl⟩ := List.mem_map.mp hx
  have e := List.all_eq_true.mp h j hj
  cases j with
  | int i =>
    have e' : (decide (lo ≤ i) && decide (i ≤ hi)) = true := e
    rw [Bool.and_eq_true] at e'
    exact ⟨of_decide_eq_true e'.1, of_decide_eq_true e'.2⟩
  | odd => cases e
  | list l => cases e
  | tup l => cases e
theorem ascL_pw : ∀ l : List Int, ascL l = true → l.Pairwise (· < ·)
  | [], _ => .nil
  | [a], _ => List.pairwise_singleton _ _
  | a :: b :: r, h => by
    have e : (decide (a < b) && ascL (b :: r)) = true := h
    rw [Bool.and_eq_true] at e
    have h1 := of_decide_eq_true e.1
    have h2 := ascL_pw (b :: r) e.2
    rw [List.pairwise_cons]
    refine ⟨fun x hx => ?_, h2⟩
    rcases List.mem_cons.mp hx with z | z
    · rw [z]
      exact h1
    · rw [List.pairwise_cons] at h2
      have := h2.1 x z
      omega
theorem zok_of {js : List J} {b : Nat} (hb : b ≤ 6) (hl : js.length ≤ 12) (h : ∀ x ∈ js, zoneJ x (b : Int) = true) : ZOk b (js.map znJ) := by
  have parts : ∀ z ∈ js.map znJ, ∃ (c : Int) (o t : List J), z = ⟨c, o.map jInt, t.map jInt⟩ ∧ 1 ≤ c ∧ ascJ (.list o) 1 16 = true ∧ ascJ (.list t) 0 ((b : Int) - 1) = true := by
    intro z hz
    obtain ⟨j, hj, rfl⟩ := List.mem_map.mp hz
    obtain ⟨c, o, t, rfl, h1, _, h2, h3⟩ := zoneJ_parts (h j hj)
    exact ⟨c, o, t, rfl, h1, h2, h3⟩
  refine ⟨?_, ?_, ?_, ?_, hb, ?_, ?_⟩
  · rw [List.length_map]
    omega
  · intro z hz
    obtain ⟨c, o, t, rfl, h1, _, _⟩ := parts z hz
    exact h1
  · intro z hz
    obtain ⟨c, o, t, rfl, _, h2, _⟩ := parts z hz
    obtain ⟨o', e, _, h4, _⟩ := ascJ_list h2
    cases e
    exact within_ints h4
  · intro z hz x hx
    obtain ⟨c, o, t, rfl, _, _, h3⟩ := parts z hz
    obtain ⟨t', e, _, h4, _⟩ := ascJ_list h3
    cases e
    have := within_ints h4 x hx
    omega
  · intro z hz
    obtain ⟨c, o, t, rfl, _, h2, _⟩ := parts z hz
    obtain ⟨o', e, _, _, h4⟩ := ascJ_list h2
    cases e
    exact ascL_pw _ h4
  · intro z hz
    obtain ⟨c, o, t, rfl, _, _, h3⟩ := parts z hz
    obtain ⟨t', e, _, _, h4⟩ := ascJ_list h3
    cases e
    exact ascL_pw _ h4
/-- no list of B stands in S -/
def Apart (B S : Hp) : Prop := ∀ a xs, B a = some (.lst xs) → S a = none
def spSysInit (K : PySem.W.Frag) (C : Cs) (CB CZ : Addr) : Sp := fun vs H Q E => ∃ (x dx : Addr) (bv zv : V) (jb jz : J) (B : Hp), vs = [.ref x, bv, zv] ∧ Own B [(x, .ins C.sys dx [])] H ∧ Jr K B bv jb ∧ Jr K B zv jz ∧
  (within jb 0 6 = false → ∀ H', Same H H' → E (.ref CB) none H') ∧ ∀ b : Nat, jb = .int (b : Int) → b ≤ 6 → (∀ it, badZ jz b = some it → Err CZ "item" it H E) ∧
    (badZ jz b = none → ∀ H' S, Same B H' → Same S H' → Apart B S → SysR K C S x b (zsJ jz) → Q .non H')
open Classical in
/-- H without the lists that N has not -/
noncomputable def cutL (N H : Hp) : Hp := fun a => match H a with
  | some (.lst xs) => if N a = none then none else some (.lst xs)
  | o => o
theorem cutL_some {N H : Hp} {a : Addr} {o : HO} (h : cutL N H a = some o) : H a = some o := by
  unfold cutL at h
  split at h
  · rename_i xs e
    split at h
    · cases h
    · rw [e]; exact h
  · exact h
theorem cutL_list {N H : Hp} {a : Addr} {xs : List V} (h : H a = some (.lst xs)) (n : N a = none) : cutL N H a = none := by
  unfold cutL
  rw [h]
  exact if_pos n
theorem cutL_in {N H : Hp} {a : Addr} {o : HO} (S : Same N H) (h : N a = some o) : cutL N H a = some o := by
  have h' := S _ _ h
  unfold cutL
  rw [h']
  split
  · rename_i xs e
    rw [if_neg (by rw [h]; exact fun z => nomatch z)]
    exact e.symm ▸ rfl
  · rfl
theorem cutL_other {N H : Hp} {a : Addr} {o : HO} (h : H a = some o) (hn : ∀ xs, o ≠ .lst xs) : cutL N H a = some o := by
  unfold cutL
  rw [h]
  split
  · rename_i xs e
    exact absurd (Option.some.inj e) (hn xs)
  · rfl
theorem cutL_drops (N H : Hp) : Drops (cutL N H) H := ⟨fun a o e => cutL_some e, fun a o e z => by
  cases o with
  | lst xs => exact ⟨xs, rfl⟩
  | _ => rw [cutL_other e (fun _ q => by cases q)] at z; cases z⟩
theorem ok_System_init {f CB CZ : Addr} {C : Cs} {fd : FuncData} (F : Fun K "__init__" "System.__init__" s_System_init f fd) (bt : Bt mg bn) (g_MOST_BORDERS : GInt mg "MOST_BORDERS" 6)
    (X_InvalidBorders : DErrM K mg "InvalidBorders" CB) (D_is_within : Def P w K mg base CX0 2 "is_within" ["value", "low", "high"] (spWithin K))
    (D_check_zones : Def P w K mg base (L2.CX P w) 5 "check_zones" ["value", "borders"] (spCheckZones K CZ)) (D_kept_zones : Def P w K mg base CX0 1 "kept_zones" ["zones"] (spKept K))
    (M_take : DMeth P w K mg base CX0 9 C.sys "_take" ["self", "borders", "zones"] (spTake K C)) :
    FnOk P w K mg base (L2.CX P w) 10 f fd ["self", "borders", "zones"] (spSysInit K C CB CZ) := by
  have M_take := M_take.frame
  refine F.okX sc_System_init (fun vs H Q E h => ?_) (fun cdv A outer s H vs Q E hr h => ?_)
  · obtain ⟨x, dx, bv, zv, jb, jz, B, rfl, _⟩ := h
    rfl
  · obtain ⟨x, dx, bv, zv, jb, jz, B, rfl, W, hb, hzB, qb, q⟩ := h
    have hb := jr_same W.s _ hb
    have hz := jr_same W.s _ hzB
    refine ⟨_, (pss_cons (ps_if (pt_not (pt_val (pe_callD D_is_within hr (by decide) pass0 (pa_cons (pv 1) (pa_cons pe_int (pa_cons (pe_globI (n := (6)) g_MOST_BORDERS) pa_nil))))))
        (pss_one (ps_raise rfl (takes_of rfl rfl rfl rfl) (pmk_msgD X_InvalidBorders (pe_joined (.cons pe_str (.cons (pe_fmt (pe_globI (n := (6)) g_MOST_BORDERS)) .nil))))))
        pss_nil)
      (pss_cons (ps_expr (pe_callD D_check_zones hr (by decide) (passes_call (takes_of rfl rfl rfl rfl) (fun _ _ _ _ h => h)) (pa_cons (pv 2) (pa_cons (pv 1) pa_nil))))
      (pss_one (ps_expr (pe_methD M_take hr (by decide) pass0 (pv 0) (pa_cons (pv 1) (pa_cons (pe_callD D_kept_zones hr (by decide) pass0 (pa_cons (pv 2) pa_nil)) pa_nil))))))), ?_⟩
    refine ⟨_, rfl, bv, jb, 0, 6, rfl, hb, _, rfl, ?_⟩
    cases hw : within jb 0 6 with
    | false =>
      have big : 1000 ≤ sizeLine := by rw [sizeLine_eq]; decide
      refine iteT ⟨_, rfl, Nat.le_trans (show _ ≤ 1000 from by decide +kernel) big, .inr ⟨6, rfl, by decide, _, rfl, Nat.le_trans (show _ ≤ 1000 from by decide +kernel) big, qb hw H fun _ _ h => h⟩⟩
    | true =>
      obtain ⟨b, rfl, hb6⟩ : ∃ b : Nat, jb = .int (b : Int) ∧ b ≤ 6 := by
        cases jb with
        | int i =>
          have e : (decide (0 ≤ i) && decide (i ≤ 6)) = true := hw
          rw [Bool.and_eq_true] at e
          have h1 := of_decide_eq_true e.1
          have h2 := of_decide_eq_true e.2
          exact ⟨i.toNat, by rw [Int.toNat_of_nonneg h1], by omega⟩
        | odd => cases hw
        | list l => cases hw
        | tup l => cases hw
      cases hb
      obtain ⟨qz, qn⟩ := q b rfl hb6
      refine iteF ⟨_, rfl, _, rfl, zv, jz, b, rfl, hz, fun hbad H1 S1 => ?_, qz⟩
      obtain ⟨js, rfl, hl1, hl2, hok, hbig⟩ := badZ_none hbad
      have zk := zok_of hb6 hl2 hok
      have hdp : Dp K H zv (.list ((js.map znJ).map zdG)) := by
        cases hz with
        | lst s _ ha => exact .lst s (jr_zones ha hok)
      have W1 := W.mono S1
      refine ⟨_, rfl, x, dx, _, rfl, W1.g0, rfl, _, rfl, _, rfl, zv, js.map znJ, rfl, dp_same S1 _ hdp, by rw [List.length_map]; omega, fun H2 kv N S2 SN dN hkv => ?_⟩
      have W2 := W1.mono S2
      have hne : js.map znJ ≠ [] := fun e => by
        have := congrArg List.length e
        rw [List.length_map] at this
        have h0 : ([] : List Zn).length = 0 := rfl
        omega
      have nx : N x = none := by
        cases e : N x with
        | none => rfl
        | some o => have := dN _ _ e; rw [W1.g0] at this; cases this
      -- what _take sees: no list but the kept zones
      obtain ⟨B0, hB0⟩ : ∃ B0 : Hp, B0 = fun a => if a = x then none else cutL N H2 a := ⟨_, rfl⟩
      have W3 : Own B0 [(x, .ins C.sys dx [])] (cutL N H2) := by
        refine ⟨fun a o e => ?_, fun c hc => ?_, fun c hc => ?_, by simp⟩
        · rw [hB0] at e
          by_cases h : a = x
          · simp only [if_pos h] at e; cases e
          · simp only [if_neg h] at e; exact e
        · rw [List.mem_singleton.mp hc]
          exact cutL_other W2.g0 fun xs z => by cases z
        · rw [List.mem_singleton.mp hc, hB0]
          exact if_pos rfl
      have SNB : Same N B0 := fun a o e => by
        have h : a ≠ x := fun z => by rw [z, nx] at e; cases e
        rw [hB0]
        show (if a = x then none else cutL N H2 a) = some o
        rw [if_neg h]
        exact cutL_in SN e
      refine ⟨cutL N H2, cutL_drops N H2, x, dx, _, b, kv, js.map znJ, B0, [], rfl, W3, NS.nil, .inl rfl, dp_same SNB _ hkv, zk, by rw [List.length_map]; omega, hne, hbig, fun H3 H4 S3 W4 R hdrop => ?_⟩
      have SB : Same B (back H2 (cutL N H2) H4) := fun a o e => by
        have e2 := W2.s _ _ e
        have hax : a ≠ x := fun z => by
          have := W.n (x, .ins C.sys dx []) (List.mem_singleton.mpr rfl)
          rw [z, this] at e
          cases e
        cases e0 : cutL N H2 a with
        | none => exact back_old e2 e0 (hdrop a o e2 e0)
        | some u =>
          have hu : u = o := by
            have := cutL_some e0
            rw [e2] at this
            exact (Option.some.inj this).symm
          subst hu
          have eB : B0 a = some u := by
            rw [hB0]
            show (if a = x then none else cutL N H2 a) = some u
            rw [if_neg hax]
            exact e0
          exact back_same _ _ (W4.s _ _ (S3 _ _ eB))
      refine qn hbad _ H4 SB back_same (fun a xs e => ?_) (R.same W4.s)
      have e2 := W2.s _ _ e
      have nN : N a = none := by
        cases z : N a with
        | none => rfl
        | some o => have := dN _ _ z; rw [W1.s _ _ e] at this; cases this
      exact hdrop a _ e2 (cutL_list e2 nN)
end
end Fb
namespace Fb
open PySem PySem.Spec PyProof.Rows L2
structure ErrT (K : PySem.W.Frag) (mg : Str → Option Value) (E : Nat → Addr) : Prop where
  g : ∀ i, i < 17 → mg (nm i) = some (.ref (E i))
  ex : ∀ i, i < 17 → ExcC K (E i)
  kit : ∀ i j, i < 17 → j < 17 → PySem.W.kitOne K (.ref (E i)) (.ref (E j)) = some (decide (i = j))
  kitV : ∀ i, i < 17 → PySem.W.kitOne K (.ref (E i)) (.type "ValueError") = some true
  nf : ∀ i, i < 5 → PySem.W.findIn K (.ref (E i)) (fl i) = some none
theorem isT_same {H H' : Hp} {a D : Addr} (S : Same H H') (h : IsT H a D) : IsT H' a D := by
  rcases h with h | ⟨d, fs, h, g⟩
  · exact .inl (S _ _ h)
  · exact .inr ⟨d, fs, S _ _ h, S _ _ g⟩
def rowD (i k : Nat) : PyData := .tuple [.str (nm k), .bool (decide (i = k))]
/-- what is told of an error's field -/
def FdOk (d : PyData) : Prop := d = .none ∨ ∃ n : Int, d = .int n ∧ n.natAbs.log2 < 1920
theorem FdOk.len {d : PyData} (h : FdOk d) : d.shown.length ≤ 2000 := by
  rcases h with rfl | ⟨n, rfl, h⟩
  · decide +kernel
  · have := PyProof.Rows.int_text_len_1921 h
    show (PySem.Str.ofString (toString n)).length ≤ 2000
    omega
theorem FdOk.rep {K : PySem.W.Frag} {H : Hp} {v : V} {d : PyData} (h : FdOk d) (hv : Dp K H v d) : SeqAt.shaped d = true ∧ d.showable = true := by
  rcases h with rfl | ⟨n, rfl, h⟩
  · exact ⟨rfl, rfl⟩
  · exact ⟨rfl, decide_eq_true h⟩
/-- an error of class i stands at a, with what its field has -/
structure ErrA (K : PySem.W.Frag) (E : Nat → Addr) (H : Hp) (a : Addr) (i : Nat) (d : PyData) : Prop where
  hi : i < 17
  at_ : IsT H a (E i)
  fd : i < 5 → ∃ dd v, H a = some (ExT (.ref (E i)) (some dd) a) ∧ H dd = some (.xd [(fl i, v)]) ∧ Dp K H v d ∧ FdOk d
theorem ErrA.same {K : PySem.W.Frag} {E : Nat → Addr} {H H' : Hp} {a : Addr} {i : Nat} {d : PyData} (h : ErrA K E H a i d) (S : Same H H') : ErrA K E H' a i d :=
  ⟨h.hi, isT_same S h.at_, fun h5 => by
    obtain ⟨dd, v, h1, h2, h3, h4⟩ := h.fd h5
    exact ⟨dd, v, S _ _ h1, S _ _ h2, dp_same S _ h3, h4⟩⟩
/-- the base of the seventeen -/
structure ErrF (K : PySem.W.Frag) (mg : Str → Option Value) (E : Nat → Addr) (CF : Addr) : Prop where
  g : mg "FillError" = some (.ref CF)
  exm : ∀ i, i < 17 → PySem.W.exmOne K (.ref (E i)) (.ref CF) = some true
end Fb
namespace Fb
open PySem PySem.Spec PyProof.Rows L2
/-! ### zones that are drawn -/
theorem num_log {i : Int} (h : i.natAbs < 10 ^ 31) : i.natAbs.log2 < 1920 := by
  have h1 : i.natAbs < 2 ^ 104 := Nat.lt_trans h (by decide)
  exact Nat.lt_of_lt_of_le (PySem.Flt.log2_lt_of (by decide) h1) (by decide)
theorem big2 {n : Nat} (h : n ≤ 10000000) : n ≤ sizeLine := Nat.le_of_lt (big h)
def bagO (d c t : Int) : HO := .lst [.int d, .int c, .int t]
def lessP (l : List Int) : Prop := l.Pairwise (· < ·)
/-- a zone that System takes -/
structure ZnOk (b : Nat) (m : Int) (z : Zn) : Prop where
  c1 : 1 ≤ z.c
  c2 : z.c ≤ m
  o : ∀ x ∈ z.o, 1 ≤ x ∧ x ≤ 16
  t : ∀ x ∈ z.t, 0 ≤ x ∧ x < (b : Int)
  oa : z.o.Pairwise (· < ·)
  ta : z.t.Pairwise (· < ·)
  ol : z.o.length ≤ 6
  tl : z.t.length ≤ 6
theorem toJ_ints (l : List Int) : toJs (l.map .int) = l.map J.int := by
  rw [toJs_map, List.map_map]
  rfl
theorem jInt_ints (l : List Int) : (l.map J.int).map jInt = l := by
  rw [List.map_map]
  exact List.map_id l
theorem ascL_of : ∀ l : List Int, l.Pairwise (· < ·) → ascL l = true
  | [], _ => rfl
  | [_], _ => rfl
  | a :: b :: r, h => by
    rw [List.pairwise_cons] at h
    show (decide (a < b) && ascL (b :: r)) = true
    rw [ascL_of (b :: r) h.2, decide_eq_true (h.1 b (.head _))]
    rfl
theorem ascJ_of {l : List Int} {lo hi : Int} (h : l.Pairwise (· < ·)) (hb : ∀ x ∈ l, lo ≤ x ∧ x ≤ hi) (hl : l.length ≤ 6) : ascJ (.list (l.map J.int)) lo hi = true := by
  show (decide ((l.map J.int).length ≤ 6) && ((l.map J.int).all (within · lo hi) && ascL ((l.map J.int).map jInt))) = true
  rw [jInt_ints, ascL_of l h, List.length_map, decide_eq_true hl, Bool.true_and, Bool.and_true, List.all_eq_true]
  intro j hj
  obtain ⟨x, hx, rfl⟩ := List.mem_map.mp hj
  show (decide (lo ≤ x) && decide (x ≤ hi)) = true
  rw [decide_eq_true (hb x hx).1, decide_eq_true (hb x hx).2]
  rfl
theorem toJ_zone (z : Zn) : toJ (zdG z) = .tup [.int z.c, .list (z.o.map J.int), .list (z.t.map J.int)] := by
  show J.tup [.int z.c, .list (toJs (z.o.map .int)), .list (toJs (z.t.map .int))] = _
  rw [toJ_ints, toJ_ints]
theorem zoneJ_of {b : Nat} {m : Int} {z : Zn} (h : ZnOk b m z) (hm : m ≤ 1000000000000000000000000000000) : zoneJ (toJ (zdG z)) (b : Int) = true := by
  rw [toJ_zone]
  show (within (.int z.c) 1 1000000000000000000000000000000 && (ascJ (.list (z.o.map J.int)) 1 16 && ascJ (.list (z.t.map J.int)) 0 ((b : Int) - 1))) = true
  rw [ascJ_of h.oa h.o h.ol, ascJ_of h.ta (fun x hx => by have := h.t x hx; omega) h.tl]
  show ((decide (1 ≤ z.c) && decide (z.c ≤ 1000000000000000000000000000000)) && true) = true
  have := h.c2
  rw [decide_eq_true h.c1, decide_eq_true (show z.c ≤ 1000000000000000000000000000000 by omega)]
  rfl
theorem znJ_of (z : Zn) : znJ (toJ (zdG z)) = z := by
  rw [toJ_zone]
  show (⟨z.c, (z.o.map J.int).map jInt, (z.t.map J.int).map jInt⟩ : Zn) = z
  rw [jInt_ints, jInt_ints]
/-- the zones as values -/
def zJ (zs : List Zn) : J := toJ (.list (zs.map zdG))
theorem zJ_eq (zs : List Zn) : zJ zs = .list (zs.map fun z => toJ (zdG z)) := by
  show J.list (toJs (zs.map zdG)) = _
  rw [toJs_map, List.map_map]
  rfl
theorem zsJ_of (zs : List Zn) : zsJ (zJ zs) = zs := by
  rw [zJ_eq]
  show (zs.map fun z => toJ (zdG z)).map znJ = zs
  rw [List.map_map]
  have e : (znJ ∘ fun z => toJ (zdG z)) = id := funext znJ_of
  rw [e, List.map_id]
theorem badAt_ok {b : Int} : ∀ {js : List J} {i : Nat}, (∀ j ∈ js, zoneJ j b = true) → badAt b i js = none
  | [], _, _ => rfl
  | j :: js, i, h => by
    unfold badAt
    rw [if_pos (h j (.head _))]
    exact badAt_ok fun x hx => h x (.tail _ hx)
theorem badZ_ok {b : Nat} {m : Int} {zs : List Zn} (h : ∀ z ∈ zs, ZnOk b m z) (hm : m ≤ 1000000000000000000000000000000) (h1 : 1 ≤ zs.length) (h2 : zs.length ≤ 12) (hl : len zs ≤ 1000000000000000000000000000000) : badZ (zJ zs) (b : Int) = none := by
  rw [zJ_eq]
  have e1 : badZ (.list (zs.map fun z => toJ (zdG z))) (b : Int) = (match badAt (b : Int) 0 (zs.map fun z => toJ (zdG z)) with
    | some i => some (.int (i : Nat))
    | none => if 1000000000000000000000000000000 < lenJ (zs.map fun z => toJ (zdG z)) then some .non else none) := if_pos (by rw [List.length_map]; exact ⟨h1, h2⟩)
  rw [e1, badAt_ok fun j hj => by
    obtain ⟨z, hz, rfl⟩ := List.mem_map.mp hj
    exact zoneJ_of (h z hz) hm]
  have e2 : lenJ (zs.map fun z => toJ (zdG z)) = len zs := by
    have := zsJ_of zs
    rw [zJ_eq] at this
    have t2 : (zs.map fun z => toJ (zdG z)).map znJ = zs := this
    unfold lenJ
    rw [t2]
    rfl
  rw [e2]
  exact if_neg (by omega)
/-! ### systems by their kind -/
/-- whether a value is a system: by its kind -/
structure SysK (K : PySem.W.Frag) (C : Cs) (H : Hp) (v : V) (is : Bool) : Prop where
  ex : ∃ t, TyX K H v t ∧ PySem.W.kitOne K t (.ref C.sys) = some is
/-- kinds of values that are no systems -/
def KindNot (K : PySem.W.Frag) (C : Cs) : Prop := ∀ n ∈ ["NoneType", "int", "bool", "str", "list", "tuple", "dict"], PySem.W.kitOne K (.type n) (.ref C.sys) = some false
/-- the class of systems -/
structure KindSys (K : PySem.W.Frag) (C : Cs) : Prop where
  cl : Cls K C.sys
  ha : PySem.W.findIn K (.ref C.sys) "__class__" = some (some (.builtin "object.__class__"))
  hn : PySem.W.specialIn K (.builtin "object.__class__") "__get__" = some (some (.builtin "getset_descriptor.__get__"))
  htk : PySem.W.takesIn K (.builtin "object.__class__") = some true
  hm : PySem.W.mroIn K C.sys (.type "object") = some true
  kit : PySem.W.kitOne K (.ref C.sys) (.ref C.sys) = some true
section
variable {K : PySem.W.Frag}
theorem KindSys.sysK {C : Cs} {H : Hp} {x : Addr} {b : Nat} {zs : List Zn} (h : KindSys K C) (R : SysR K C H x b zs) : SysK K C H (.ref x) true := by
  obtain ⟨dx, a1, a2, bg, e, g, hx, _⟩ := R.ex
  exact ⟨_, .base (.ins hx h.cl h.ha h.hn h.htk h.hm), h.kit⟩
end
end Fb
namespace Fb
open PySem PySem.Spec PyProof.Rows L2
/-! ### the seventeen classes, by words -/
def kw : Nat → Str
  | 0 => "zones"
  | 1 => "places"
  | 2 => "text"
  | 3 => "large"
  | 4 => "over"
  | 5 => "borders"
  | 6 => "system"
  | 7 => "unknown"
  | 8 => "span"
  | 9 => "number"
  | 10 => "budget"
  | 11 => "unlike"
  | 12 => "bordered"
  | 13 => "not coupled"
  | 14 => "operation"
  | 15 => "nothing"
  | 16 => "command"
  | _ => ""
def kwD (i k : Nat) : PyData := .tuple [.str (kw k), .bool (decide (i = k))]
section
variable {P : Program} {w : World} {K : PySem.W.Frag} {mg : Str → Option Value} {base : Heap} {E : Nat → Addr}
theorem kd_tup {σ : L2.St} {H : Hp} {Q : VK} {a : Addr} {i : Nat} {d : PyData} (k : Nat) (nk : Str) (en : kw k = nk) (T : ErrT K mg E) (hk : k < 17) (h0 : σ[0]? = some (some (.ref a))) (hA : ErrA K E H a i d)
    (q : ∀ t H', Same H H' → Dp K H' (.ref t) (kwD i k) → Q (.ref t) H') : tTup (tCons (tC (.str nk)) (tCons (tCB (rIsT K) (tCons (tVar 0) (tCons (tC (.ref (E k))) tNil))) tNil)) σ H Q := by
  subst en
  exact ⟨_, h0, a, E i, _, _, _, rfl, hA.at_, T.ex i hA.hi, fun u h => h, T.kit i k hA.hi hk, by show 2 ≤ sizeLine; decide, fun t nt => q t _ (same1 nt) (.tup (.inl (.inl upd_same)) (.cons (.str _) (.cons (.bl _) .nil)))⟩
theorem tLst_two {A B : TE} {σ : L2.St} {H : Hp} {Q : VK} (h : A σ H fun x H1 => B σ H1 fun y H2 => 2 ≤ sizeLine ∧ ∀ p, H2 p = none → Q (.ref p) (upd H2 p (.lst [x, y]))) : tLst (tCons A (tCons B tNil)) σ H Q := h
theorem tLst_one {A : TE} {σ : L2.St} {H : Hp} {Q : VK} (h : A σ H fun x H1 => 1 ≤ sizeLine ∧ ∀ p, H1 p = none → Q (.ref p) (upd H1 p (.lst [x]))) : tLst (tCons A tNil) σ H Q := h
theorem kd_two {σ : L2.St} {H : Hp} {Q : VK} {a : Addr} {i : Nat} {d : PyData} (k : Nat) (nk nl : Str) (en : kw k = nk) (el : kw (k + 1) = nl) (T : ErrT K mg E) (hk : k + 1 < 17) (h0 : σ[0]? = some (some (.ref a))) (hA : ErrA K E H a i d)
    (q : ∀ p xs H', Same H H' → H' p = some (.lst xs) → DpAll K H' xs [kwD i k, kwD i (k + 1)] → Q (.ref p) H') :
    tLst (tCons (tTup (tCons (tC (.str nk)) (tCons (tCB (rIsT K) (tCons (tVar 0) (tCons (tC (.ref (E k))) tNil))) tNil))) (tCons (tTup (tCons (tC (.str nl)) (tCons (tCB (rIsT K) (tCons (tVar 0) (tCons (tC (.ref (E (k + 1)))) tNil))) tNil))) tNil)) σ H Q := by
  refine tLst_two (kd_tup k nk en T (by omega) h0 hA fun t1 H1 S1 d1 => kd_tup (k + 1) nl el T hk h0 (hA.same S1) fun t2 H2 S2 d2 => ⟨by decide, fun p np => ?_⟩)
  have S3 : Same H2 (upd H2 p (.lst [.ref t1, .ref t2])) := same1 np
  exact q p _ _ (S1.trans (S2.trans S3)) upd_same (.cons (dp_same (S2.trans S3) _ d1) (.cons (dp_same S3 _ d2) .nil))
theorem kd_one {σ : L2.St} {H : Hp} {Q : VK} {a : Addr} {i : Nat} {d : PyData} (k : Nat) (nk : Str) (en : kw k = nk) (T : ErrT K mg E) (hk : k < 17) (h0 : σ[0]? = some (some (.ref a))) (hA : ErrA K E H a i d)
    (q : ∀ p xs H', Same H H' → H' p = some (.lst xs) → DpAll K H' xs [kwD i k] → Q (.ref p) H') :
    tLst (tCons (tTup (tCons (tC (.str nk)) (tCons (tCB (rIsT K) (tCons (tVar 0) (tCons (tC (.ref (E k))) tNil))) tNil))) tNil) σ H Q := by
  refine tLst_one (kd_tup k nk en T hk h0 hA fun t1 H1 S1 d1 => ⟨by decide, fun p np => ?_⟩)
  have S3 : Same H1 (upd H1 p (.lst [.ref t1])) := same1 np
  exact q p _ _ (S1.trans S3) upd_same (.cons (dp_same S3 _ d1) .nil)
theorem kd_cat {σ : L2.St} {H : Hp} {Q : VK} {tb : TE} {L : Addr} {vs : List V} {ds es : List PyData} (h1 : σ[1]? = some (some (.ref L))) (hL : H L = some (.lst vs)) (hv : DpAll K H vs ds) (hl : ds.length + es.length ≤ 1000)
    (hb : ∀ Q', (∀ p xs H', Same H H' → H' p = some (.lst xs) → DpAll K H' xs es → Q' (.ref p) H') → tb σ H Q')
    (q : ∀ p xs H', Same H H' → H' p = some (.lst xs) → DpAll K H' xs (ds ++ es) → Q (.ref p) H') : tOp (rCatR K) (tVar 1) tb σ H Q := by
  refine ⟨_, h1, hb _ fun p xs H1 S1 hp hx => ?_⟩
  have l1 := dpAll_len hv
  have l2 := dpAll_len hx
  refine ⟨L, p, _, _, rfl, rfl, SqL.of (S1 _ _ hL), SqL.of hp, by rw [l1, l2]; exact big2 (by omega), fun M nM => ?_⟩
  have S2 : Same H1 (upd H1 M (.lst (vs ++ xs))) := same1 nM
  exact q M _ _ (S1.trans S2) upd_same (dpAll_append (dpAll_same (S1.trans S2) _ hv) (dpAll_same S2 _ hx))
theorem asg_go {te : TE} {j : Nat} {r : TS} {D : Ends} {σ : L2.St} {H : Hp} (h : te σ H fun x H1 => gName j x σ H1 (r D)) : tSeq (tAsg te (gName j)) r D σ H := h
theorem ret_go {te : TE} {D : Ends} {σ : L2.St} {H : Hp} (h : te σ H D.rt) : tRet te D σ H := h
theorem sc_law_kinds : FnScope nm_law_kinds ["_law_e"] (defScope s_law_kinds) := ⟨rfl, rfl, rfl, by decide +kernel, rfl, by decide +kernel, by decide +kernel⟩
def spKinds (K : PySem.W.Frag) (E : Nat → Addr) : Sp := fun vs H Q _ => ∃ (a : Addr) (i : Nat) (d : PyData), vs = [.ref a] ∧ ErrA K E H a i d ∧ ∀ H' v, Same H H' → Dp K H' v (.list ((List.range 17).map (kwD i))) → Q v H'
theorem ok_law_kinds {f : Addr} {fd : FuncData} (F : Fun K "_law_kinds" "_law_kinds" s_law_kinds f fd) (bt : Bt mg bn) (T : ErrT K mg E) : FnOk P w K mg base CX0 1 f fd ["_law_e"] (spKinds K E) := by
  refine F.ok sc_law_kinds (fun vs H Q E' h => ?_) (fun cdv A outer s H vs Q E' hr h => ?_)
  · obtain ⟨a, i, d, rfl, _⟩ := h
    rfl
  · obtain ⟨a, i, d, rfl, hA, q⟩ := h
    refine ⟨_, (pss_cons (ps_set (i := 1) sc_law_kinds.nd rfl (.inl rfl) (pe_lst (pa_cons (pe_tup (pa_cons pe_str (pa_cons (pe_callB (r := rIsT K) call_isT1 (by rfl) (bt "isinstance" (by decide)) PyProof.Rows.boot_isinstance (pa_cons (pv 0) (pa_cons (pe_glob (v := .ref (E 0)) (by rfl) (T.g 0 (by decide)) rfl) pa_nil))) pa_nil))) (pa_cons (pe_tup (pa_cons pe_str (pa_cons (pe_callB (r := rIsT K) call_isT1 (by rfl) (bt "isinstance" (by decide)) PyProof.Rows.boot_isinstance (pa_cons (pv 0) (pa_cons (pe_glob (v := .ref (E 1)) (by rfl) (T.g 1 (by decide)) rfl) pa_nil))) pa_nil))) pa_nil))))
      (pss_cons (ps_set (i := 1) sc_law_kinds.nd rfl (.inl rfl) (pe_op op_catR (pv 1) (pe_lst (pa_cons (pe_tup (pa_cons pe_str (pa_cons (pe_callB (r := rIsT K) call_isT1 (by rfl) (bt "isinstance" (by decide)) PyProof.Rows.boot_isinstance (pa_cons (pv 0) (pa_cons (pe_glob (v := .ref (E 2)) (by rfl) (T.g 2 (by decide)) rfl) pa_nil))) pa_nil))) (pa_cons (pe_tup (pa_cons pe_str (pa_cons (pe_callB (r := rIsT K) call_isT1 (by rfl) (bt "isinstance" (by decide)) PyProof.Rows.boot_isinstance (pa_cons (pv 0) (pa_cons (pe_glob (v := .ref (E 3)) (by rfl) (T.g 3 (by decide)) rfl) pa_nil))) pa_nil))) pa_nil)))))
      (pss_cons (ps_set (i := 1) sc_law_kinds.nd rfl (.inl rfl) (pe_op op_catR (pv 1) (pe_lst (pa_cons (pe_tup (pa_cons pe_str (pa_cons (pe_callB (r := rIsT K) call_isT1 (by rfl) (bt "isinstance" (by decide)) PyProof.Rows.boot_isinstance (pa_cons (pv 0) (pa_cons (pe_glob (v := .ref (E 4)) (by rfl) (T.g 4 (by decide)) rfl) pa_nil))) pa_nil))) (pa_cons (pe_tup (pa_cons pe_str (pa_cons (pe_callB (r := rIsT K) call_isT1 (by rfl) (bt "isinstance" (by decide)) PyProof.Rows.boot_isinstance (pa_cons (pv 0) (pa_cons (pe_glob (v := .ref (E 5)) (by rfl) (T.g 5 (by decide)) rfl) pa_nil))) pa_nil))) pa_nil)))))
      (pss_cons (ps_set (i := 1) sc_law_kinds.nd rfl (.inl rfl) (pe_op op_catR (pv 1) (pe_lst (pa_cons (pe_tup (pa_cons pe_str (pa_cons (pe_callB (r := rIsT K) call_isT1 (by rfl) (bt "isinstance" (by decide)) PyProof.Rows.boot_isinstance (pa_cons (pv 0) (pa_cons (pe_glob (v := .ref (E 6)) (by rfl) (T.g 6 (by decide)) rfl) pa_nil))) pa_nil))) (pa_cons (pe_tup (pa_cons pe_str (pa_cons (pe_callB (r := rIsT K) call_isT1 (by rfl) (bt "isinstance" (by decide)) PyProof.Rows.boot_isinstance (pa_cons (pv 0) (pa_cons (pe_glob (v := .ref (E 7)) (by rfl) (T.g 7 (by decide)) rfl) pa_nil))) pa_nil))) pa_nil)))))
      (pss_cons (ps_set (i := 1) sc_law_kinds.nd rfl (.inl rfl) (pe_op op_catR (pv 1) (pe_lst (pa_cons (pe_tup (pa_cons pe_str (pa_cons (pe_callB (r := rIsT K) call_isT1 (by rfl) (bt "isinstance" (by decide)) PyProof.Rows.boot_isinstance (pa_cons (pv 0) (pa_cons (pe_glob (v := .ref (E 8)) (by rfl) (T.g 8 (by decide)) rfl) pa_nil))) pa_nil))) (pa_cons (pe_tup (pa_cons pe_str (pa_cons (pe_callB (r := rIsT K) call_isT1 (by rfl) (bt "isinstance" (by decide)) PyProof.Rows.boot_isinstance (pa_cons (pv 0) (pa_cons (pe_glob (v := .ref (E 9)) (by rfl) (T.g 9 (by decide)) rfl) pa_nil))) pa_nil))) pa_nil)))))
      (pss_cons (ps_set (i := 1) sc_law_kinds.nd rfl (.inl rfl) (pe_op op_catR (pv 1) (pe_lst (pa_cons (pe_tup (pa_cons pe_str (pa_cons (pe_callB (r := rIsT K) call_isT1 (by rfl) (bt "isinstance" (by decide)) PyProof.Rows.boot_isinstance (pa_cons (pv 0) (pa_cons (pe_glob (v := .ref (E 10)) (by rfl) (T.g 10 (by decide)) rfl) pa_nil))) pa_nil))) (pa_cons (pe_tup (pa_cons pe_str (pa_cons (pe_callB (r := rIsT K) call_isT1 (by rfl) (bt "isinstance" (by decide)) PyProof.Rows.boot_isinstance (pa_cons (pv 0) (pa_cons (pe_glob (v := .ref (E 11)) (by rfl) (T.g 11 (by decide)) rfl) pa_nil))) pa_nil))) pa_nil)))))
      (pss_cons (ps_set (i := 1) sc_law_kinds.nd rfl (.inl rfl) (pe_op op_catR (pv 1) (pe_lst (pa_cons (pe_tup (pa_cons pe_str (pa_cons (pe_callB (r := rIsT K) call_isT1 (by rfl) (bt "isinstance" (by decide)) PyProof.Rows.boot_isinstance (pa_cons (pv 0) (pa_cons (pe_glob (v := .ref (E 12)) (by rfl) (T.g 12 (by decide)) rfl) pa_nil))) pa_nil))) (pa_cons (pe_tup (pa_cons pe_str (pa_cons (pe_callB (r := rIsT K) call_isT1 (by rfl) (bt "isinstance" (by decide)) PyProof.Rows.boot_isinstance (pa_cons (pv 0) (pa_cons (pe_glob (v := .ref (E 13)) (by rfl) (T.g 13 (by decide)) rfl) pa_nil))) pa_nil))) pa_nil)))))
      (pss_cons (ps_set (i := 1) sc_law_kinds.nd rfl (.inl rfl) (pe_op op_catR (pv 1) (pe_lst (pa_cons (pe_tup (pa_cons pe_str (pa_cons (pe_callB (r := rIsT K) call_isT1 (by rfl) (bt "isinstance" (by decide)) PyProof.Rows.boot_isinstance (pa_cons (pv 0) (pa_cons (pe_glob (v := .ref (E 14)) (by rfl) (T.g 14 (by decide)) rfl) pa_nil))) pa_nil))) (pa_cons (pe_tup (pa_cons pe_str (pa_cons (pe_callB (r := rIsT K) call_isT1 (by rfl) (bt "isinstance" (by decide)) PyProof.Rows.boot_isinstance (pa_cons (pv 0) (pa_cons (pe_glob (v := .ref (E 15)) (by rfl) (T.g 15 (by decide)) rfl) pa_nil))) pa_nil))) pa_nil)))))
      (pss_one (ps_ret (pe_op op_catR (pv 1) (pe_lst (pa_cons (pe_tup (pa_cons pe_str (pa_cons (pe_callB (r := rIsT K) call_isT1 (by rfl) (bt "isinstance" (by decide)) PyProof.Rows.boot_isinstance (pa_cons (pv 0) (pa_cons (pe_glob (v := .ref (E 16)) (by rfl) (T.g 16 (by decide)) rfl) pa_nil))) pa_nil))) pa_nil))))))))))))), ?_⟩
    show tSeq _ _ _ _ _
    refine asg_go (kd_two 0 _ _ rfl rfl T (by decide) rfl hA fun p0 x0 H0 S0 k0 v0 => ?_)
    have hA0 := hA.same S0
    show tSeq _ _ _ _ _
    refine asg_go (kd_cat (L := p0) rfl k0 v0 (Nat.le_of_ble_eq_true rfl) (fun Q' h => kd_two 2 _ _ rfl rfl T (by decide) rfl hA0 h) fun p1 x1 H1 S1 k1 v1 => ?_)
    have hA1 := hA0.same S1
    have S1 := S0.trans S1
    clear hA0 v0 k0
    show tSeq _ _ _ _ _
    refine asg_go (kd_cat (L := p1) rfl k1 v1 (Nat.le_of_ble_eq_true rfl) (fun Q' h => kd_two 4 _ _ rfl rfl T (by decide) rfl hA1 h) fun p2 x2 H2 S2 k2 v2 => ?_)
    have hA2 := hA1.same S2
    have S2 := S1.trans S2
    clear hA1 v1 k1
    show tSeq _ _ _ _ _
    refine asg_go (kd_cat (L := p2) rfl k2 v2 (Nat.le_of_ble_eq_true rfl) (fun Q' h => kd_two 6 _ _ rfl rfl T (by decide) rfl hA2 h) fun p3 x3 H3 S3 k3 v3 => ?_)
    have hA3 := hA2.same S3
    have S3 := S2.trans S3
    clear hA2 v2 k2
    show tSeq _ _ _ _ _
    refine asg_go (kd_cat (L := p3) rfl k3 v3 (Nat.le_of_ble_eq_true rfl) (fun Q' h => kd_two 8 _ _ rfl rfl T (by decide) rfl hA3 h) fun p4 x4 H4 S4 k4 v4 => ?_)
    have hA4 := hA3.same S4
    have S4 := S3.trans S4
    clear hA3 v3 k3
    show tSeq _ _ _ _ _
    refine asg_go (kd_cat (L := p4) rfl k4 v4 (Nat.le_of_ble_eq_true rfl) (fun Q' h => kd_two 10 _ _ rfl rfl T (by decide) rfl hA4 h) fun p5 x5 H5 S5 k5 v5 => ?_)
    have hA5 := hA4.same S5
    have S5 := S4.trans S5
    clear hA4 v4 k4
    show tSeq _ _ _ _ _
    refine asg_go (kd_cat (L := p5) rfl k5 v5 (Nat.le_of_ble_eq_true rfl) (fun Q' h => kd_two 12 _ _ rfl rfl T (by decide) rfl hA5 h) fun p6 x6 H6 S6 k6 v6 => ?_)
    have hA6 := hA5.same S6
    have S6 := S5.trans S6
    clear hA5 v5 k5
    show tSeq _ _ _ _ _
    refine asg_go (kd_cat (L := p6) rfl k6 v6 (Nat.le_of_ble_eq_true rfl) (fun Q' h => kd_two 14 _ _ rfl rfl T (by decide) rfl hA6 h) fun p7 x7 H7 S7 k7 v7 => ?_)
    have hA7 := hA6.same S7
    have S7 := S6.trans S7
    clear hA6 v6 k6
    refine ret_go ?_
    exact kd_cat (L := p7) rfl k7 v7 (Nat.le_of_ble_eq_true rfl) (fun Q' h => kd_one 16 _ rfl T (by decide) rfl hA7 h) fun p8 x8 H8 S8 k8 v8 => q H8 (.ref p8) (S7.trans S8) (.lst (SqL.of k8) v8)
end
end Fb
namespace Fb
open PySem PySem.Spec PyProof.Rows L2
section
variable {P : Program} {w : World} {K : PySem.W.Frag} {mg : Str → Option Value} {base : Heap}
/-! ### check_unknown -/
theorem sc_check_unknown : FnScope nm_check_unknown ["value", "number"] (defScope s_check_unknown) := ⟨rfl, rfl, rfl, by decide +kernel, rfl, by decide +kernel, by decide +kernel⟩
def spUnknown (K : PySem.W.Frag) (CU : Addr) : Sp := fun vs H Q E => ∃ (v : V) (j : J) (n : Int), vs = [v, .int n] ∧ Jr K H v j ∧ n.natAbs.log2 < 1920 ∧ (within j 0 (n - 1) = true → Q .non H) ∧ (within j 0 (n - 1) = false → ∀ H', Same H H' → E (.ref CU) none H')
theorem ok_check_unknown {f CU : Addr} {fd : FuncData} (F : Fun K "check_unknown" "check_unknown" s_check_unknown f fd) (X_InvalidUnknown : DErrM K mg "InvalidUnknown" CU)
    (D_is_within : Def P w K mg base CX0 2 "is_within" ["value", "low", "high"] (spWithin K)) : FnOk P w K mg base (L2.CX P w) 3 f fd ["value", "number"] (spUnknown K CU) := by
  refine F.okX sc_check_unknown (fun vs H Q E h => ?_) (fun cdv A outer s H vs Q E hr h => ?_)
  · obtain ⟨v, j, n, rfl, _⟩ := h
    rfl
  · obtain ⟨v, j, n, rfl, hj, hn, q, qe⟩ := h
    refine ⟨_, (pss_one (ps_if (pt_not (pt_val (pe_callD D_is_within hr (by decide) pass0 (pa_cons (pv 0) (pa_cons pe_int (pa_cons (pe_op op_sub (pv 1) pe_int) pa_nil))))))
        (pss_one (ps_raise rfl (takes_of rfl rfl rfl rfl) (pmk_msgD X_InvalidUnknown (pe_joined (.cons pe_str (.cons (pe_fmt (pv 1)) .nil))))))
        pss_nil)), ?_⟩
    refine ⟨_, rfl, _, rfl, _, _, rfl, rfl, v, j, 0, n - 1, rfl, hj, _, rfl, ?_⟩
    cases hw : within j 0 (n - 1) with
    | false =>
      have big : 1000 ≤ sizeLine := by rw [sizeLine_eq]; decide
      refine iteT ⟨_, rfl, Nat.le_trans (show _ ≤ 1000 from by decide +kernel) big, _, rfl, .inr ⟨n, rfl, hn, _, rfl, ?_, qe hw H fun _ _ h => h⟩⟩
      have e1 := int_text_len_1921 hn
      have e2 : (Str.empty ++ ("an unknown is an integer from 0, less than " : Str)).length ≤ 1000 := by decide +kernel
      rw [Str.length_append, sizeLine_eq]
      have e3 : (PySem.Str.ofString (toString n)).length ≤ 1921 := e1
      exact Nat.le_trans (Nat.add_le_add e2 e3) (by decide)
    | true => exact iteF (q hw)
/-! ### where an unknown stands -/
def zoneOf : List Zn → Int → Zn
  | [], _ => ⟨0, [], []⟩
  | [z], _ => z
  | z :: y :: zs, u => if u < z.c then z else zoneOf (y :: zs) (u - z.c)
theorem stands_zone : ∀ (zs : List Zn) (b u : Int) (r : Nat), (∀ z ∈ zs, 1 ≤ z.c) → b ≤ u → StandsAt (beginsZ b (zs.map (·.c))) u r → zs[r]? = some (zoneOf zs (u - b))
  | [], b, u, r, _, _, h => by
    have := h.1
    simp [beginsZ] at this
  | [z], b, u, r, _, _, h => by
    have h1 := h.1
    simp [beginsZ] at h1
    subst h1
    rfl
  | z :: y :: zs, b, u, r, hc, hb, h => by
    obtain ⟨h1, h2, h3⟩ := h
    have hz := hc z (.head _)
    by_cases hu : u - b < z.c
    · have e : zoneOf (z :: y :: zs) (u - b) = z := if_pos hu
      rw [e]
      cases r with
      | zero => rfl
      | succ r =>
        exfalso
        rcases h2 with h2 | ⟨x, h2, h4⟩
        · cases h2
        · rw [beginsZ_len] at h1
          rw [beginsZ_get _ _ _ h1] at h2
          have h5 := Option.some.inj h2
          have h6 : 0 ≤ (((y :: zs).map (·.c)).take r).sum := by
            have key : ∀ l : List Int, (∀ x ∈ l, 0 ≤ x) → 0 ≤ l.sum := by
              intro l
              induction l with
              | nil => intro _; exact Int.le_refl _
              | cons a l ih =>
                intro hl
                have e1 := ih fun x hx => hl x (.tail _ hx)
                have e2 := hl a (.head _)
                rw [List.sum_cons]
                omega
            apply key
            intro x hx
            obtain ⟨zz, hzz, rfl⟩ := List.mem_map.mp (List.mem_of_mem_take hx)
            have := hc zz (.tail _ hzz)
            omega
          rw [List.map_cons, List.take_succ_cons, List.sum_cons] at h5
          omega
    · have e : zoneOf (z :: y :: zs) (u - b) = zoneOf (y :: zs) (u - b - z.c) := if_neg hu
      rw [e]
      cases r with
      | zero =>
        exfalso
        rcases h3 with h3 | ⟨x, h3, h4⟩
        · rw [beginsZ_len] at h3
          simp at h3
        · rw [beginsZ_get _ _ _ (by simp)] at h3
          have h5 := Option.some.inj h3
          simp at h5
          omega
      | succ r =>
        rw [List.getElem?_cons_succ]
        have e2 : u - b - z.c = u - (b + z.c) := by omega
        rw [e2]
        refine stands_zone (y :: zs) (b + z.c) u r (fun x hx => hc x (.tail _ hx)) (by omega) ⟨?_, ?_, ?_⟩
        · rw [beginsZ_len] at h1 ⊢
          simpa using h1
        · rcases h2 with h2 | ⟨x, h2, h4⟩
          · cases h2
          · exact .inr ⟨x, h2, h4⟩
        · rcases h3 with h3 | ⟨x, h3, h4⟩
          · refine .inl ?_
            rw [beginsZ_len] at h3 ⊢
            simpa using h3
          · exact .inr ⟨x, h3, h4⟩
end
end Fb
namespace Fb
open PySem PySem.Spec PyProof.Rows L2
theorem inV_ints (i : Int) : ∀ is : List Int, inV (.int i) (is.map V.int) = is.contains i
  | [] => rfl
  | x :: is => by
    have e : inV (.int i) (V.int x :: is.map V.int) = (eqV (.int x) (.int i) || inV (.int i) (is.map V.int)) := rfl
    rw [List.map_cons, e, inV_ints i is, List.contains_cons]
    congr 1
    show (x == i) = (i == x)
    rw [Bool.eq_iff_iff, beq_iff_eq, beq_iff_eq]
    exact eq_comm
theorem flat_ints : ∀ is : List Int, (is.map V.int).all flatV = true
  | [] => rfl
  | _ :: is => by
    show (true && (is.map V.int).all flatV) = true
    rw [flat_ints is]
    rfl
def coupF (told : List Zn) (n lo hi : Int) : Bool := if n ≤ lo then false else if n ≤ hi then (zoneOf told lo).t.contains (hi - n) else (zoneOf told lo).o.contains (hi - lo)
section
variable {P : Program} {w : World} {K : PySem.W.Frag} {mg : Str → Option Value} {base : Heap}
theorem sc_System_unknowns : FnScope nm_System_unknowns ["self"] (defScope s_System_unknowns) := ⟨rfl, rfl, rfl, by decide +kernel, rfl, by decide +kernel, by decide +kernel⟩
theorem sc_System_length : FnScope nm_System_length ["self"] (defScope s_System_length) := ⟨rfl, rfl, rfl, by decide +kernel, rfl, by decide +kernel, by decide +kernel⟩
theorem sc_System_is_coupled : FnScope nm_System_is_coupled ["self", "low", "high"] (defScope s_System_is_coupled) := ⟨rfl, rfl, rfl, by decide +kernel, rfl, by decide +kernel, by decide +kernel⟩
/-- what System has no attribute for -/
structure NoA (K : PySem.W.Frag) (C : Cs) : Prop where
  c : Cls K C.sys
  n1 : NoAttr K C.sys "_borders"
  n2 : NoAttr K C.sys "_zones"
  n3 : NoAttr K C.sys "_told"
  n4 : NoAttr K C.sys "_begins"
  n5 : NoAttr K C.sys "_length"
  n6 : NoAttr K C.sys "elimination"
  n7 : NoAttr K C.sys "growth"
def spUnknowns (K : PySem.W.Frag) (C : Cs) : Sp := fun vs H Q _ => ∃ (x : Addr) (b : Nat) (zs : List Zn), vs = [.ref x] ∧ SysR K C H x b zs ∧ Q (.int (len zs + (b : Int))) H
def spLengthP (K : PySem.W.Frag) (C : Cs) : Sp := fun vs H Q _ => ∃ (x : Addr) (b : Nat) (zs : List Zn), vs = [.ref x] ∧ SysR K C H x b zs ∧ Q (.int (len zs)) H
theorem ok_unknowns {f : Addr} {C : Cs} {fd : FuncData} (F : Fun K "unknowns" "System.unknowns" s_System_unknowns f fd) (A : NoA K C) : FnOk P w K mg base CX0 1 f fd ["self"] (spUnknowns K C) := by
  refine F.ok sc_System_unknowns (fun vs H Q E h => ?_) (fun cdv AA outer s H vs Q E hr h => ?_)
  · obtain ⟨x, b, zs, rfl, _⟩ := h
    rfl
  · obtain ⟨x, b, zs, rfl, R, q⟩ := h
    obtain ⟨dx, a1, a2, bg, e, g, hx, _⟩ := R.ex
    exact ⟨_, (pss_one (ps_ret (pe_op op_add (pe_fld (pv 0) rfl) (pe_fld (pv 0) rfl)))), _, rfl, x, C.sys, dx, _, _, rfl, hx, A.c, A.n5, rfl, _, rfl, x, C.sys, dx, _, _, rfl, hx, A.c, A.n1, rfl, _, _, rfl, rfl, q⟩
theorem ok_length {f : Addr} {C : Cs} {fd : FuncData} (F : Fun K "length" "System.length" s_System_length f fd) (A : NoA K C) : FnOk P w K mg base CX0 1 f fd ["self"] (spLengthP K C) := by
  refine F.ok sc_System_length (fun vs H Q E h => ?_) (fun cdv AA outer s H vs Q E hr h => ?_)
  · obtain ⟨x, b, zs, rfl, _⟩ := h
    rfl
  · obtain ⟨x, b, zs, rfl, R, q⟩ := h
    obtain ⟨dx, a1, a2, bg, e, g, hx, _⟩ := R.ex
    exact ⟨_, (pss_one (ps_ret (pe_fld (pv 0) rfl))), _, rfl, x, C.sys, dx, _, _, rfl, hx, A.c, A.n5, rfl, q⟩
def spCoupled0 (K : PySem.W.Frag) (C : Cs) : Sp := fun vs H Q _ => ∃ (x : Addr) (b : Nat) (zs : List Zn) (lo hi : Int), vs = [.ref x, .int lo, .int hi] ∧ SysR K C H x b zs ∧ 0 ≤ lo ∧ Q (.bl (coupF (toldZ zs) (len zs) lo hi)) H
theorem ok_is_coupled {f : Addr} {C : Cs} {fd : FuncData} (F : Fun K "_is_coupled" "System._is_coupled" s_System_is_coupled f fd) (A : NoA K C) (D_standing_at : Def P w K mg base CX0 1 "standing_at" ["begins", "unknown"] (spStanding K)) :
    FnOk P w K mg base CX0 2 f fd ["self", "low", "high"] (spCoupled0 K C) := by
  refine F.ok sc_System_is_coupled (fun vs H Q E h => ?_) (fun cdv AA outer s H vs Q E hr h => ?_)
  · obtain ⟨x, b, zs, lo, hi, rfl, _⟩ := h
    rfl
  · obtain ⟨x, b, zs, lo, hi, rfl, R, h0, q⟩ := h
    obtain ⟨dx, a1, a2, bg, e, g, hx, _, ht, hbg, _⟩ := R.ex
    refine ⟨_, (pss_cons (ps_if (pt_cmpR op_ge (pv 1) (pe_fld (pv 0) rfl) (nomark _))
        (pss_one (ps_ret pe_bl))
        pss_nil)
      (pss_cons (ps_asg (pe_ix (r := rIxL K) ix_list (pe_fld (pv 0) rfl) (pe_callD D_standing_at hr (by decide) pass0 (pa_cons (pe_fld (pv 0) rfl) (pa_cons (pv 1) pa_nil))) (fun _ _ => rfl)) (pg_tup rfl (pgs_cons (pg_name (i := 3) sc_System_is_coupled.nd rfl (.inl rfl)) (pgs_cons (pg_name (i := 4) sc_System_is_coupled.nd rfl (.inl rfl)) (pgs_cons (pg_name (i := 5) sc_System_is_coupled.nd rfl (.inl rfl)) pgs_nil)))))
      (pss_cons (ps_if (pt_cmpR op_ge (pv 2) (pe_fld (pv 0) rfl) (nomark _))
        (pss_one (ps_ret (pe_cmpR op_in_seq (pe_op op_sub (pv 2) (pe_fld (pv 0) rfl)) (pv 5) (by rfl))))
        pss_nil)
      (pss_one (ps_ret (pe_cmpR op_in_seq (pe_op op_sub (pv 2) (pv 1)) (pv 4) (by rfl))))))), ?_⟩
    refine ⟨_, rfl, _, rfl, x, C.sys, dx, _, _, rfl, hx, A.c, A.n5, rfl, _, _, rfl, rfl, _, rfl, ite2 (fun hge => ?_) (fun hge => ?_)⟩
    · have hge := of_decide_eq_true hge
      have ec : coupF (toldZ zs) (len zs) lo hi = false := if_pos hge
      rw [ec] at q
      exact q
    · have hge := of_decide_eq_false (Bool.eq_false_iff.mpr hge)
      have tok := R.ok.told (by have := R.n; omega)
      have hne : (beginsZ 0 ((toldZ zs).map (·.c))) ≠ [] := fun z => by
        have z2 := congrArg List.length z
        rw [beginsZ_len, List.length_map] at z2
        have z3 : toldZ zs = [] := List.eq_nil_of_length_eq_zero z2
        have z4 := told_sum zs fun y hy => by have := R.ok.c y hy; omega
        rw [z3] at z4
        have z5 : len [] = 0 := rfl
        omega
      obtain ⟨ta, ts, eta, hts, hta⟩ := dp_lst ht
      cases eta
      refine ⟨_, rfl, x, C.sys, dx, _, _, rfl, hx, A.c, A.n3, rfl, _, rfl, x, C.sys, dx, _, _, rfl, hx, A.c, A.n4, rfl, _, rfl, .ref bg, _, lo, rfl, hbg, hne, fun r hst => ?_⟩
      have hz := stands_zone (toldZ zs) 0 lo r tok.c h0 hst
      rw [Int.sub_zero] at hz
      obtain ⟨v, hv, hdv⟩ := dpAll_get (i := r) (d := zdK (zoneOf (toldZ zs) lo)) hta (by rw [List.getElem?_map, hz]; rfl)
      obtain ⟨zb, o, t, rfl, hzb, hzo, hzt⟩ := zdK_inv hdv
      refine ⟨a2, _, _, _, rfl, rfl, hts, atI_nat hv, zb, _, rfl, hzb, rfl, _, _, rfl, _, _, rfl, _, _, rfl, rfl, ?_⟩
      obtain ⟨oa, os, rfl, hos, hosA⟩ := dp_tup hzo
      obtain ⟨ta', ts', rfl, hts', htsA⟩ := dp_tup hzt
      have hos := dp_ints hos hosA
      have hts' := dp_ints hts' htsA
      have ec : coupF (toldZ zs) (len zs) lo hi = (if len zs ≤ hi then (zoneOf (toldZ zs) lo).t.contains (hi - len zs) else (zoneOf (toldZ zs) lo).o.contains (hi - lo)) := if_neg (by omega)
      rw [ec] at q
      refine ⟨_, rfl, _, rfl, x, C.sys, dx, _, _, rfl, hx, A.c, A.n5, rfl, _, _, rfl, rfl, _, rfl, ite2 (fun hg2 => ?_) (fun hg2 => ?_)⟩
      · have hg2 := of_decide_eq_true hg2
        rw [if_pos hg2] at q
        refine ⟨_, rfl, _, rfl, x, C.sys, dx, _, _, rfl, hx, A.c, A.n5, rfl, _, _, rfl, rfl, _, rfl, ta', _, rfl, .inr hts', rfl, flat_ints _, ?_⟩
        rw [if_neg Bool.false_ne_true]
        show Q (.bl (inV (.int (hi - len zs)) _)) H
        rw [inV_ints]
        exact q
      · have hg2 := of_decide_eq_false (Bool.eq_false_iff.mpr hg2)
        rw [if_neg hg2] at q
        refine ⟨_, rfl, _, rfl, _, _, rfl, rfl, _, rfl, oa, _, rfl, .inr hos, rfl, flat_ints _, ?_⟩
        rw [if_neg Bool.false_ne_true]
        show Q (.bl (inV (.int (hi - lo)) _)) H
        rw [inV_ints]
        exact q
end
end Fb
namespace Fb
open PySem PySem.Spec PyProof.Rows L2
section
variable {P : Program} {w : World} {K : PySem.W.Frag} {mg : Str → Option Value} {base : Heap}
theorem sc_System_coupled : FnScope nm_System_coupled ["self", "one", "other"] (defScope s_System_coupled) := ⟨rfl, rfl, rfl, by decide +kernel, rfl, by decide +kernel, by decide +kernel⟩
theorem sc_System_couplings : FnScope nm_System_couplings ["self"] (defScope s_System_couplings) := ⟨rfl, rfl, rfl, by decide +kernel, rfl, by decide +kernel, by decide +kernel⟩
theorem sc_System_couplings_from : FnScope nm_System_couplings_from ["self", "begin", "end"] (defScope s_System_couplings_from) := ⟨rfl, rfl, rfl, by decide +kernel, rfl, by decide +kernel, by decide +kernel⟩
theorem sc_cut_zones : FnScope nm_cut_zones ["zones", "begin", "end"] (defScope s_cut_zones) := ⟨rfl, rfl, rfl, by decide +kernel, rfl, by decide +kernel, by decide +kernel⟩
theorem log_big {n : Int} (h0 : 0 ≤ n) (h : n ≤ 1000000000000000000000000000010) : n.natAbs.log2 < 1920 := by
  have h1 : n.natAbs < 2 ^ 101 := by omega
  by_cases hz : n.natAbs = 0
  · rw [hz]
    decide
  · have := (Nat.log2_lt hz).mpr h1
    omega
theorem sys_len {C : Cs} {H : Hp} {x : Addr} {b : Nat} {zs : List Zn} (R : SysR K C H x b zs) : 0 ≤ len zs := by
  have key : ∀ l : List Zn, (∀ z ∈ l, 1 ≤ z.c) → 0 ≤ len l := by
    intro l
    induction l with
    | nil => intro _; exact Int.le_refl _
    | cons z l ih =>
      intro h
      have h1 := ih fun y hy => h y (.tail _ hy)
      have h2 := h z (.head _)
      rw [len_cons]
      omega
  exact key zs R.ok.c
theorem sys_log {C : Cs} {H : Hp} {x : Addr} {b : Nat} {zs : List Zn} (R : SysR K C H x b zs) : (len zs + (b : Int)).natAbs.log2 < 1920 := by
  have h1 := sys_len R
  have h2 := R.big
  have h3 := R.ok.b
  exact log_big (by omega) (by omega)
def spCoupled (K : PySem.W.Frag) (C : Cs) (CU : Addr) : Sp := fun vs H Q E => ∃ (x : Addr) (b : Nat) (zs : List Zn) (v1 v2 : V) (j1 j2 : J), vs = [.ref x, v1, v2] ∧ SysR K C H x b zs ∧ Jr K H v1 j1 ∧ Jr K H v2 j2 ∧
  ((within j1 0 (len zs + (b : Int) - 1) && within j2 0 (len zs + (b : Int) - 1)) = false → ∀ H', Same H H' → E (.ref CU) none H') ∧
  ∀ i k, j1 = .int i → j2 = .int k → 0 ≤ i → i < len zs + (b : Int) → 0 ≤ k → k < len zs + (b : Int) → Q (.bl (coupF (toldZ zs) (len zs) (if k < i then k else i) (if k > i then k else i))) H
theorem within_int {j : J} {lo hi : Int} (h : within j lo hi = true) : ∃ i, j = .int i ∧ lo ≤ i ∧ i ≤ hi := by
  cases j with
  | int i =>
    have e : (decide (lo ≤ i) && decide (i ≤ hi)) = true := h
    rw [Bool.and_eq_true] at e
    exact ⟨i, rfl, of_decide_eq_true e.1, of_decide_eq_true e.2⟩
  | odd => cases h
  | list l => cases h
  | tup l => cases h
theorem ok_coupled {f CU : Addr} {C : Cs} {fd : FuncData} (F : Fun K "coupled" "System.coupled" s_System_coupled f fd) (bt : Bt mg bn) (A : NoA K C) (D_check_unknown : Def P w K mg base (L2.CX P w) 3 "check_unknown" ["value", "number"] (spUnknown K CU))
    (P_unknowns : DProp P w K mg base CX0 1 C.sys "unknowns" (spUnknowns K C)) (M_is_coupled : DMeth P w K mg base CX0 2 C.sys "_is_coupled" ["self", "low", "high"] (spCoupled0 K C)) :
    FnOk P w K mg base (L2.CX P w) 4 f fd ["self", "one", "other"] (spCoupled K C CU) := by
  refine F.okX sc_System_coupled (fun vs H Q E h => ?_) (fun cdv AA outer s H vs Q E hr h => ?_)
  · obtain ⟨x, b, zs, v1, v2, j1, j2, rfl, _⟩ := h
    rfl
  · obtain ⟨x, b, zs, v1, v2, j1, j2, rfl, R, h1, h2, qe, q⟩ := h
    have lg := sys_log R
    obtain ⟨dx, _, _, _, _, _, hx, _⟩ := R.ex
    refine ⟨_, (pss_cons (ps_expr (pe_callD D_check_unknown hr (by decide) (passes_call (takes_of rfl rfl rfl rfl) (fun _ _ _ _ h => h)) (pa_cons (pv 1) (pa_cons (pe_propD P_unknowns hr (by decide) pass0 (pv 0)) pa_nil))))
      (pss_cons (ps_expr (pe_callD D_check_unknown hr (by decide) (passes_call (takes_of rfl rfl rfl rfl) (fun _ _ _ _ h => h)) (pa_cons (pv 2) (pa_cons (pe_propD P_unknowns hr (by decide) pass0 (pv 0)) pa_nil))))
      (pss_one (ps_ret (pe_methD M_is_coupled hr (by decide) pass0 (pv 0) (pa_cons (pe_callB (call_min2 rfl) (by rfl) (bt "min" (by decide)) PyProof.Rows.boot_min (pa_cons (pv 1) (pa_cons (pv 2) pa_nil))) (pa_cons (pe_callB (call_max2 rfl) (by rfl) (bt "max" (by decide)) PyProof.Rows.boot_max (pa_cons (pv 1) (pa_cons (pv 2) pa_nil))) pa_nil))))))), ?_⟩
    refine ⟨_, rfl, _, rfl, x, dx, _, rfl, hx, x, b, zs, rfl, R, v1, j1, _, rfl, h1, lg, fun w1 => ?_, fun w1 => qe (by rw [w1, Bool.false_and])⟩
    refine ⟨_, rfl, _, rfl, x, dx, _, rfl, hx, x, b, zs, rfl, R, v2, j2, _, rfl, h2, lg, fun w2 => ?_, fun w2 => qe (by rw [w2, Bool.and_false])⟩
    obtain ⟨i, rfl, i0, i1⟩ := within_int w1
    obtain ⟨k, rfl, k0, k1⟩ := within_int w2
    cases h1
    cases h2
    refine ⟨_, rfl, x, dx, _, rfl, hx, rfl, _, rfl, _, rfl, i, k, rfl, _, rfl, _, rfl, i, k, rfl, x, b, zs, _, _, rfl, R, ?_, q i k rfl rfl i0 (by omega) k0 (by omega)⟩
    show 0 ≤ (if k < i then k else i)
    split <;> omega
def rLenS (K : PySem.W.Frag) : List V → Hp → VK → Prop := fun xs H Q => ∃ p ys, xs = [V.ref p] ∧ (SqL K H p ys ∨ SqT K H p ys) ∧ Q (V.int (ys.length : Nat)) H
def cplF (told : List Zn) : Int := (told.map fun z => z.c * ((z.o.length : Int) + (z.t.length : Int))).sum
/-! ### cut_zones -/
def keptF (b e p c : Int) : Int := (if e < p + c then e else p + c) - (if b > p then b else p)
def cutStep (b e p : Int) (z : Zn) : List Zn := if 0 < keptF b e p z.c then [⟨keptF b e p z.c, z.o, z.t⟩] else []
def cutF (b e : Int) : Int → List Zn → List Zn
  | _, [] => []
  | p, z :: zs => cutStep b e p z ++ cutF b e (p + z.c) zs
theorem cutF_snoc (b e : Int) (z : Zn) : ∀ (l : List Zn) (p : Int), cutF b e p (l ++ [z]) = cutF b e p l ++ cutStep b e (p + (l.map (·.c)).sum) z
  | [], p => by
    show cutStep b e p z ++ [] = [] ++ cutStep b e (p + 0) z
    rw [List.append_nil, List.nil_append, Int.add_zero]
  | y :: l, p => by
    show cutStep b e p y ++ cutF b e (p + y.c) (l ++ [z]) = (cutStep b e p y ++ cutF b e (p + y.c) l) ++ _
    rw [cutF_snoc b e z l (p + y.c), List.append_assoc, List.map_cons, List.sum_cons, Int.add_assoc]
theorem cutF_len (b e : Int) : ∀ (l : List Zn) (p : Int), (cutF b e p l).length ≤ l.length
  | [], _ => Nat.le_refl _
  | z :: l, p => by
    have h := cutF_len b e l (p + z.c)
    show (cutStep b e p z ++ cutF b e (p + z.c) l).length ≤ _
    rw [List.length_append, List.length_cons]
    unfold cutStep
    split
    · rw [List.length_singleton]; omega
    · rw [List.length_nil]; omega
theorem cutF_all (e : Int) : ∀ (l : List Zn) (p : Int), (∀ z ∈ l, 1 ≤ z.c) → 0 ≤ p → p + (l.map (·.c)).sum ≤ e → cutF 0 e p l = l
  | [], _, _, _, _ => rfl
  | z :: l, p, hc, hp, he => by
    have hz := hc z (.head _)
    rw [List.map_cons, List.sum_cons] at he
    have key : ∀ l : List Zn, (∀ z ∈ l, 1 ≤ z.c) → 0 ≤ (l.map (·.c)).sum := by
      intro l
      induction l with
      | nil => intro _; exact Int.le_refl _
      | cons a l ih =>
        intro hl
        have e1 := ih fun x hx => hl x (.tail _ hx)
        have e2 := hl a (.head _)
        rw [List.map_cons, List.sum_cons]
        omega
    have hl := key l fun x hx => hc x (.tail _ hx)
    have h := cutF_all e l (p + z.c) (fun x hx => hc x (.tail _ hx)) (by omega) (by omega)
    show cutStep 0 e p z ++ cutF 0 e (p + z.c) l = z :: l
    have k : keptF 0 e p z.c = z.c := by
      unfold keptF
      split <;> split <;> omega
    rw [h]
    unfold cutStep
    rw [k, if_pos (by omega)]
    rfl
/-- a new list -/
def givesL (K : PySem.W.Frag) (H : Hp) (ds : List PyData) (Q : VK) : Prop := ∀ H' p ys, Same H H' → H p = none → H' p = some (.lst ys) → DpAll K H' ys ds → Q (.ref p) H'
def spCut (K : PySem.W.Frag) : Sp := fun vs H Q _ => ∃ (v : V) (zs : List Zn) (b e : Int), vs = [v, .int b, .int e] ∧ Dp K H v (.list (zs.map zdK)) ∧ zs.length ≤ 100000 ∧ givesL K H ((cutF b e 0 zs).map zdK) Q
theorem ok_cut_zones {f : Addr} {fd : FuncData} (F : Fun K "cut_zones" "cut_zones" s_cut_zones f fd) (bt : Bt mg bn) : FnOk P w K mg base CX0 1 f fd ["zones", "begin", "end"] (spCut K) := by
  refine F.ok sc_cut_zones (fun vs H Q E h => ?_) (fun cdv A outer s H vs Q E hr h => ?_)
  · obtain ⟨v, zs, b, e, rfl, _⟩ := h
    rfl
  · obtain ⟨v, zs, b, e, rfl, hd, hl, q⟩ := h
    obtain ⟨a, xs, rfl, hs, ha⟩ := dp_lst hd
    have lx := dpAll_len ha
    rw [List.length_map] at lx
    refine ⟨_, (pss_cons (ps_set (i := 3) sc_cut_zones.nd rfl (.inl rfl) (pe_lst pa_nil))
      (pss_cons (ps_set (i := 4) sc_cut_zones.nd rfl (.inl rfl) pe_int)
      (pss_cons (ps_for PassesOwn.never rfl (pi_list (pv 0)) (pg_tup rfl (pgs_cons (pg_name (i := 5) sc_cut_zones.nd rfl (.inl rfl)) (pgs_cons (pg_name (i := 6) sc_cut_zones.nd rfl (.inl rfl)) (pgs_cons (pg_name (i := 7) sc_cut_zones.nd rfl (.inl rfl)) pgs_nil))))
        (pss_cons (ps_set (i := 8) sc_cut_zones.nd rfl (.inl rfl) (pe_op op_sub (pe_callB (call_min2 rfl) (by rfl) (bt "min" (by decide)) PyProof.Rows.boot_min (pa_cons (pe_op op_add (pv 4) (pv 5)) (pa_cons (pv 2) pa_nil))) (pe_callB (call_max2 rfl) (by rfl) (bt "max" (by decide)) PyProof.Rows.boot_max (pa_cons (pv 4) (pa_cons (pv 1) pa_nil)))))
        (pss_cons (ps_if (pt_cmpR op_gt (pv 8) pe_int (nomark _))
          (pss_one (ps_expr (pe_bm PySem.F.plainAttrs_list PySem.F.slot_list_append PySem.F.type_list_append mt_append (pv 3) (pa_cons (pe_tup (pa_cons (pv 8) (pa_cons (pv 6) (pa_cons (pv 7) pa_nil)))) pa_nil))))
          pss_nil)
        (pss_one (ps_aug (i := 4) sc_cut_zones.nd rfl (.inl rfl) (pv 5) ip_add)))))
      (pss_one (ps_ret (pv 3)))))), ?_⟩
    refine ⟨Nat.zero_le _, fun D nD => ?_⟩
    generalize e0 : upd _ D _ = H0
    have W0 := (Own.nil (H := H)).new nD e0
    refine ⟨_, rfl, a, rfl, ⟨_, W0.s.seq hs⟩, for_list (K := K) (a := a) (xs := xs) (fun i σ H' => ∃ (y5 y6 y7 y8 : Option V) (B : Hp) (ys : List V), σ = [some (.ref a), some (.int b), some (.int e), some (.ref D), some (.int ((zs.take i).map (·.c)).sum), y5, y6, y7, y8] ∧ Same H B ∧ Own B [(D, .lst ys)] H' ∧ DpAll K B ys ((cutF b e 0 (zs.take i)).map zdK))
      ⟨none, none, none, none, H, [], rfl, Same.refl _, W0, .nil⟩ (fun i σ H' _ ⟨_, _, _, _, B, ys, _, S, W, _⟩ => (S.trans W.s).seq hs) ?_ ?_⟩
    · rintro i x σ H' hi ⟨y5, y6, y7, y8, B, ys, rfl, S, W, hy⟩
      obtain ⟨d, hd1, hd2⟩ := dpAll_getV ha hi
      obtain ⟨z, hz, rfl⟩ := map_getV hd1
      obtain ⟨p, o, t, rfl, hp, ho, ht⟩ := zdK_inv (dp_same S _ hd2)
      refine ⟨p, _, rfl, sqt_same W.s hp, rfl, _, _, rfl, _, _, rfl, _, _, rfl, rfl, ?_⟩
      have snoc : cutF b e 0 (zs.take (i + 1)) = cutF b e 0 (zs.take i) ++ cutStep b e ((zs.take i).map (·.c)).sum z := by rw [take_snoc hz, cutF_snoc, Int.zero_add]
      have psum : ((zs.take (i + 1)).map (·.c)).sum = ((zs.take i).map (·.c)).sum + z.c := by
        rw [take_snoc hz, List.map_append, List.sum_append]
        simp
      have ly := dpAll_len hy
      have lc := cutF_len b e (zs.take i) 0
      rw [List.length_map] at ly
      rw [List.length_take] at lc
      rw [psum, snoc]
      generalize ((zs.take i).map (·.c)).sum = pl
      refine ⟨_, rfl, _, rfl, _, _, rfl, rfl, _, rfl, _, _, rfl, _, rfl, _, rfl, _, _, rfl, _, _, rfl, rfl, ?_⟩
      refine ⟨_, rfl, keptF b e pl z.c, 0, rfl, rfl, _, rfl, ?_⟩
      refine ite2 (fun hk => ?_) (fun hk => ?_)
      · have hk : 0 < keptF b e pl z.c := of_decide_eq_true hk
        refine ⟨_, rfl, .inl ⟨rfl, _, SqL.of W.g0⟩, _, rfl, _, rfl, _, rfl, by show 3 ≤ sizeLine; decide, fun r nr => ?_⟩
        generalize e1 : upd _ r _ = H1
        obtain ⟨B1, S1, kr, W1⟩ := (W.new nr e1).fix
        refine ⟨D, ys, _, rfl, rfl, W1.g0, big (by omega), ?_⟩
        generalize e2 : upd _ D _ = H2
        have W2 := W1.set0 e2
        refine ⟨_, rfl, _, rfl, _, _, rfl, rfl, _, _, _, _, B1, ys ++ [.ref r], rfl, S.trans S1, W2, ?_⟩
        unfold cutStep
        rw [if_pos hk, List.map_append]
        exact dpAll_append (dpAll_same S1 _ hy) (.cons (.tup (.inl (.inl kr)) (.cons (.int _) (.cons (dp_same S1 _ ho) (.cons (dp_same S1 _ ht) .nil)))) .nil)
      · have hk : ¬ 0 < keptF b e pl z.c := fun h => hk (decide_eq_true h)
        refine ⟨_, rfl, _, rfl, _, _, rfl, rfl, _, _, _, _, B, ys, rfl, S, W, ?_⟩
        unfold cutStep
        rw [if_neg hk, List.append_nil]
        exact hy
    · rintro σ H' ⟨y5, y6, y7, y8, B, ys, rfl, S, W, hy⟩
      rw [List.take_of_length_le (by omega)] at hy
      exact ⟨_, rfl, q H' D ys (S.trans W.s) nD W.g0 (dpAll_same W.s _ hy)⟩
end
end Fb
namespace Fb
open PySem PySem.Spec PyProof.Rows L2
/-! ### repr of zones -/
theorem zd_show {b : Nat} {m : Int} {z : Zn} (h : ZnOk b m z) (hm : m ≤ 1000000000000000000000000000000) (hb : b ≤ 6) : noTx (zdG z) = true ∧ (zdG z).showable = true ∧ (zdG z).canLay0 = true ∧ (zdG z).depth ≤ 10 ∧ szD (zdG z) ≤ 30000 := by
  have il : ∀ l : List Int, (∀ x ∈ l, x.natAbs < 10 ^ 31) → noTxA (l.map .int) = true ∧ PyData.showableAll (l.map .int) = true ∧ PyData.canLayAll0 (l.map .int) = true ∧ PyData.depthAll (l.map .int) ≤ 1 ∧ szA (l.map .int) ≤ l.length * (1921 + 2) := by
    intro l hl
    have each : ∀ {p : PyData → Prop}, (∀ x ∈ l, p (.int x)) → ∀ d ∈ l.map PyData.int, p d := fun hp d hd => by
      obtain ⟨x, hx, rfl⟩ := List.mem_map.mp hd
      exact hp x hx
    refine ⟨noTxA_of (each fun x _ => rfl), L2.showableAll_of (each fun x hx => decide_eq_true (num_log (hl x hx))), canLayAll_of (each fun x _ => rfl), depthAll_of (each fun x _ => by show PyData.depth (.int x) ≤ 1; simp only [PyData.depth]; omega), ?_⟩
    have := szA_le (n := 1921) (l.map PyData.int) (each fun x _ => Nat.le_refl _)
    rw [List.length_map] at this
    exact this
  obtain ⟨o1, o2, o3, o4, o5⟩ := il z.o fun x hx => by have := h.o x hx; omega
  obtain ⟨t1, t2, t3, t4, t5⟩ := il z.t fun x hx => by have := h.t x hx; omega
  have hc : z.c.natAbs < 10 ^ 31 := by have := h.c1; have := h.c2; omega
  have ol := h.ol
  have tl := h.tl
  refine ⟨?_, ?_, ?_, ?_, ?_⟩
  · show (true && (noTxA (z.o.map .int) && (noTxA (z.t.map .int) && true))) = true
    rw [o1, t1]
    rfl
  · show (decide (z.c.natAbs.log2 < 1920) && (PyData.showableAll (z.o.map .int) && (PyData.showableAll (z.t.map .int) && true))) = true
    rw [o2, t2, decide_eq_true (num_log hc)]
    rfl
  · show (true && (PyData.canLayAll0 (z.o.map .int) && (PyData.canLayAll0 (z.t.map .int) && true))) = true
    rw [o3, t3]
    rfl
  · show PyData.depth (.tuple [.int z.c, .list (z.o.map .int), .list (z.t.map .int)]) ≤ 10
    simp only [PyData.depth, PyData.depthAll]
    omega
  · show (1921 + 2 + ((szA (z.o.map .int) + 2) + 2 + ((szA (z.t.map .int) + 2) + 2 + 0))) + 3 ≤ 30000
    omega
theorem zs_show {b : Nat} {m : Int} {zs : List Zn} (h : ∀ z ∈ zs, ZnOk b m z) (hm : m ≤ 1000000000000000000000000000000) (hb : b ≤ 6) (hl : zs.length ≤ 100) :
    SeqAt.shaped (.list (zs.map zdG)) = true ∧ (PyData.list (zs.map zdG)).showable = true ∧ (PyData.list (zs.map zdG)).shown.length ≤ sizeLine := by
  have each : ∀ {p : PyData → Prop}, (∀ z ∈ zs, p (zdG z)) → ∀ d ∈ zs.map zdG, p d := fun hp d hd => by
    obtain ⟨x, hx, rfl⟩ := List.mem_map.mp hd
    exact hp x hx
  have s1 : (PyData.list (zs.map zdG)).showable = true := L2.showableAll_of (each fun z hz => (zd_show (h z hz) hm hb).2.1)
  refine ⟨shaped_of (canLayAll_of (each fun z hz => (zd_show (h z hz) hm hb).2.2.1)) ?_, s1, ?_⟩
  · have := depthAll_of (n := 10) (each fun z hz => (zd_show (h z hz) hm hb).2.2.2.1)
    show PyData.depth (.list (zs.map zdG)) ≤ 64
    simp only [PyData.depth]
    omega
  · have h1 := shown_le (.list (zs.map zdG)) (noTxA_of (each fun z hz => (zd_show (h z hz) hm hb).1)) s1
    have h2 := szA_le (n := 30000) _ (each fun z hz => (zd_show (h z hz) hm hb).2.2.2.2)
    rw [List.length_map] at h2
    have h3 : szD (.list (zs.map zdG)) = szA (zs.map zdG) + 2 := rfl
    have h4 : zs.length * (30000 + 2) ≤ 100 * (30000 + 2) := Nat.mul_le_mul_right _ hl
    exact big2 (by omega)
theorem ZnOk.wide {b : Nat} {m n : Int} {z : Zn} (h : ZnOk b m z) (hn : m ≤ n) : ZnOk b n z := ⟨h.c1, by have := h.c2; omega, h.o, h.t, h.oa, h.ta, h.ol, h.tl⟩
theorem len_le {m : Int} : ∀ zs : List Zn, (∀ z ∈ zs, z.c ≤ m) → len zs ≤ zs.length * m
  | [], _ => by show (0 : Int) ≤ ((0 : Nat) : Int) * m; omega
  | z :: zs, h => by
    have h1 := h z (.head _)
    have h2 := len_le zs fun y hy => h y (.tail _ hy)
    have e : len (z :: zs) = z.c + len zs := rfl
    rw [e, List.length_cons, Int.natCast_add, Int.add_mul]
    omega
/-- what every law promises -/
def spLaw (K : PySem.W.Frag) : Sp := fun vs H Q _ => ∃ (a : Addr) (ns : List Int), vs = [.ref a] ∧ SqL K H a (ns.map V.int) ∧ ∀ H', Q (.bl true) H'
/-- data whose repr is asked -/
def Rp (d : PyData) : Prop := SeqAt.shaped d = true ∧ d.showable = true ∧ d.shown.length ≤ sizeLine
theorem rp_of {d : PyData} {n : Nat} (h1 : noTx d = true) (h2 : d.showable = true) (h3 : d.canLay0 = true) (h4 : d.depth ≤ 64) (h5 : szD d ≤ n) (hn : n ≤ 10000000) : Rp d := by
  refine ⟨?_, h2, ?_⟩
  · exact shaped_of h3 h4
  · have := shown_le d h1 h2
    exact big2 (by omega)
theorem rp_int {n : Int} (h : n.natAbs < 10 ^ 31) : Rp (.int n) := rp_of (n := 1921) rfl (decide_eq_true (num_log h)) rfl (by simp only [PyData.depth]; omega) (Nat.le_refl _) (by decide)
theorem rp_bool (b : Bool) : Rp (.bool b) := rp_of (n := 1921) rfl rfl rfl (by simp only [PyData.depth]; omega) (Nat.le_refl _) (by decide)
theorem rp_ints {l : List Int} (h : ∀ x ∈ l, x.natAbs < 10 ^ 31) (hl : l.length ≤ 1000) : Rp (.list (l.map .int)) := by
  have each : ∀ {p : PyData → Prop}, (∀ x ∈ l, p (.int x)) → ∀ d ∈ l.map PyData.int, p d := fun hp d hd => by
    obtain ⟨x, hx, rfl⟩ := List.mem_map.mp hd
    exact hp x hx
  have s5 := szA_le (n := 1921) (l.map PyData.int) (each fun x _ => Nat.le_refl _)
  rw [List.length_map] at s5
  refine rp_of (n := 2000000) (noTxA_of (each fun x _ => rfl)) (L2.showableAll_of (each fun x hx => decide_eq_true (num_log (h x hx)))) (canLayAll_of (each fun x _ => rfl)) ?_ ?_ (by decide)
  · have := depthAll_of (n := 1) (each (p := fun d => d.depth ≤ 1) fun x _ => by show PyData.depth (.int x) ≤ 1; simp only [PyData.depth]; omega)
    simp only [PyData.depth]
    omega
  · show szA (l.map .int) + 2 ≤ _
    omega
theorem rp_bools (l : List Bool) (hl : l.length ≤ 1000) : Rp (.list (l.map .bool)) := by
  have each : ∀ {p : PyData → Prop}, (∀ x ∈ l, p (.bool x)) → ∀ d ∈ l.map PyData.bool, p d := fun hp d hd => by
    obtain ⟨x, hx, rfl⟩ := List.mem_map.mp hd
    exact hp x hx
  have s5 := szA_le (n := 1921) (l.map PyData.bool) (each fun x _ => Nat.le_refl _)
  rw [List.length_map] at s5
  refine rp_of (n := 2000000) (noTxA_of (each fun x _ => rfl)) (L2.showableAll_of (each fun x hx => rfl)) (canLayAll_of (each fun x _ => rfl)) ?_ ?_ (by decide)
  · have := depthAll_of (n := 1) (each (p := fun d => d.depth ≤ 1) fun x _ => by show PyData.depth (.bool x) ≤ 1; simp only [PyData.depth]; omega)
    simp only [PyData.depth]
    omega
  · show szA (l.map .bool) + 2 ≤ _
    omega
theorem ne_str (s : Str) : (!decide (V.str s = V.str s)) = false := by
  rw [decide_eq_true rfl]
  rfl
end Fb
namespace Fb
open PySem PySem.Spec PyProof.Rows L2
def rMin2 : List V → Hp → VK → Prop := fun xs H Q => ∃ i j, xs = [V.int i, .int j] ∧ Q (.int (if j < i then j else i)) H
def rMax2 : List V → Hp → VK → Prop := fun xs H Q => ∃ i j, xs = [V.int i, .int j] ∧ Q (.int (if j > i then j else i)) H
/-! ### a new system that stands -/
theorem sys_new {K : PySem.W.Frag} {C : Cs} {CB CZ : Addr} {H : Hp} {x dx : Addr} {b : Nat} {m : Int} {v : V} {zs : List Zn} {Q : VK} {E : XK} (nx : H x = none) (nd : H dx = none) (ne : dx ≠ x) (hd : Dp K H v (.list (zs.map zdG))) (hb : b ≤ 6)
    (hz : ∀ z ∈ zs, ZnOk b m z) (hm : m ≤ 1000000000000000000000000000000) (h1 : 1 ≤ zs.length) (h2 : zs.length ≤ 12) (hl : len zs ≤ 1000000000000000000000000000000) (q : ∀ H' S, Same H H' → Same S H' → Apart H S → SysR K C S x b zs → Q .non H') :
    spSysInit K C CB CZ (.ref x :: ([.int (b : Int), v] ++ [])) (upd (upd H dx (.own x)) x (.ins C.sys dx [])) Q E := by
  generalize e9 : upd _ x _ = H9
  have W9 := (Own.nil (H := H)).ins nx nd ne e9
  have hbad : badZ (zJ zs) (b : Int) = none := badZ_ok hz hm h1 h2 hl
  refine ⟨x, dx, .int b, v, .int b, zJ zs, H, rfl, W9, .int _, dp_jr _ hd, fun hw => ?_, fun b' hb' _ => ⟨fun it hit => ?_, fun _ H10 S SH SS ap R => ?_⟩⟩
  · exfalso
    have e : within (.int (b : Int)) 0 6 = true := by
      show (decide ((0 : Int) ≤ (b : Int)) && decide ((b : Int) ≤ 6)) = true
      rw [decide_eq_true (by omega), decide_eq_true (by omega)]
      rfl
    rw [e] at hw
    cases hw
  · exfalso
    obtain rfl : b = b' := by cases hb'; rfl
    rw [hbad] at hit
    cases hit
  · obtain rfl : b = b' := by cases hb'; rfl
    rw [zsJ_of] at R
    exact q H10 S SH SS ap R
/-- what stands apart from lists of one's own is of the base from now on -/
theorem own_apart {B H H5 S : Hp} {cs : List Cell} (W : Own B cs H) (S5 : Same H H5) (SS : Same S H5) (ap : Apart H S) (hl : ∀ c ∈ cs, ∃ xs, c.2 = .lst xs) : ∃ B', Own B' cs H5 ∧ Same B B' ∧ Same S B' := by
  obtain ⟨B', W', SB, k⟩ := (W.mono S5).rebase'
  refine ⟨B', W', SB, fun y o e => k y o (fun m => ?_) (SS _ _ e)⟩
  obtain ⟨c, hc, q⟩ := List.mem_map.mp m
  obtain ⟨xs, hx⟩ := hl c hc
  have h1 := W.h c hc
  rw [hx] at h1
  have := ap _ _ h1
  rw [q, e] at this
  cases this
theorem zs_one {K : PySem.W.Frag} {C : Cs} {H : Hp} {x : Addr} {b : Nat} {zs : List Zn} (R : SysR K C H x b zs) : 1 ≤ len zs := by
  have hc := R.ok.c
  cases zs with
  | nil => exact absurd rfl R.ne
  | cons z l =>
    have h1 := hc z (.head _)
    have h2 : ∀ l : List Zn, (∀ y ∈ l, 1 ≤ y.c) → 0 ≤ len l := by
      intro l
      induction l with
      | nil => intro _; exact Int.le_refl _
      | cons y l ih =>
        intro h
        have := h y (.head _)
        have := ih fun k hk => h k (.tail _ hk)
        have e : len (y :: l) = y.c + len l := rfl
        omega
    have := h2 l fun y hy => hc y (.tail _ hy)
    have e : len (z :: l) = z.c + len l := rfl
    omega
theorem dp_zone {K : PySem.W.Frag} {H : Hp} {t o u : Addr} {z : Zn} (h1 : H t = some (.tup [.int z.c, .ref o, .ref u])) (h2 : H o = some (.lst (z.o.map V.int))) (h3 : H u = some (.lst (z.t.map V.int))) : Dp K H (.ref t) (zdG z) :=
  .tup (.inl (.inl h1)) (.cons (.int _) (.cons (.lst (SqL.of h2) (dpAll_ints _)) (.cons (.lst (SqL.of h3) (dpAll_ints _)) .nil)))
/-! ### a call that does not see lists of one's own -/
theorem _root_.L2.Def.frame {P : Program} {w : World} {K : PySem.W.Frag} {mg : Str → Option Value} {base : Heap} {k : Nat} {x : Str} {ps : List Str} {sp : Sp} (D : Def P w K mg base CX0 k x ps sp) : Def P w K mg base CX0 k x ps (spFr sp) := by
  obtain ⟨f, fd, F, hm, hk, hb⟩ := D.ex
  exact ⟨f, fd, F.frame, hm, hk, hb⟩
theorem own_frame {B H : Hp} {cs : List Cell} (W : Own B cs H) (hl : ∀ c ∈ cs, ∃ xs, c.2 = .lst xs) :
    ∃ B', Same B B' ∧ Drops B' H ∧ ∀ H1, Same B' H1 → (∀ a o, H a = some o → B' a = none → H1 a = none) → Own H1 cs (back H B' H1) := by
  obtain ⟨B', W', SB, k⟩ := W.rebase'
  refine ⟨B', SB, ⟨W'.s, fun y o e n => ?_⟩, fun H1 S1 hn => ⟨back_same, fun c hc => ?_, fun c hc => ?_, W'.d⟩⟩
  · by_cases m : y ∈ cs.map (·.1)
    · obtain ⟨c, hc, rfl⟩ := List.mem_map.mp m
      obtain ⟨xs, hx⟩ := hl c hc
      have := W'.h c hc
      rw [e] at this
      exact ⟨xs, by rw [Option.some.inj this, hx]⟩
    · rw [k y o m e] at n
      cases n
  · exact back_old (W'.h c hc) (W'.n c hc) (hn _ _ (W'.h c hc) (W'.n c hc))
  · exact hn _ _ (W'.h c hc) (W'.n c hc)
theorem own_gives {B H H' : Hp} {cs : List Cell} {p : Addr} {o : HO} (W : Own B cs H) (S : Same H H') (n : H p = none) (e : H' p = some o) : Own B ((p, o) :: cs) H' := by
  refine ⟨fun a u z => S _ _ (W.s _ _ z), fun c hc => ?_, fun c hc => ?_, ?_⟩
  · rcases List.mem_cons.mp hc with rfl | hc
    · exact e
    · exact S _ _ (W.h c hc)
  · rcases List.mem_cons.mp hc with rfl | hc
    · cases h : B p with
      | none => rfl
      | some u => rw [W.s _ _ h] at n; cases n
    · exact W.n c hc
  · rw [List.map_cons, List.nodup_cons]
    refine ⟨fun m => ?_, W.d⟩
    obtain ⟨c, hc, q⟩ := List.mem_map.mp m
    have h1 := W.h c hc
    rw [show c.1 = p from q, n] at h1
    cases h1
theorem cut_take (xs : List V) (n : Nat) : cutV xs none (some (n : Int)) = xs.take n := by
  unfold cutV
  have s1 : HT.sIx xs.length 0 none = 0 := rfl
  have s2 : HT.sIx xs.length xs.length (some (n : Int)) = min n xs.length := sIx_le2
  rw [s1, s2, List.drop_zero, Nat.sub_zero]
  by_cases h : n ≤ xs.length
  · rw [show min n xs.length = n by omega]
  · rw [show min n xs.length = xs.length by omega, List.take_length, List.take_of_length_le (by omega)]
theorem dpAll_of' {K : PySem.W.Frag} {H : Hp} : ∀ {vs : List V} {ds : List PyData}, vs.length = ds.length → (∀ (i : Nat) (d : PyData), ds[i]? = some d → ∃ v, vs[i]? = some v ∧ Dp K H v d) → DpAll K H vs ds
  | [], [], _, _ => .nil
  | [], _ :: _, h, _ => by simp at h
  | _ :: _, [], h, _ => by simp at h
  | v :: vs, d :: ds, h, q => by
    obtain ⟨v', e, hd⟩ := q 0 d rfl
    simp at e
    subst e
    exact .cons hd (dpAll_of' (by simpa using h) fun i d' e => q (i + 1) d' (by simpa using e))
/-- lists of one's own over a lesser base -/
theorem own_down {B B' H : Hp} {cs : List Cell} (W : Own B' cs H) (S : Same B B') : Own B cs H := by
  refine ⟨fun a u z => W.s _ _ (S _ _ z), W.h, fun c hc => ?_, W.d⟩
  cases h : B c.1 with
  | none => rfl
  | some u =>
    have := W.n c hc
    rw [S _ _ h] at this
    cases this
end Fb
set_option maxHeartbeats 1000000
namespace Fb
open PySem PySem.Spec PyProof.Rows L2
theorem kw_in : ∀ i, 5 ≤ i → i < 17 → inV (.str (kw i)) [.str "zones", .str "places"] = false := fun i h5 hi => (by decide +kernel : ∀ i, i < 17 → (5 ≤ i → inV (.str (kw i)) [.str "zones", .str "places"] = false)) i hi h5
theorem kw_eq2 : ∀ i, 5 ≤ i → i < 17 → decide (V.str (kw i) = V.str "text") = false := fun i h5 hi => (by decide +kernel : ∀ i, i < 17 → (5 ≤ i → decide (V.str (kw i) = V.str "text") = false)) i hi h5
theorem kw_eq3 : ∀ i, 5 ≤ i → i < 17 → decide (V.str (kw i) = V.str "large") = false := fun i h5 hi => (by decide +kernel : ∀ i, i < 17 → (5 ≤ i → decide (V.str (kw i) = V.str "large") = false)) i hi h5
theorem kw_eq4 : ∀ i, 5 ≤ i → i < 17 → decide (V.str (kw i) = V.str "over") = false := fun i h5 hi => (by decide +kernel : ∀ i, i < 17 → (5 ≤ i → decide (V.str (kw i) = V.str "over") = false)) i hi h5
theorem kw_len : ∀ i, i < 17 → (kw i).length ≤ 100 := by decide +kernel
theorem filt_one : ∀ i, i < 17 → ((List.range 17).filter fun k => decide (i = k)) = [i] := by decide +kernel
section
variable {P : Program} {w : World} {K : PySem.W.Frag} {mg : Str → Option Value} {base : Heap} {E : Nat → Addr}
theorem sc_law_kind : FnScope nm_law_kind ["_law_e"] (defScope s_law_kind) := ⟨rfl, rfl, rfl, by decide +kernel, rfl, by decide +kernel, by decide +kernel⟩
def spKind (K : PySem.W.Frag) (E : Nat → Addr) : Sp := fun vs H Q _ => ∃ (a : Addr) (i : Nat) (d : PyData), vs = [.ref a] ∧ ErrA K E H a i d ∧ 5 ≤ i ∧ ∀ H', Same H H' → Q (.str (kw i ++ Str.ofString "")) H'
theorem ok_law_kind {f : Addr} {fd : FuncData} (F : Fun K "_law_kind" "_law_kind" s_law_kind f fd) (bt : Bt mg bn) (T : ErrT K mg E) (D_law_kinds : Def P w K mg base CX0 1 "_law_kinds" ["_law_e"] (spKinds K E)) : FnG P w K mg base CX0 2 f fd ["_law_e"] (spKind K E) := by
  refine fnG_of F sc_law_kind (fun vs H Q E' h => ?_) (fun cdv A outer s H vs Q E' gd hr h => ?_)
  · obtain ⟨a, i, d, rfl, _⟩ := h
    rfl
  · obtain ⟨a, i, d, rfl, hA, hi5, q⟩ := h
    have hu : (A.deeper (envOfC "_law_kind" (defScope s_law_kind) s.heap.objs.size f cdv)).units + 80 < cLine := by have := hr.un; omega
    have D_law_kinds := D_law_kinds.frame
    refine ⟨_, (pss_cons (ps_set (i := 1) sc_law_kind.nd rfl (.inl rfl) (pe_lst pa_nil))
      (pss_cons (ps_for (passes_of rfl) rfl (pi_list (pe_callD D_law_kinds hr (by decide) pass0 (pa_cons (pv 0) pa_nil))) (pg_tup rfl (pgs_cons (pg_name (i := 2) sc_law_kind.nd rfl (.inl rfl)) (pgs_cons (pg_name (i := 3) sc_law_kind.nd rfl (.inl rfl)) pgs_nil)))
        (pss_one (ps_if (pt_val (pv 3))
          (pss_one (ps_expr (pe_bm PySem.F.plainAttrs_list PySem.F.slot_list_append PySem.F.type_list_append mt_append (pv 1) (pa_cons (pv 2) pa_nil))))
          pss_nil)))
      (pss_cons (ps_if (PW.pt (pw_or (pt_cmpR op_ne (pe_callB call_len_seq (by rfl) (bt "len" (by decide)) PySem.boot_len (pa_cons (pv 1) pa_nil)) pe_int (nomark _)) (pw_or1 (pt_not (pt_val (pe_callB (r := rIsT K) call_isT1 (by rfl) (bt "isinstance" (by decide)) PyProof.Rows.boot_isinstance (pa_cons (pv 0) (pa_cons (pe_bltn (v := .ty "ValueError") (by rfl) (bt "ValueError" (by decide)) PyProof.Rows.Boot.«ValueError» rfl) pa_nil))))))))
        (pss_one (ps_ret pe_str))
        pss_nil)
      (pss_cons (ps_if (pt_cmpR op_in_seq (pe_ix (r := rIxL K) ix_list (pv 1) pe_int (fun _ _ => rfl)) (pe_tup (pa_cons pe_str (pa_cons pe_str pa_nil))) (by rfl))
        (pss_one (ps_ret (pe_op op_add_str (pe_op op_add_str (pe_ix (r := rIxL K) ix_list (pv 1) pe_int (fun _ _ => rfl)) pe_str) (pe_callB (r := rRepr K) (call_repr gd hu) (by rfl) (bt "repr" (by decide)) PyProof.Rows.boot_repr (pa_cons (pe_fldT (pv 0)) pa_nil)))))
        pss_nil)
      (pss_cons (ps_if (pt_cmpR op_eq (pe_ix (r := rIxL K) ix_list (pv 1) pe_int (fun _ _ => rfl)) pe_str (nomark _))
        (pss_one (ps_ret (pe_op op_add_str pe_str (pe_callB (r := rRepr K) (call_repr gd hu) (by rfl) (bt "repr" (by decide)) PyProof.Rows.boot_repr (pa_cons (pe_fldT (pv 0)) pa_nil)))))
        pss_nil)
      (pss_cons (ps_if (pt_cmpR op_eq (pe_ix (r := rIxL K) ix_list (pv 1) pe_int (fun _ _ => rfl)) pe_str (nomark _))
        (pss_one (ps_ret (pe_op op_add_str pe_str (pe_callB (r := rRepr K) (call_repr gd hu) (by rfl) (bt "repr" (by decide)) PyProof.Rows.boot_repr (pa_cons (pe_fldT (pv 0)) pa_nil)))))
        pss_nil)
      (pss_one (ps_ret (pe_op op_add_str (pe_ix (r := rIxL K) ix_list (pv 1) pe_int (fun _ _ => rfl)) (pe_ifExp (pt_cmpR op_eq (pe_ix (r := rIxL K) ix_list (pv 1) pe_int (fun _ _ => rfl)) pe_str (nomark _)) (pe_op op_add_str pe_str (pe_callB (r := rRepr K) (call_repr gd hu) (by rfl) (bt "repr" (by decide)) PyProof.Rows.boot_repr (pa_cons (pe_fldT (pv 0)) pa_nil))) pe_str)))))))))), ?_⟩
    refine ⟨Nat.zero_le _, fun L nL => ?_⟩
    generalize e0 : upd _ L _ = H0
    have W0 := (Own.nil (H := H)).new nL e0
    clear e0
    obtain ⟨B1, SB1, DB1, fr1⟩ := own_frame W0 (fun c hc => by rw [List.mem_singleton.mp hc]; exact ⟨_, rfl⟩)
    refine ⟨_, rfl, B1, DB1, a, i, d, rfl, hA.same SB1, fun H1 v S1 hv n1 => ?_⟩
    have W1 := fr1 H1 S1 n1
    have hA1 := (hA.same SB1).same S1
    obtain ⟨p, xs, rfl, hs, hx⟩ := dp_lst hv
    have lx := dpAll_len hx
    rw [List.length_map, List.length_range] at lx
    refine ⟨p, rfl, ⟨_, W1.s.seq hs⟩, for_list (K := K) (a := p) (xs := xs) (fun j σ H' => ∃ y2 y3, σ = [some (.ref a), some (.ref L), y2, y3] ∧ Own H1 [(L, .lst ((((List.range 17).take j).filter fun k => decide (i = k)).map fun k => V.str (kw k)))] H') ⟨none, none, rfl, W1⟩ (fun j σ H' _ ⟨_, _, _, W⟩ => W.s.seq hs) ?_ ?_⟩
    · rintro j y σ H' hy ⟨y2, y3, rfl, W⟩
      obtain ⟨dd, h1, h2⟩ := dpAll_getV hx hy
      have hj : j < 17 := by
        rw [List.getElem?_eq_some_iff] at hy
        have := hy.1
        omega
      rw [List.getElem?_map, List.getElem?_range hj] at h1
      obtain rfl := (Option.some.inj h1).symm
      obtain ⟨p2, ys, rfl, hs2, hxs⟩ := dp_tup (dp_same W.s _ h2)
      cases hxs with
      | cons g1 g2 =>
      cases g1
      cases g2 with
      | cons g3 g4 =>
      cases g3
      cases g4
      have hr17 : (List.range 17)[j]? = some j := List.getElem?_range hj
      refine ⟨p2, _, rfl, hs2, rfl, _, _, rfl, _, _, rfl, rfl, ?_⟩
      refine ⟨_, rfl, decide (i = j), rfl, ?_⟩
      rw [take_snoc hr17, List.filter_append, List.map_append]
      cases hij : decide (i = j) with
      | true =>
        refine iteT ⟨_, rfl, .inl ⟨rfl, _, SqL.of W.g0⟩, _, rfl, L, _, _, rfl, rfl, W.g0, ?_, ?_⟩
        · rw [List.length_map]
          have := List.length_filter_le (fun k => decide (i = k)) ((List.range 17).take j)
          rw [List.length_take, List.length_range] at this
          exact big (by omega)
        · generalize e : upd _ L _ = H5
          have W5 := W.set0 e
          have e5 : ([j].filter fun k => decide (i = k)) = [j] := by
            rw [List.filter_cons, if_pos hij]
            rfl
          rw [e5]
          exact ⟨_, _, rfl, W5⟩
      | false =>
        refine iteF ?_
        have e5 : ([j].filter fun k => decide (i = k)) = [] := by
          rw [List.filter_cons, if_neg (by rw [hij]; exact Bool.false_ne_true)]
          rfl
        rw [e5, List.map_nil, List.append_nil]
        exact ⟨_, _, rfl, W⟩
    rintro σ H20 ⟨y2, y3, rfl, W20⟩
    rw [show (List.range 17).take xs.length = List.range 17 from List.take_of_length_le (by rw [lx]; decide), filt_one i hA.hi] at W20
    have hA20 := hA1.same W20.s
    have hD : H20 L = some (.lst [V.str (kw i)]) := W20.g0
    refine ⟨_, rfl, L, _, rfl, .inl (SqL.of hD), rfl, _, rfl, iteF ⟨_, rfl, a, E i, _, _, _, rfl, hA20.at_, T.ex i hA.hi, fun u h => h, T.kitV i hA.hi, _, rfl, iteF ?_⟩⟩
    refine ⟨_, rfl, L, _, 0, _, rfl, rfl, SqL.of hD, rfl, by show 2 ≤ sizeLine; decide, fun t3 nt3 => ?_⟩
    generalize e4 : upd _ t3 _ = H21
    have S21 : Same H20 H21 := by rw [← e4]; exact same1 nt3
    have ht3 : H21 t3 = some (.tup [V.str "zones", V.str "places"]) := by rw [← e4]; exact upd_same
    refine ⟨t3, _, rfl, .inr (.inl (.inl ht3)), rfl, rfl, ?_⟩
    have hD' := S21 _ _ hD
    rw [if_neg Bool.false_ne_true, kw_in i hi5 hA.hi]
    refine ⟨_, rfl, iteF ?_⟩
    refine ⟨_, rfl, L, _, 0, _, rfl, rfl, SqL.of hD', rfl, rfl, _, rfl, ?_⟩
    rw [kw_eq2 i hi5 hA.hi]
    refine iteF ⟨_, rfl, L, _, 0, _, rfl, rfl, SqL.of hD', rfl, rfl, _, rfl, ?_⟩
    rw [kw_eq3 i hi5 hA.hi]
    refine iteF ⟨_, rfl, L, _, 0, _, rfl, rfl, SqL.of hD', rfl, ?_⟩
    refine ⟨_, rfl, L, _, 0, _, rfl, rfl, SqL.of hD', rfl, rfl, _, rfl, ?_⟩
    rw [kw_eq4 i hi5 hA.hi]
    refine iteF ⟨_, _, rfl, rfl, by have := kw_len i hA.hi; have e5 : (Str.ofString "").length = 0 := (by decide); rw [e5]; exact big2 (by omega), ?_⟩
    exact q H21 (((SB1.trans S1).trans W20.s).trans S21)
end
end Fb
set_option maxHeartbeats 4000000
/-! how long a repr is, with texts and dicts -/
namespace L2
open PySem PySem.Spec PyProof.Rows
mutual
def szS : PyData → Nat
  | .none => 1921 | .bool _ => 1921 | .int _ => 1921 | .str s => (PyData.shown (.str s)).length
  | .list ds => szSA ds + 2
  | .tuple ds => szSA ds + 3
  | .dict kvs => (PyData.shown (.dict kvs)).length
def szSA : List PyData → Nat
  | [] => 0
  | d :: ds => szS d + 2 + szSA ds
end
mutual
theorem shown_leS : ∀ d : PyData, d.showable = true → d.shown.length ≤ szS d
  | .none, _ => by
    show (Str.ofString "None").length ≤ 1921
    decide
  | .bool b, _ => by
    cases b
    · show (Str.ofString "False").length ≤ 1921
      decide
    · show (Str.ofString "True").length ≤ 1921
      decide
  | .int i, h => PyProof.Rows.int_text_len_1921 (of_decide_eq_true h)
  | .str s, h => by
    show _ ≤ (PyData.shown (.str s)).length
    exact Nat.le_refl _
  | .list ds, h2 => by
    have h := shownAll_leS ds h2
    have t := textFrom_le (PyData.shownAll ds) 0 "["
    have e : (Str.ofString "[").length = 1 := by decide
    have e2 : (Str.ofString "]").length = 1 := by decide
    show (textFrom 0 "[" (PyData.shownAll ds) ++ Str.ofString "]").length ≤ szSA ds + 2
    rw [Str.length_append]
    omega
  | .tuple ds, h2 => by
    have h := shownAll_leS ds h2
    have t := tupleText_le (PyData.shownAll ds)
    show (tupleText (PyData.shownAll ds)).length ≤ szSA ds + 3
    omega
  | .dict kvs, h => by
    show _ ≤ (PyData.shown (.dict kvs)).length
    exact Nat.le_refl _
theorem shownAll_leS : ∀ ds : List PyData, PyData.showableAll ds = true → ((PyData.shownAll ds).map fun t => t.length + 2).sum ≤ szSA ds
  | [], _ => Nat.zero_le _
  | d :: ds, h2 => by
    have g2 : d.showable = true ∧ PyData.showableAll ds = true := Bool.and_eq_true_iff.mp h2
    have a := shown_leS d g2.1
    have b := shownAll_leS ds g2.2
    show (d.shown.length + 2) + ((PyData.shownAll ds).map fun t => t.length + 2).sum ≤ szS d + 2 + szSA ds
    omega
end
mutual
theorem szS_of : ∀ d : PyData, noTx d = true → szS d = szD d
  | .none, _ => rfl
  | .bool _, _ => rfl
  | .int _, _ => rfl
  | .str _, h => nomatch h
  | .list ds, h => by
    show szSA ds + 2 = szA ds + 2
    rw [szSA_of ds h]
  | .tuple ds, h => by
    show szSA ds + 3 = szA ds + 3
    rw [szSA_of ds h]
  | .dict _, h => nomatch h
theorem szSA_of : ∀ ds : List PyData, noTxA ds = true → szSA ds = szA ds
  | [], _ => rfl
  | d :: ds, h => by
    have g1 : noTx d = true ∧ noTxA ds = true := Bool.and_eq_true_iff.mp h
    show szS d + 2 + szSA ds = szD d + 2 + szA ds
    rw [szS_of d g1.1, szSA_of ds g1.2]
end
end L2
namespace Fb
open PySem PySem.Spec PyProof.Rows L2
theorem rpS_of {d : PyData} {n : Nat} (h2 : d.showable = true) (h3 : d.canLay0 = true) (h4 : d.depth ≤ 64) (h5 : szS d ≤ n) (hn : n ≤ 10000000) : Rp d :=
  ⟨shaped_of h3 h4, h2, by
    have := shown_leS d h2
    exact big2 (by omega)⟩
end Fb
namespace L2
open PySem PySem.Spec PyProof.Rows
def tMakeE (C : Addr) (sp : Sp) (E : L2.St → XK) (t : TA) : TE := fun σ H Q => t σ H fun vs H1 => ∀ x dx, H1 x = none → H1 dx = none → dx ≠ x →
  sp (.ref x :: vs) (upd (upd H1 dx (.own x)) x (.ins C dx [])) (fun v H2 => v = .non ∧ Q (.ref x) H2) (E σ)
def tMethEA (C : Addr) (m : Str) (sp : Sp) (E : L2.St → XK) (ta : TE) (t : TA) : TE := fun σ H Q => ta σ H fun x H1 => ∃ a dx fs, x = .ref a ∧ H1 a = some (.ins C dx fs) ∧ fs.lookup m = none ∧ t σ H1 fun vs H2 => sp (.ref a :: vs) H2 Q (E σ)
section
variable {X : Cx} {CX : CXT} {m x : Str} {k j : Nat} {ps : List Str} {sp : Sp} {E : L2.St → XK} {p pos apos : Pos} {o e : Expr} {es : List Expr} {C : Addr} {ta : TE} {t : TA}
/-- a method call with arguments in a try -/
theorem pe_methEA {pl : Sem Bool} (D : DMeth X.prog X.w X.K X.mg X.base CX k C m ps sp) (hr : Room j X.A) (hkj : k ≤ j) (hx : ∀ σ, PassesAt CX X σ (E σ)) (ho : PE X o ta) (ha : PA X (e :: es) t)
    (hst : starEach (e :: es) X.env = (false, eval e X.env) :: starEach es X.env := by rfl) (hpl : (backTo pos (starEach es X.env)).any (·.1) = false := by rfl)
    (ht : eval (.Call (.Attribute o m apos) (e :: es) [] pos) X.env = (do
      let ov ← eval o X.env
      standAt apos.atName
      let (f, first) ← holding [ov] (getMethod ov m pl)
      callWith pos f first (backTo pos (starEach (e :: es) X.env)) (backToKw pos (keywordEach [] X.env))) := by rfl) : PE X (.Call (.Attribute o m apos) (e :: es) [] pos) (tMethEA C m sp E ta t) := by
  obtain ⟨f, fd, M, F, hb⟩ := D.ex
  refine ⟨fun pins s σ H Q I h => ?_⟩
  refine PySem.W.methodCall_KW (pl := pl) (thn (ho.run pins s σ H _ I h) fun u s1 ⟨x, H1, I1, rx, a, dx, fs, ex, ea, l, q⟩ => ?_) ht
  subst ex
  obtain rfl : u = Value.ref a := rx
  refine getmeth_ok I1 ea D.cl M l ?_
  refine PySem.W.callWith_K (first := [.ref a]) (h₀ := X.base) I.ok.mod.kin M.kp (thn (ha.run pos pins s1 σ H1 _ I1 q) fun us s2 ⟨vs, H2, I2, r, q2⟩ => ⟨I2.kIn, ?_⟩) hst hpl
  exact run_fnS (us := .ref a :: us) (vs := .ref a :: vs) F (hr.mono hkj) hb (hx σ) I2 (.cons rfl r) q2
/-- a new instance in a try -/
theorem pe_makeE (D : DMake X.prog X.w X.K X.mg X.base CX k x C ps sp) (hr : Room j X.A) (hkj : k + 1 ≤ j) (hx : ∀ σ, PassesAt CX X σ (E σ)) (ha : PA X (e :: es) t) (hg : Gl X x := by rfl) (hdb : (x == ("__debug__" : Str)) = false := by decide)
    (he : starEach (e :: es) X.env = (false, eval e X.env) :: starEach es X.env := by rfl) (hpl : (backTo pos (starEach es X.env)).any (·.1) = false := by rfl) : PE X (.Call (.Name x p) (e :: es) [] pos) (tMakeE C sp E t) := by
  obtain ⟨f, fd, M, F, hb⟩ := D.ex
  have hr := hr.mono hkj
  refine ⟨fun pins s σ H Q I h => ?_⟩
  refine wpAny_Call_Name_kw (ld_glob I hg D.gC ?_ hdb)
  refine PySem.W.callWith_K (h₀ := X.base) I.ok.mod.kin M.kp (thn (ha.run pos pins s σ H _ I h) fun us s1 ⟨vs, H1, I1, r, q⟩ => ⟨I1.kIn, ?_⟩) he hpl
  show wpAny _ _ (call (.ref C) us) _ _ _
  have hq := q (s1.heap.objs.size + 1) s1.heap.objs.size (I1.hok.fresh (Nat.le_succ _)) (I1.hok.fresh (Nat.le_refl _)) (Nat.ne_of_lt (Nat.lt_succ_self _))
  have I2 := Inv.made (C := C) I1
  have r2 : Vals (V.ref (s1.heap.objs.size + 1) :: vs) (Value.ref (s1.heap.objs.size + 1) :: us) := .cons rfl r
  have hl : ((Value.ref (s1.heap.objs.size + 1) :: us) ++ []).length = ps.length := by
    rw [List.append_nil, ← r2.length]
    exact F.len _ _ _ _ hq
  have hb2 := hb _ (Value.ref (s1.heap.objs.size + 1) :: us) I2.kIn hl
  rw [List.append_nil] at hb2
  refine wpAny_call (make_map (f := f) I1.kIn M.makes M.init (beq_iff_eq.mp M.fn) (codeAny_mono (F.run _ X.stack _ _ ⟨Value.ref (s1.heap.objs.size + 1) :: us, []⟩ (Value.ref (s1.heap.objs.size + 1) :: us) _ _ (E σ) (hr.make C us [])
    (I2.env0.make C us []) hb2 r2 hq) fun r s' hq' => ?_))
  cases r with
  | error e => exact hx σ pins _ _ e s' I2 hq'
  | ok fl =>
    cases fl with
    | ret u =>
      obtain ⟨v, H', I3, rv, ev, q3⟩ := I2.after hq'
      subst ev
      exact ⟨rv, ⟨V.ref (s1.heap.objs.size + 1), H', I3, rfl, q3⟩⟩
    | next => exact False.elim hq'
    | brk => exact False.elim hq'
    | cont => exact False.elim hq'
end
end L2
namespace L2
open PySem PySem.Spec PyProof.Rows
section
variable {X : Cx} {CX : CXT} {x : Str} {k j : Nat} {ps : List Str} {sp : Sp} {E : L2.St → XK} {p pos : Pos} {e : Expr} {es : List Expr} {t : TA}
/-- a call in a try -/
theorem pe_callE (D : Def X.prog X.w X.K X.mg X.base CX k x ps sp) (hr : Room j X.A) (hkj : k ≤ j) (hx : ∀ σ, PassesAt CX X σ (E σ)) (ha : PA X (e :: es) t) (hg : Gl X x := by rfl) (hdb : (x == ("__debug__" : Str)) = false := by decide)
    (he : starEach (e :: es) X.env = (false, eval e X.env) :: starEach es X.env := by rfl) (hpl : (backTo pos (starEach es X.env)).any (·.1) = false := by rfl) : PE X (.Call (.Name x p) (e :: es) [] pos) (tCallS sp E t) := by
  obtain ⟨f, fd, F, hm, hk, hb⟩ := D.ex
  exact pe_callS F (hr.mono hkj) hg hm hk hb hx ha hdb he hpl
end
end L2
namespace Fb
open PySem PySem.Spec PyProof.Rows L2
section
variable {P : Program} {w : World} {K : PySem.W.Frag} {mg : Str → Option Value} {base : Heap}
theorem sc_size_of : FnScope nm_size_of ["mask"] (defScope s_size_of) := ⟨rfl, rfl, rfl, by decide +kernel, rfl, by decide +kernel, by decide +kernel⟩
def spSize : Sp := fun vs H Q _ => ∃ m : Nat, vs = [.int (m : Int)] ∧ m < 2 ^ 22 ∧ Q (.int (bitsN 22 m : Nat)) H
theorem ok_size_of {f : Addr} {fd : FuncData} (F : Fun K "size_of" "size_of" s_size_of f fd) (bt : Bt mg bn) : FnOk P w K mg base CX0 1 f fd ["mask"] spSize := by
  refine F.ok sc_size_of (fun vs H Q E h => ?_) (fun cdv A outer s H vs Q E hr h => ?_)
  · obtain ⟨m, rfl, _⟩ := h
    rfl
  · obtain ⟨m, rfl, hm, q⟩ := h
    refine ⟨_, (pss_one (ps_ret (pe_bm PySem.F.plainAttrs_str PySem.F.slot_str_count PySem.F.type_str_count mt_count (pe_joined1 (pe_fmtB (pv 0) (pe_joined1 pe_str))) (pa_cons pe_str pa_nil)))), ?_⟩
    refine ⟨_, rfl, m, rfl, Nat.lt_of_lt_of_le hm (Nat.pow_le_pow_right (by decide) (by decide)), rfl, rfl, _, _, rfl, rfl, ?_⟩
    rw [digT_count hm]
    exact q
end
end Fb
namespace Fb
open PySem PySem.Spec PyProof.Rows L2
section
variable {P : Program} {w : World} {K : PySem.W.Frag} {mg : Str → Option Value} {base : Heap}
theorem sys_told' {C : Cs} {H : Hp} {x : Addr} {b : Nat} {zs : List Zn} (R : SysR K C H x b zs) : (∀ z ∈ toldZ zs, 1 ≤ z.c) ∧ len (toldZ zs) = len zs ∧ ZOk b (toldZ zs) ∧ (toldZ zs).length ≤ zs.length + 16 := by
  have hc : ∀ z ∈ zs, 0 ≤ z.c := fun z hz => by have := R.ok.c z hz; omega
  have Z := R.ok.told (by have := R.n; omega)
  refine ⟨Z.c, told_sum zs hc, Z, ?_⟩
  have h1 := mergedZ_len (trimmedZ zs)
  have h2 := trimmedZ_len zs hc
  unfold toldZ
  omega
end
end Fb
namespace Fb
open PySem PySem.Spec PyProof.Rows L2
/-! ### kinds: what a span has, told by some of its unknowns -/
def rgI (lo hi : Int) : List Int := (List.range (hi - lo).toNat).map fun (i : Nat) => lo + (i : Int)
theorem rgI_mem {lo hi u : Int} : u ∈ rgI lo hi ↔ lo ≤ u ∧ u < hi := by
  unfold rgI
  rw [List.mem_map]
  constructor
  · rintro ⟨i, hi', rfl⟩
    rw [List.mem_range] at hi'
    omega
  · rintro ⟨h1, h2⟩
    exact ⟨(u - lo).toNat, List.mem_range.mpr (by omega), by omega⟩
theorem rgI_asc (lo hi : Int) : (rgI lo hi).Pairwise (· < ·) := by
  unfold rgI
  rw [List.pairwise_map]
  exact List.pairwise_lt_range.imp fun h => by omega
theorem rgI_len (lo hi : Int) : (rgI lo hi).length = (hi - lo).toNat := by
  unfold rgI
  rw [List.length_map, List.length_range]
theorem rgI_nil {lo hi : Int} (h : hi ≤ lo) : rgI lo hi = [] := by
  unfold rgI
  rw [show (hi - lo).toNat = 0 by omega]
  rfl
theorem rgI_snoc {lo hi : Int} (h : lo ≤ hi) : rgI lo (hi + 1) = rgI lo hi ++ [hi] := by
  unfold rgI
  rw [show (hi + 1 - lo).toNat = (hi - lo).toNat + 1 by omega, List.range_succ, List.map_append]
  congr 1
  show [lo + ((hi - lo).toNat : Int)] = [hi]
  congr 1
  omega
theorem rgI_cat {lo mid hi : Int} (h1 : lo ≤ mid) (h2 : mid ≤ hi) : rgI lo hi = rgI lo mid ++ rgI mid hi := by
  obtain ⟨n, rfl⟩ : ∃ n : Nat, hi = mid + (n : Int) := ⟨(hi - mid).toNat, by omega⟩
  clear h2
  induction n with
  | zero =>
    rw [show mid + ((0 : Nat) : Int) = mid by omega, rgI_nil (Int.le_refl mid), List.append_nil]
  | succ n ih =>
    rw [show mid + ((n + 1 : Nat) : Int) = mid + (n : Int) + 1 by omega, rgI_snoc (by omega), rgI_snoc (by omega), ih, List.append_assoc]
structure KindsOk (val : Int → Nat) (b e : Int) (L : List (Int × Nat × Int)) : Prop where
  sum : ∀ F : Nat → Int, (L.map fun x => x.2.2 * F x.2.1).sum = ((rgI b e).map fun u => F (val u)).sum
  one : ∀ x ∈ L, b ≤ x.1 ∧ x.1 < e ∧ x.2.1 = val x.1 ∧ 1 ≤ x.2.2
  asc : L.Pairwise fun x y => x.1 < y.1
  cov : ∀ u, b ≤ u → u < e → ∃ x ∈ L, x.1 ≤ u ∧ x.2.1 = val u
theorem KindsOk.nil {val : Int → Nat} {b e : Int} (h : e ≤ b) : KindsOk val b e [] := ⟨fun F => by rw [rgI_nil h]; rfl, (fun x h => nomatch h), .nil, fun u h1 h2 => by omega⟩
theorem KindsOk.cat {val : Int → Nat} {b m e : Int} {L M : List (Int × Nat × Int)} (hL : KindsOk val b m L) (hM : KindsOk val m e M) (h1 : b ≤ m) (h2 : m ≤ e) : KindsOk val b e (L ++ M) := by
  refine ⟨fun F => ?_, fun x hx => ?_, ?_, fun u u1 u2 => ?_⟩
  · rw [rgI_cat h1 h2, List.map_append, List.map_append, List.sum_append, List.sum_append, hL.sum, hM.sum]
  · rcases List.mem_append.mp hx with q | q
    · have := hL.one x q
      exact ⟨this.1, by omega, this.2.2⟩
    · have := hM.one x q
      exact ⟨by omega, this.2⟩
  · rw [List.pairwise_append]
    refine ⟨hL.asc, hM.asc, fun x hx y hy => ?_⟩
    have := hL.one x hx
    have := hM.one y hy
    omega
  · by_cases h : u < m
    · obtain ⟨x, x1, x2⟩ := hL.cov u u1 h
      exact ⟨x, List.mem_append_left _ x1, x2⟩
    · obtain ⟨x, x1, x2⟩ := hM.cov u (by omega) u2
      exact ⟨x, List.mem_append_right _ x1, x2⟩
/-- one by one -/
theorem kinds_ones (val : Int → Nat) (b e : Int) : KindsOk val b e ((rgI b e).map fun u => (u, val u, 1)) := by
  refine ⟨fun F => ?_, fun x hx => ?_, ?_, fun u h1 h2 => ⟨(u, val u, 1), List.mem_map.mpr ⟨u, rgI_mem.mpr ⟨h1, h2⟩, rfl⟩, Int.le_refl _, rfl⟩⟩
  · rw [List.map_map]
    congr 1
    apply List.map_congr_left
    intro u _
    show (1 : Int) * F (val u) = _
    omega
  · obtain ⟨u, hu, rfl⟩ := List.mem_map.mp hx
    rw [rgI_mem] at hu
    exact ⟨hu.1, hu.2, rfl, Int.le_refl _⟩
  · rw [List.pairwise_map]
    exact rgI_asc b e
/-! a period again and again -/
theorem sum_add {α : Type} (l : List α) (f g : α → Int) : (l.map fun x => f x + g x).sum = (l.map f).sum + (l.map g).sum := by
  induction l with
  | nil => rfl
  | cons x l ih =>
    rw [List.map_cons, List.map_cons, List.map_cons, List.sum_cons, List.sum_cons, List.sum_cons, ih]
    omega
theorem sum_zero {α : Type} (l : List α) : (l.map fun _ => (0 : Int)).sum = 0 := by
  induction l with
  | nil => rfl
  | cons x l ih => rw [List.map_cons, List.sum_cons, ih]; rfl
theorem sum_pick {l : List Int} {r c : Int} (nd : l.Pairwise (· < ·)) (h : r ∈ l) : (l.map fun u => if u = r then c else 0).sum = c := by
  induction l with
  | nil => cases h
  | cons x l ih =>
    rw [List.pairwise_cons] at nd
    rw [List.map_cons, List.sum_cons]
    rcases List.mem_cons.mp h with q | q
    · rw [if_pos q.symm]
      have e : (l.map fun u => if u = r then c else 0) = l.map fun _ => (0 : Int) := List.map_congr_left fun y hy => if_neg fun z => by
        have := nd.1 y hy
        omega
      rw [e, sum_zero]
      omega
    · rw [if_neg fun z => by have := nd.1 r q; omega, ih nd.2 q]
      omega
theorem div_step {d i p : Int} (hp : 1 ≤ p) (h0 : 0 ≤ i) (h1 : i < p) (hd : p ≤ d) : (d - i) / p = (d - 1 - i) / p + if i = d % p then 1 else 0 := by
  have e1 := Int.emod_add_mul_ediv d p
  have r1 := Int.emod_nonneg d (show p ≠ 0 by omega)
  have r2 := Int.emod_lt_of_pos d (show 0 < p by omega)
  have key : ∀ {x y : Int}, y * p ≤ x → x < y * p + p → x / p = y := fun {x y} h1 h2 => by
    refine Int.le_antisymm ?_ ?_
    · exact Int.lt_add_one_iff.mp (Int.ediv_lt_of_lt_mul (by omega) (by rw [Int.add_mul]; omega))
    · exact (Int.le_ediv_iff_mul_le (by omega)).mpr h1
  generalize d / p = q at e1
  generalize d % p = r at e1 r1 r2
  rw [Int.mul_comm p q] at e1
  have em : (q - 1) * p = q * p - p := by rw [Int.sub_mul]; omega
  by_cases h : i = r
  · rw [if_pos h]
    have a1 : (d - i) / p = q := key (by omega) (by omega)
    have a2 : (d - 1 - i) / p = q - 1 := key (by omega) (by omega)
    omega
  · rw [if_neg h]
    by_cases hl : i < r
    · have a1 : (d - i) / p = q := key (by omega) (by omega)
      have a2 : (d - 1 - i) / p = q := key (by omega) (by omega)
      omega
    · have a1 : (d - i) / p = q - 1 := key (by omega) (by omega)
      have a2 : (d - 1 - i) / p = q - 1 := key (by omega) (by omega)
      omega
theorem period_to {val : Int → Nat} {a p e : Int} (hp : 1 ≤ p) (hv : ∀ u, a ≤ u → u + p < e → val (u + p) = val u) : ∀ (n : Nat) (u : Int), (u - a).toNat ≤ n → a ≤ u → u < e → val u = val (a + (u - a) % p)
  | n, u, hn, h1, h2 => by
    by_cases h : u < a + p
    · rw [Int.emod_eq_of_lt (by omega) (by omega)]
      congr 1
      omega
    · cases n with
      | zero => omega
      | succ n =>
        have ih := period_to hp hv n (u - p) (by omega) (by omega) (by omega)
        have e1 := hv (u - p) (by omega) (by omega)
        rw [show u - p + p = u by omega] at e1
        rw [e1, ih, show u - p - a = (u - a) - p by omega, Int.sub_emod_right]
theorem kinds_again {val : Int → Nat} {a p : Int} (hp : 1 ≤ p) : ∀ (n : Nat) (e : Int), e = a + (n : Int) → (∀ u, a ≤ u → u + p < e → val (u + p) = val u) → ∀ F : Nat → Int,
    ((rgI a (if e < a + p then e else a + p)).map fun u => ((e - 1 - u) / p + 1) * F (val u)).sum = ((rgI a e).map fun u => F (val u)).sum
  | 0, e, he, _, F => by
    rw [rgI_nil (show e ≤ a by omega), rgI_nil (by split <;> omega)]
    rfl
  | n + 1, e, he, hv, F => by
    have ih := kinds_again hp n (e - 1) (by omega) (fun u h1 h2 => hv u h1 (by omega)) F
    have e1 : rgI a e = rgI a (e - 1) ++ [e - 1] := by
      have := rgI_snoc (lo := a) (hi := e - 1) (by omega)
      rw [show e - 1 + 1 = e by omega] at this
      exact this
    rw [e1, List.map_append, List.sum_append, ← ih, List.map_singleton, List.sum_singleton]
    by_cases h : e - 1 < a + p
    · -- the first period
      have w1 : (if e < a + p then e else a + p) = e := by split <;> omega
      have w2 : (if e - 1 < a + p then e - 1 else a + p) = e - 1 := if_pos h
      rw [w1, w2, e1, List.map_append, List.sum_append, List.map_singleton, List.sum_singleton]
      have z : (e - 1 - (e - 1)) / p = 0 := by rw [Int.sub_self]; exact Int.zero_ediv p
      rw [z]
      have c : ((rgI a (e - 1)).map fun u => ((e - 1 - u) / p + 1) * F (val u)) = (rgI a (e - 1)).map fun u => ((e - 1 - 1 - u) / p + 1) * F (val u) := List.map_congr_left fun u hu => by
        rw [rgI_mem] at hu
        have z1 : (e - 1 - u) / p = 0 := Int.ediv_eq_zero_of_lt (by omega) (by omega)
        have z2 : (e - 1 - 1 - u) / p = 0 := Int.ediv_eq_zero_of_lt (by omega) (by omega)
        rw [z1, z2]
      rw [c]
      omega
    · have w1 : (if e < a + p then e else a + p) = a + p := by split <;> omega
      have w2 : (if e - 1 < a + p then e - 1 else a + p) = a + p := if_neg h
      rw [w1, w2]
      have c : ((rgI a (a + p)).map fun u => ((e - 1 - u) / p + 1) * F (val u)) = (rgI a (a + p)).map fun u => ((e - 1 - 1 - u) / p + 1) * F (val u) + if u = a + (e - 1 - a) % p then F (val (e - 1)) else 0 := List.map_congr_left fun u hu => by
        rw [rgI_mem] at hu
        have z := div_step (d := e - 1 - a) (i := u - a) hp (by omega) (by omega) (by omega)
        rw [show e - 1 - a - (u - a) = e - 1 - u by omega, show e - 1 - a - 1 - (u - a) = e - 1 - 1 - u by omega] at z
        rw [z]
        by_cases q : u = a + (e - 1 - a) % p
        · rw [if_pos (show u - a = (e - 1 - a) % p by omega), if_pos q]
          have v := period_to hp hv _ (e - 1) (Nat.le_refl _) (by omega) (by omega)
          rw [v, ← q, show ((e - 1 - 1 - u) / p + 1 + 1) * F (val u) = ((e - 1 - 1 - u) / p + 1) * F (val u) + 1 * F (val u) from Int.add_mul _ _ _]
          omega
        · rw [if_neg (show ¬ u - a = (e - 1 - a) % p by omega), if_neg q, Int.add_zero, Int.add_zero]
      rw [c, sum_add, sum_pick (rgI_asc _ _) (rgI_mem.mpr ⟨by have := Int.emod_nonneg (e - 1 - a) (show p ≠ 0 by omega); omega, by have := Int.emod_lt_of_pos (e - 1 - a) (show 0 < p by omega); omega⟩)]
theorem kinds_period {val : Int → Nat} {a p e : Int} (hp : 1 ≤ p) (hv : ∀ u, a ≤ u → u + p < e → val (u + p) = val u) : KindsOk val a e ((rgI a (if e < a + p then e else a + p)).map fun u => (u, val u, (e - 1 - u) / p + 1)) := by
  by_cases hae : e ≤ a
  · rw [rgI_nil (show (if e < a + p then e else a + p) ≤ a by split <;> omega)]
    exact .nil hae
  refine ⟨fun F => ?_, fun x hx => ?_, ?_, fun u h1 h2 => ?_⟩
  · rw [List.map_map]
    exact kinds_again hp (e - a).toNat e (by omega) hv F
  · obtain ⟨u, hu, rfl⟩ := List.mem_map.mp hx
    rw [rgI_mem] at hu
    have hue : u < e := by
      have := hu.2
      split at this <;> omega
    refine ⟨hu.1, hue, rfl, ?_⟩
    have := Int.ediv_nonneg (show 0 ≤ e - 1 - u by omega) (show 0 ≤ p by omega)
    show 1 ≤ (e - 1 - u) / p + 1
    omega
  · rw [List.pairwise_map]
    exact rgI_asc _ _
  · have r1 := Int.emod_nonneg (u - a) (show p ≠ 0 by omega)
    have r2 := Int.emod_lt_of_pos (u - a) (show 0 < p by omega)
    have r3 : (u - a) % p ≤ u - a := by
      have := Int.emod_add_mul_ediv (u - a) p
      have := Int.mul_nonneg (show 0 ≤ p by omega) (Int.ediv_nonneg (show 0 ≤ u - a by omega) (show 0 ≤ p by omega))
      omega
    refine ⟨(a + (u - a) % p, _, _), List.mem_map.mpr ⟨a + (u - a) % p, rgI_mem.mpr ⟨by omega, by split <;> omega⟩, rfl⟩, by show a + (u - a) % p ≤ u; omega, ?_⟩
    exact (period_to hp hv _ u (Nat.le_refl _) h1 h2).symm
end Fb
namespace Fb
open PySem PySem.Spec PyProof.Rows L2
/-- what is kept of a function of the unknowns of a zone -/
def Per (f : Nat → Nat) (c n tail : Nat) : Prop := (tail = n ∧ n = c) ∨ (tail < n ∧ n < c ∧ ∀ j, j < c → f j = f (atN n tail j))
theorem atN_step {n tail j : Nat} (h1 : tail < n) (h2 : tail ≤ j) : atN n tail (j + (n - tail)) = tail + (j - tail) % (n - tail) := by
  unfold atN
  rw [if_neg (by omega), show j + (n - tail) - tail = (j - tail) + (n - tail) by omega, Nat.add_mod_right]
theorem ms_per {z : Zn} {ss : List Nat} {n tail : Nat} (h : Told (zd z) ss z.c.toNat n tail) : Per (WM.Ms (zd z) ss) z.c.toNat n tail := by
  have h' := h
  rcases h with ⟨h1, h2⟩ | ⟨h1, h2, h3⟩
  · exact .inl ⟨h1, h2⟩
  · exact .inr ⟨h1, h2, fun j hj => (h'.ms hj).symm⟩
theorem list_getD_ext {a b : List (List Int)} (hl : a.length = b.length) (h : ∀ k, k < a.length → a.getD k [] = b.getD k []) : a = b := by
  refine List.ext_getElem hl fun k h1 h2 => ?_
  have := h k h1
  rw [List.getD_eq_getElem?_getD, List.getD_eq_getElem?_getD, List.getElem?_eq_getElem h1, List.getElem?_eq_getElem h2] at this
  exact this
end Fb
namespace Fb
open PySem PySem.Spec PyProof.Rows L2
/-! ### kinds of a stretch -/
def kD (x : Int × Nat × Int) : PyData := .tuple [.int x.1, .int ((x.2.1 : Nat) : Int), .int x.2.2]
def kindsS (f : Nat → Nat) (b0 : Int) (n tail : Nat) (b' e' : Int) : List (Int × Nat × Int) :=
  ((rgI b' (if (if b0 + (tail : Int) > b' then b0 + (tail : Int) else b') < e' then (if b0 + (tail : Int) > b' then b0 + (tail : Int) else b') else e')).map fun u => (u, f (u - b0).toNat, 1)) ++
    ((rgI (if b0 + (tail : Int) > b' then b0 + (tail : Int) else b') (if (if b0 + (tail : Int) > b' then b0 + (tail : Int) else b') + ((n : Int) - (tail : Int)) < e' then (if b0 + (tail : Int) > b' then b0 + (tail : Int) else b') + ((n : Int) - (tail : Int)) else e')).map fun u => (u, f (u - b0).toNat, (e' - 1 - u) / ((n : Int) - (tail : Int)) + 1))
theorem kindsS_ok {f : Nat → Nat} {b0 : Int} {c n tail : Nat} {b' e' : Int} (P : Per f c n tail) (hb : b0 ≤ b') (he : e' ≤ b0 + (c : Int)) : KindsOk (fun u => f (u - b0).toNat) b' e' (kindsS f b0 n tail b' e') := by
  unfold kindsS
  generalize ha : (if b0 + (tail : Int) > b' then b0 + (tail : Int) else b') = a
  have ha' : b' ≤ a ∧ b0 + (tail : Int) ≤ a := by
    rw [← ha]
    split <;> omega
  by_cases hbe : e' ≤ b'
  · rw [rgI_nil (show (if a < e' then a else e') ≤ b' by split <;> omega), rgI_nil (lo := a) (by split <;> omega)]
    exact .nil hbe
  by_cases hae : a < e'
  · rw [if_pos hae]
    refine (kinds_ones _ b' a).cat ?_ ha'.1 (by omega)
    rcases P with ⟨h1, h2⟩ | ⟨h1, h2, h3⟩
    · omega
    · have e1 : (if a + ((n : Int) - (tail : Int)) < e' then a + ((n : Int) - (tail : Int)) else e') = if e' < a + ((n : Int) - (tail : Int)) then e' else a + ((n : Int) - (tail : Int)) := by
        split <;> split <;> omega
      rw [e1]
      refine kinds_period (val := fun u => f (u - b0).toNat) (by omega) fun u u1 u2 => ?_
      show f (u + ((n : Int) - (tail : Int)) - b0).toNat = f (u - b0).toNat
      have j1 : (u + ((n : Int) - (tail : Int)) - b0).toNat = (u - b0).toNat + (n - tail) := by omega
      rw [j1, h3 _ (by omega), atN_step h1 (by omega)]
      by_cases hn : (u - b0).toNat < n
      · congr 1
        have : ((u - b0).toNat - tail) % (n - tail) = (u - b0).toNat - tail := Nat.mod_eq_of_lt (by omega)
        omega
      · rw [h3 (u - b0).toNat (by omega)]
        unfold atN
        rw [if_neg hn]
  · rw [if_neg hae, rgI_nil (lo := a) (by split <;> omega), List.map_nil, List.append_nil]
    exact kinds_ones _ b' e'
theorem kindsS_len {f : Nat → Nat} {b0 : Int} {n tail : Nat} {b' e' : Int} (hb : b0 ≤ b') (ht : tail ≤ n) : (kindsS f b0 n tail b' e').length ≤ 2 * n := by
  unfold kindsS
  rw [List.length_append, List.length_map, List.length_map, rgI_len, rgI_len]
  split <;> split <;> split <;> omega
section
variable {P : Program} {w : World} {K : PySem.W.Frag} {mg : Str → Option Value} {base : Heap}
theorem sc_Stretch_kinds_among : FnScope nm_Stretch_kinds_among ["self", "masks", "begin", "end"] (defScope s_Stretch_kinds_among) := ⟨rfl, rfl, rfl, by decide +kernel, rfl, by decide +kernel, by decide +kernel⟩
def spKA (K : PySem.W.Frag) (C : Addr) : Sp := fun vs H Q _ => ∃ (st dx D1 D2 Dm : Addr) (b0 b e : Int) (c n tail lap : Nat) (f : Nat → Nat), vs = [.ref st, .ref Dm, .int b, .int e] ∧ H st = some (.ins C dx (strF b0 (b0 + (c : Int)) D1 D2 tail lap)) ∧
  H Dm = some (.lst (((List.range n).map f).map vN)) ∧ n ≤ 5800 ∧ Per f c n tail ∧
  ∀ H' p vs L, Same H H' → H p = none → H' p = some (.lst vs) → DpAll K H' vs (L.map kD) → L = kindsS f b0 n tail (if b0 > b then b0 else b) (if b0 + (c : Int) < e then b0 + (c : Int) else e) → Q (.ref p) H'
theorem ok_kinds_among {f C : Addr} {fd : FuncData} (F : Fun K "_kinds_among" "Stretch._kinds_among" s_Stretch_kinds_among f fd) (bt : Bt mg bn) (cs : Cls K C) (n1 : NoAttr K C "begin") (n2 : NoAttr K C "end") (n3 : NoAttr K C "tail") :
    FnOk P w K mg base CX0 1 f fd ["self", "masks", "begin", "end"] (spKA K C) := by
  refine F.ok sc_Stretch_kinds_among (fun vs H Q E h => ?_) (fun cdv A outer s H vs Q E hr h => ?_)
  · obtain ⟨st, dx, D1, D2, Dm, b0, b, e, c, n, tail, lap, g, rfl, _⟩ := h
    rfl
  · obtain ⟨st, dx, D1, D2, Dm, b0, b, e, c, n, tail, lap, g, rfl, h1, h2, h3, hP, q⟩ := h
    refine ⟨_, (pss_cons (ps_set (i := 2) sc_Stretch_kinds_among.nd rfl (.inl rfl) (pe_callB (call_max2 rfl) (by rfl) (bt "max" (by decide)) PyProof.Rows.boot_max (pa_cons (pv 2) (pa_cons (pe_fld (pv 0) rfl) pa_nil))))
      (pss_cons (ps_set (i := 3) sc_Stretch_kinds_among.nd rfl (.inl rfl) (pe_callB (call_min2 rfl) (by rfl) (bt "min" (by decide)) PyProof.Rows.boot_min (pa_cons (pv 3) (pa_cons (pe_fld (pv 0) rfl) pa_nil))))
      (pss_cons (ps_set (i := 4) sc_Stretch_kinds_among.nd rfl (.inl rfl) (pe_op op_sub (pe_callB call_len_seq (by rfl) (bt "len" (by decide)) PySem.boot_len (pa_cons (pv 1) pa_nil)) (pe_fld (pv 0) rfl)))
      (pss_cons (ps_set (i := 5) sc_Stretch_kinds_among.nd rfl (.inl rfl) (pe_callB (call_max2 rfl) (by rfl) (bt "max" (by decide)) PyProof.Rows.boot_max (pa_cons (pv 2) (pa_cons (pe_op op_add (pe_fld (pv 0) rfl) (pe_fld (pv 0) rfl)) pa_nil))))
      (pss_cons (ps_setLc (i := 6) (own := [("unknown", 7)]) (tt := tYes) (te := tTup (tCons (tVar 7) (tCons (tOp (rIxL K) (tVar 1) (tOp (rI0 fun i j => V.int (i - j)) (tVar 7) (tFld K (tVar 0) "begin"))) (tCons (tC (.int 1)) tNil)))) (g := (gName 7)) rfl sc_Stretch_kinds_among.nd rfl rfl rfl (pi_range2L (by rfl) (bt "range" (by decide)) (pa_cons (pv 2) (pa_cons (pe_callB (call_min2 rfl) (by rfl) (bt "min" (by decide)) PyProof.Rows.boot_min (pa_cons (pv 3) (pa_cons (pv 5) pa_nil))) pa_nil))) (blkOk_by (N := nm_Stretch_kinds_among) (sc := defScope s_Stretch_kinds_among) (by decide +kernel)) (fun _ _ _ _ _ => (pg_name (i := 7) sc_Stretch_kinds_among.nd rfl (.inl rfl))) (fun _ _ _ _ _ => pts_nil) (fun _ _ _ _ _ => (pe_tup (pa_cons (pv 7) (pa_cons (pe_ix (r := rIxL K) ix_list (pv 1) (pe_op op_sub (pv 7) (pe_fld (pv 0) rfl)) (fun _ _ => rfl)) (pa_cons pe_int pa_nil))))))
      (pss_cons (ps_for PassesOwn.never rfl (pi_range2L (by rfl) (bt "range" (by decide)) (pa_cons (pv 5) (pa_cons (pe_callB (call_min2 rfl) (by rfl) (bt "min" (by decide)) PyProof.Rows.boot_min (pa_cons (pv 3) (pa_cons (pe_op op_add (pv 5) (pv 4)) pa_nil))) pa_nil))) (pg_name (i := 7) sc_Stretch_kinds_among.nd rfl (.inl rfl))
        (pss_cons (ps_set (i := 8) sc_Stretch_kinds_among.nd rfl (.inl rfl) (pe_op op_add (pe_fld (pv 0) rfl) (pe_op op_mod (pe_op op_sub (pe_op op_sub (pv 7) (pe_fld (pv 0) rfl)) (pe_fld (pv 0) rfl)) (pv 4))))
        (pss_one (ps_expr (pe_bm PySem.F.plainAttrs_list PySem.F.slot_list_append PySem.F.type_list_append mt_append (pv 6) (pa_cons (pe_tup (pa_cons (pv 7) (pa_cons (pe_ix (r := rIxL K) ix_list (pv 1) (pv 8) (fun _ _ => rfl)) (pa_cons (pe_op op_add (pe_op op_fdiv (pe_op op_sub (pe_op op_sub (pv 3) pe_int) (pv 7)) (pv 4)) pe_int) pa_nil)))) pa_nil))))))
      (pss_one (ps_ret (pv 6))))))))), ?_⟩
    have lm : (((List.range n).map g).map vN).length = n := by rw [List.length_map, List.length_map, List.length_range]
    refine ⟨_, rfl, _, rfl, st, C, dx, _, _, rfl, h1, cs, n1, rfl, _, _, rfl, ?_⟩
    refine ⟨_, rfl, _, rfl, st, C, dx, _, _, rfl, h1, cs, n2, rfl, _, _, rfl, ?_⟩
    generalize hb' : (if b0 > b then b0 else b) = b' at q ⊢
    generalize he' : (if b0 + (c : Int) < e then b0 + (c : Int) else e) = e' at q ⊢
    refine ⟨_, rfl, Dm, _, rfl, .inl (SqL.of h2), _, rfl, st, C, dx, _, _, rfl, h1, cs, n3, rfl, _, _, rfl, rfl, ?_⟩
    refine ⟨_, rfl, _, rfl, st, C, dx, _, _, rfl, h1, cs, n1, rfl, _, rfl, st, C, dx, _, _, rfl, h1, cs, n3, rfl, _, _, rfl, rfl, _, _, rfl, ?_⟩
    generalize ha : (if b0 + (tail : Int) > b' then b0 + (tail : Int) else b') = a
    have qL : ∀ x y : Int, x = (if a < e' then a else e') → y = (if a + ((n : Int) - (tail : Int)) < e' then a + ((n : Int) - (tail : Int)) else e') → ((rgI b' x).map fun u => (u, g (u - b0).toNat, (1 : Int))) ++ ((rgI a y).map fun u => (u, g (u - b0).toNat, (e' - 1 - u) / ((n : Int) - (tail : Int)) + 1)) = kindsS g b0 n tail b' e' := fun x y hx hy => by
      unfold kindsS
      rw [ha, ← hx, ← hy]
    have tn : tail ≤ n := by rcases hP with ⟨z, _⟩ | ⟨z, _⟩ <;> omega
    have bb : b0 ≤ b' := by rw [← hb']; split <;> omega
    have ee : e' ≤ b0 + (c : Int) := by rw [← he']; split <;> omega
    have ab : b' ≤ a ∧ b0 + (tail : Int) ≤ a ∧ (a = b' ∨ a = b0 + (tail : Int)) := by rw [← ha]; split <;> omega
    refine ⟨_, rfl, _, rfl, _, rfl, _, _, rfl, _, _, rfl, fun D nD => ?_⟩
    generalize hx : (if a < e' then a else e') = x at qL ⊢
    have qL := fun y hy => qL x y rfl hy
    have hxa : x ≤ a ∧ x ≤ e' := by rw [← hx]; split <;> omega
    have get1 : ∀ i : Nat, i < (x - b').toNat → ((rgI b' x).map fun u => (u, g (u - b0).toNat, (1 : Int)))[i]? = some (b' + (i : Int), g (b' + (i : Int) - b0).toNat, 1) := fun i hi => by
      unfold rgI
      rw [List.getElem?_map, List.getElem?_map, List.getElem?_range hi]
      rfl
    have len1 : ((rgI b' x).map fun u => (u, g (u - b0).toNat, (1 : Int))).length = (x - b').toNat := by rw [List.length_map, rgI_len]
    generalize ((rgI b' x).map fun u => (u, g (u - b0).toNat, (1 : Int))) = L1 at qL get1 len1
    have mget : ∀ j : Nat, j < n → (((List.range n).map g).map vN)[j]? = some (.int ((g j : Nat) : Int)) := fun j hj => by
      rw [List.getElem?_map, List.getElem?_map, List.getElem?_range hj]
      rfl
    refine lc_range (lo := b') (n := (x - b').toNat) (fun i H' => ∃ (Bb : Hp) (us : List V), Same H Bb ∧ Own Bb [(D, .lst us)] H' ∧ DpAll K Bb us ((L1.take i).map kD)) ⟨H, [], Same.refl _, Own.nil.new nD rfl, .nil⟩ ?_ ?_
    · rintro i H1 hi ⟨Bb, us, Sb, W1, hus⟩
      have S1 := Sb.trans W1.s
      have hj : (b' + (i : Int) - b0).toNat < n := by omega
      have lu := dpAll_len hus
      rw [List.length_map, List.length_take, len1] at lu
      have hat : atI (((List.range n).map g).map vN) (b' + (i : Int) - b0) = some (.int ((g (b' + (i : Int) - b0).toNat : Nat) : Int)) := by
        have := atI_nat (mget _ hj)
        rw [show (((b' + (i : Int) - b0).toNat : Nat) : Int) = b' + (i : Int) - b0 by omega] at this
        exact this
      refine ⟨rfl, _, rfl, _, rfl, _, rfl, _, rfl, st, C, dx, _, _, rfl, S1 _ _ h1, cs, n1, rfl, _, _, rfl, rfl, Dm, _, _, _, rfl, rfl, SqL.of (S1 _ _ h2), hat, by show 3 ≤ sizeLine; decide, fun p np => ?_⟩
      generalize e1 : upd _ p _ = H2
      obtain ⟨B2, S2, kp, W2⟩ := own_put W1 np e1
      refine ⟨_, W2.g0, by rw [lu]; exact big (by omega), B2, us ++ [.ref p], Sb.trans S2, ?_, ?_⟩
      · generalize e2 : upd _ D _ = H3
        exact W2.set0 e2
      · rw [take_snoc (get1 i hi), List.map_append]
        exact dpAll_append (dpAll_same S2 _ hus) (.cons (.tup (.inl (.inl kp)) (.cons (.int _) (.cons (.int _) (.cons (.int _) .nil)))) .nil)
    rintro H1 ⟨Bb, us, Sb, W1, hus⟩
    rw [List.take_of_length_le (by omega)] at hus
    have S01 := Sb.trans W1.s
    refine ⟨_, rfl, _, rfl, _, rfl, _, rfl, _, _, rfl, rfl, _, _, rfl, _, _, rfl, ?_⟩
    rw [lm]
    generalize hy : (if a + ((n : Int) - (tail : Int)) < e' then a + ((n : Int) - (tail : Int)) else e') = y at qL
    have hy' : (if (fun i j => i + j) a ((n : Int) - (tail : Int)) < e' then (fun i j => i + j) a ((n : Int) - (tail : Int)) else e') = y := hy
    have hya : y ≤ a + ((n : Int) - (tail : Int)) ∧ y ≤ e' := by rw [← hy]; split <;> omega
    have qL := qL y rfl
    have get2 : ∀ i : Nat, i < (y - a).toNat → ((rgI a y).map fun u => (u, g (u - b0).toNat, (e' - 1 - u) / ((n : Int) - (tail : Int)) + 1))[i]? = some (a + (i : Int), g (a + (i : Int) - b0).toNat, (e' - 1 - (a + (i : Int))) / ((n : Int) - (tail : Int)) + 1) := fun i hi => by
      unfold rgI
      rw [List.getElem?_map, List.getElem?_map, List.getElem?_range hi]
      rfl
    have len2 : ((rgI a y).map fun u => (u, g (u - b0).toNat, (e' - 1 - u) / ((n : Int) - (tail : Int)) + 1)).length = (y - a).toNat := by rw [List.length_map, rgI_len]
    generalize ((rgI a y).map fun u => (u, g (u - b0).toNat, (e' - 1 - u) / ((n : Int) - (tail : Int)) + 1)) = L2 at qL get2 len2
    refine for_range (lo := a) (n := (y - a).toNat) (fun i σ H' => ∃ (y7 y8 : Option V) (Bb : Hp) (us : List V), σ = [some (.ref st), some (.ref Dm), some (.int b'), some (.int e'), some (.int ((n : Int) - (tail : Int))), some (.int a), some (.ref D), y7, y8] ∧ Same H Bb ∧ Own Bb [(D, .lst us)] H' ∧ DpAll K Bb us ((L1 ++ L2.take i).map kD)) ⟨none, none, Bb, us, rfl, Sb, W1, by rw [List.take_zero, List.append_nil]; exact hus⟩ ?_ ?_
    · rintro i σ H2 hi ⟨y7, y8, Bb, us, rfl, Sb, W2, hus⟩
      have S2 := Sb.trans W2.s
      have lu := dpAll_len hus
      rw [List.length_map, List.length_append, len1, List.length_take, len2] at lu
      have hj : a + (i : Int) < b0 + (c : Int) ∧ b0 + (tail : Int) ≤ a + (i : Int) ∧ tail < n := by omega
      obtain ⟨j, hj0⟩ : ∃ j : Nat, a + (i : Int) = b0 + (j : Int) := ⟨(a + (i : Int) - b0).toNat, by omega⟩
      have hjt : tail ≤ j ∧ j < c := by omega
      have hgj : g (tail + (j - tail) % (n - tail)) = g j := by
        rcases hP with ⟨z, _⟩ | ⟨_, _, z⟩
        · omega
        · rw [z j hjt.2]
          unfold atN
          by_cases hn : j < n
          · rw [if_pos hn, Nat.mod_eq_of_lt (by omega), show tail + (j - tail) = j by omega]
          · rw [if_neg hn]
      have hk : tail + (j - tail) % (n - tail) < n := by
        have := Nat.mod_lt (j - tail) (show 0 < n - tail by omega)
        omega
      have hidx : (tail : Int) + (b0 + (j : Int) - b0 - (tail : Int)) % ((n : Int) - (tail : Int)) = ((tail + (j - tail) % (n - tail) : Nat) : Int) := by
        have e1 : (b0 + (j : Int) - b0 - (tail : Int)) = ((j - tail : Nat) : Int) := by omega
        have e2 : ((n : Int) - (tail : Int)) = ((n - tail : Nat) : Int) := by omega
        rw [e1, e2, ← Int.natCast_emod]
        omega
      have hat : atI (((List.range n).map g).map vN) ((tail : Int) + (b0 + (j : Int) - b0 - (tail : Int)) % ((n : Int) - (tail : Int))) = some (.int ((g j : Nat) : Int)) := by
        rw [hidx, ← hgj]
        exact atI_nat (mget _ hk)
      have gi := get2 i hi
      rw [hj0] at gi ⊢
      rw [show (b0 + (j : Int) - b0).toNat = j by omega] at gi
      refine ⟨_, rfl, st, C, dx, _, _, rfl, S2 _ _ h1, cs, n3, rfl, _, rfl, _, rfl, st, C, dx, _, _, rfl, S2 _ _ h1, cs, n1, rfl, _, _, rfl, rfl, _, rfl, st, C, dx, _, _, rfl, S2 _ _ h1, cs, n3, rfl, _, _, rfl, rfl, _, rfl, _, _, rfl, rfl, (by show (0 : Int) < (n : Int) - (tail : Int); omega), _, _, rfl, rfl, ?_⟩
      refine ⟨_, rfl, .inl ⟨rfl, _, SqL.of W2.g0⟩, _, rfl, _, rfl, _, rfl, Dm, _, _, _, rfl, rfl, SqL.of (S2 _ _ h2), hat, _, rfl, _, _, rfl, rfl, _, rfl, _, _, rfl, rfl, _, rfl, _, _, rfl, rfl, (by show 0 < (n : Int) - (tail : Int) ∧ (n : Int) - (tail : Int) < 1073741824; omega), _, _, rfl, rfl, by show 3 ≤ sizeLine; decide, fun p np => ?_⟩
      generalize e1 : upd _ p _ = H3
      obtain ⟨B3, S3, kp, W3⟩ := own_put W2 np e1
      refine ⟨D, _, _, rfl, rfl, W3.g0, by rw [lu]; exact big (by omega), ?_⟩
      generalize e2 : upd _ D _ = H4
      refine ⟨_, _, B3, us ++ [.ref p], rfl, Sb.trans S3, W3.set0 e2, ?_⟩
      rw [take_snoc gi, ← List.append_assoc, List.map_append]
      exact dpAll_append (dpAll_same S3 _ hus) (.cons (.tup (.inl (.inl kp)) (.cons (.int _) (.cons (.int _) (.cons (.int _) .nil)))) .nil)
    · rintro σ H2 ⟨y7, y8, Bb, us, rfl, Sb, W2, hus⟩
      rw [List.take_of_length_le (by omega)] at hus
      exact ⟨_, rfl, q H2 D us (L1 ++ L2) (Sb.trans W2.s) nD W2.g0 (dpAll_same W2.s _ hus) qL⟩
end
end Fb
namespace Fb
open PySem PySem.Spec PyProof.Rows L2
theorem KindsOk.congr {val val' : Int → Nat} {b e : Int} {L : List (Int × Nat × Int)} (h : KindsOk val b e L) (hv : ∀ u, b ≤ u → u < e → val u = val' u) : KindsOk val' b e L := by
  refine ⟨fun F => ?_, fun x hx => ?_, h.asc, fun u h1 h2 => ?_⟩
  · rw [h.sum F]
    congr 1
    apply List.map_congr_left
    intro u hu
    rw [rgI_mem] at hu
    rw [hv u hu.1 hu.2]
  · have := h.one x hx
    exact ⟨this.1, this.2.1, by rw [this.2.2.1, hv _ this.1 this.2.1], this.2.2.2⟩
  · obtain ⟨x, x1, x2, x3⟩ := h.cov u h1 h2
    exact ⟨x, x1, x2, by rw [x3, hv u h1 h2]⟩
theorem KindsOk.empty {val : Int → Nat} {b e : Int} {L : List (Int × Nat × Int)} (h : KindsOk val b e L) (hb : e ≤ b) : L = [] := by
  cases L with
  | nil => rfl
  | cons x l =>
    have := h.one x (.head _)
    omega
theorem KindsOk.single {val : Int → Nat} {u : Int} {L : List (Int × Nat × Int)} (h : KindsOk val u (u + 1) L) : ∃ k, L = [(u, val u, k)] := by
  obtain ⟨x, x1, x2, x3⟩ := h.cov u (Int.le_refl _) (by omega)
  cases L with
  | nil => cases x1
  | cons y l =>
    have hy := h.one y (.head _)
    cases l with
    | nil =>
      obtain ⟨y1, y2, y3⟩ := y
      have e1 : y1 = u := by have := hy.1; have := hy.2.1; dsimp only at *; omega
      subst e1
      exact ⟨y3, by rw [show y2 = val y1 from hy.2.2.1]⟩
    | cons w l =>
      have hw := h.one w (.tail _ (.head _))
      have := (List.pairwise_cons.mp h.asc).1 w (.head _)
      omega
theorem neM_per {z : Zn} {ss : List Nat} {n tail : Nat} (h : Told (zd z) ss z.c.toNat n tail) : Per (neM (zd z) ss) z.c.toNat n tail := by
  rcases h with ⟨h1, h2⟩ | ⟨h1, h2, h3⟩
  · exact .inl ⟨h1, h2⟩
  · refine .inr ⟨h1, h2, fun j hj => ?_⟩
    have := Told.at (.inr ⟨h1, h2, h3⟩) hj
    unfold neM
    rw [this.2]
/-- what kinds of a stretch gives -/
def GivesK (K : PySem.W.Frag) (f : Nat → Nat) (b0 c b e : Int) (H : Hp) (Q : VK) : Prop := ∀ H' p vs L, Same H H' → H p = none → H' p = some (.lst vs) → DpAll K H' vs (L.map kD) → L.length ≤ 11600 →
  KindsOk (fun u => f (u - b0).toNat) (if b0 > b then b0 else b) (if b0 + c < e then b0 + c else e) L → Q (.ref p) H'
/-- the kinds of one stretch more -/
theorem kinds_step {val : Int → Nat} {f : Nat → Nat} {b e b0 c : Int} {L M : List (Int × Nat × Int)} (hL : KindsOk val b (max b (min e b0)) L) (hM : KindsOk (fun u => f (u - b0).toNat) (if b0 > b then b0 else b) (if b0 + c < e then b0 + c else e) M) (hc : 0 ≤ c)
    (hv : ∀ u, b0 ≤ u → u < b0 + c → f (u - b0).toNat = val u) : KindsOk val b (max b (min e (b0 + c))) (L ++ M) := by
  by_cases hem : (if b0 + c < e then b0 + c else e) ≤ (if b0 > b then b0 else b)
  · rw [hM.empty hem, List.append_nil]
    have : max b (min e b0) = max b (min e (b0 + c)) := by split at hem <;> split at hem <;> omega
    rw [← this]
    exact hL
  · have e1 : (if b0 > b then b0 else b) = max b (min e b0) := by
      split at hem <;> split at hem <;> split <;> omega
    have e2 : (if b0 + c < e then b0 + c else e) = max b (min e (b0 + c)) := by
      split at hem <;> split at hem <;> split <;> omega
    have b1 : b0 ≤ (if b0 > b then b0 else b) := by split <;> omega
    have b2 : (if b0 + c < e then b0 + c else e) ≤ b0 + c := by split <;> omega
    have hM' := hM.congr (val' := val) fun u h1 h2 => hv u (by omega) (by omega)
    rw [e1, e2] at hM' hem
    exact hL.cat hM' (by omega) (by omega)
end Fb
namespace Fb
open PySem PySem.Spec PyProof.Rows L2
/-! ### masks by unknown -/
def maskZ : List Nat → List Zn → Int → Nat
  | _, [], _ => 0
  | ss, z :: zs, u => if u < z.c then WM.Ms (zd z) ss u.toNat else maskZ (WM.St (zd z) ss z.c.toNat) zs (u - z.c)
def maskA (b : Nat) (zs : List Zn) (u : Int) : Nat := if u < len zs then maskZ ss0 zs u else (lastF b zs).getD (u - len zs).toNat 0
theorem maskZ_at : ∀ (zs : List Zn) (ss : List Nat) (i : Nat) (z : Zn) (u : Int), (∀ y ∈ zs, 0 ≤ y.c) → zs[i]? = some z → len (zs.take i) ≤ u → u < len (zs.take i) + z.c → maskZ ss zs u = WM.Ms (zd z) (walkP ss (zs.take i)) (u - len (zs.take i)).toNat
  | [], _, _, _, _, _, h, _, _ => by simp at h
  | y :: zs, ss, 0, z, u, hc, h, h1, h2 => by
    simp at h
    subst h
    have e : len (List.take 0 (y :: zs)) = 0 := rfl
    rw [e] at h1 h2 ⊢
    show (if u < y.c then _ else _) = _
    rw [if_pos (by omega), Int.sub_zero]
    rfl
  | y :: zs, ss, i + 1, z, u, hc, h, h1, h2 => by
    have e : len (List.take (i + 1) (y :: zs)) = y.c + len (zs.take i) := by
      rw [List.take_succ_cons]
      unfold len
      rw [List.map_cons, List.sum_cons]
    rw [e] at h1 h2 ⊢
    have hp : 0 ≤ len (zs.take i) := by
      have key : ∀ l : List Zn, (∀ x ∈ l, 0 ≤ x.c) → 0 ≤ len l := by
        intro l
        induction l with
        | nil => intro _; exact Int.le_refl _
        | cons x l ih =>
          intro h
          have h1 := h x (.head _)
          have h2 := ih fun y hy => h y (.tail _ hy)
          have e : len (x :: l) = x.c + len l := rfl
          omega
      exact key _ fun x hx => hc x (.tail _ (List.mem_of_mem_take hx))
    show (if u < y.c then _ else maskZ (WM.St (zd y) ss y.c.toNat) zs (u - y.c)) = _
    rw [if_neg (by omega), maskZ_at zs _ i z (u - y.c) (fun x hx => hc x (.tail _ hx)) (by simpa using h) (by omega) (by omega)]
    rw [show u - y.c - len (zs.take i) = u - (y.c + len (zs.take i)) by omega]
    rfl
/-- the place in a mask -/
def posF (n lo hi : Int) : Option Nat := if n ≤ hi then some (16 + (hi - n)).toNat else if hi - lo > 16 then none else some (hi - lo - 1).toNat
def bitF (n lo hi : Int) : Nat := match posF n lo hi with
  | some k => 1 <<< k
  | none => 0
def hasF (b : Nat) (zs : List Zn) (lo hi : Int) : Bool := match posF (len zs) lo hi with
  | some k => (maskA b zs lo).testBit k
  | none => false
theorem and_bit (m k : Nat) : decide (m &&& (1 <<< k) ≠ 0) = m.testBit k := by
  have e : ∀ i, (m &&& (1 <<< k)).testBit i = (m.testBit i && decide (k = i)) := fun i => by rw [Nat.testBit_and, one_shl_bit]
  cases h : m.testBit k with
  | true =>
    rw [decide_eq_true_eq]
    intro z
    have := e k
    rw [z, h, Nat.zero_testBit] at this
    simp at this
  | false =>
    rw [decide_eq_false_iff_not]
    intro z
    refine z (Nat.eq_of_testBit_eq fun i => ?_)
    rw [e i, Nat.zero_testBit]
    by_cases q : k = i
    · subst q
      rw [h]
      rfl
    · rw [decide_eq_false q, Bool.and_false]
def toldF (b : Nat) (n u : Int) (m : Nat) : List Int := (((List.range 16).filter fun j => m.testBit j).map fun (j : Nat) => u + (1 + (j : Int))) ++ (((List.range b).filter fun t => m.testBit (16 + t)).map fun (t : Nat) => n + (t : Int))
def membersF (b : Nat) (zs : List Zn) (u : Int) : List Int := toldF b (len zs) u (maskA b zs u)
section
variable {P : Program} {w : World} {K : PySem.W.Frag} {mg : Str → Option Value} {base : Heap}
theorem sc_Elimination_stretch : FnScope nm_Elimination_stretch ["self", "unknown"] (defScope s_Elimination_stretch) := ⟨rfl, rfl, rfl, by decide +kernel, rfl, by decide +kernel, by decide +kernel⟩
theorem sc_Elimination_mask : FnScope nm_Elimination_mask ["self", "unknown"] (defScope s_Elimination_mask) := ⟨rfl, rfl, rfl, by decide +kernel, rfl, by decide +kernel, by decide +kernel⟩
theorem sc_Elimination_bit : FnScope nm_Elimination_bit ["self", "low", "high"] (defScope s_Elimination_bit) := ⟨rfl, rfl, rfl, by decide +kernel, rfl, by decide +kernel, by decide +kernel⟩
theorem sc_Elimination_has : FnScope nm_Elimination_has ["self", "low", "high"] (defScope s_Elimination_has) := ⟨rfl, rfl, rfl, by decide +kernel, rfl, by decide +kernel, by decide +kernel⟩
def spStretchE (K : PySem.W.Frag) (CE CS : Addr) : Sp := fun vs H Q _ => ∃ (e : Addr) (b : Nat) (zs : List Zn) (u : Int), vs = [.ref e, .int u] ∧ ElimR K CE CS H e b zs ∧ (∀ z ∈ zs, 1 ≤ z.c) ∧ 0 ≤ u ∧ (len zs ≤ u → Q .non H) ∧
  (u < len zs → ∀ (st : Addr) (i : Nat) (z : Zn), zs[i]? = some z → len (zs.take i) ≤ u → u < len (zs.take i) + z.c → StrR CS H st (len (zs.take i)) z (walkP ss0 (zs.take i)) → Q (.ref st) H)
theorem stands_at {zs : List Zn} {u : Int} {r : Nat} (hc : ∀ z ∈ zs, 1 ≤ z.c) (hu : u < len zs) (h0 : 0 ≤ u) (h : StandsAt (beginsZ 0 (zs.map (·.c))) u r) : ∃ z, zs[r]? = some z ∧ len (zs.take r) ≤ u ∧ u < len (zs.take r) + z.c := by
  obtain ⟨h1, h2, h3⟩ := h
  rw [beginsZ_len, List.length_map] at h1
  have e : ∀ i, i < zs.length → (beginsZ 0 (zs.map (·.c)))[i]? = some (len (zs.take i)) := fun i hi => by
    rw [beginsZ_get _ _ _ (by rw [List.length_map]; exact hi), Int.zero_add, ← List.map_take]
    rfl
  refine ⟨zs[r], List.getElem?_eq_getElem h1, ?_, ?_⟩
  · rcases h2 with rfl | ⟨b, hb, hle⟩
    · exact h0
    · rw [e r h1] at hb
      cases hb
      exact hle
  · have snoc : len (zs.take (r + 1)) = len (zs.take r) + zs[r].c := by
      rw [take_snoc (List.getElem?_eq_getElem h1)]
      unfold len
      rw [List.map_append, List.sum_append]
      simp
    rw [← snoc]
    rcases h3 with h3 | ⟨b, hb, hlt⟩
    · rw [beginsZ_len, List.length_map] at h3
      rw [List.take_of_length_le (by omega)]
      exact hu
    · have hr : r + 1 < zs.length := by
        have := (List.getElem?_eq_some_iff.mp hb).1
        rw [beginsZ_len, List.length_map] at this
        exact this
      rw [e _ hr] at hb
      cases hb
      exact hlt
theorem ok_stretchE {f CE CS : Addr} {fd : FuncData} (F : Fun K "stretch" "Elimination.stretch" s_Elimination_stretch f fd) (bt : Bt mg bn) (c : Cls K CE) (n1 : NoAttr K CE "_begins") (n2 : NoAttr K CE "_inner") (n3 : NoAttr K CE "stretches")
    (D_standing_at : Def P w K mg base CX0 1 "standing_at" ["begins", "unknown"] (spStanding K)) : FnOk P w K mg base CX0 2 f fd ["self", "unknown"] (spStretchE K CE CS) := by
  refine F.ok sc_Elimination_stretch (fun vs H Q E h => ?_) (fun cdv A outer s H vs Q E hr h => ?_)
  · obtain ⟨e, b, zs, u, rfl, _⟩ := h
    rfl
  · obtain ⟨e, b, zs, u, rfl, R, hc, h0, q1, q2⟩ := h
    obtain ⟨dx, bg, sl, lm, as, he, hbg, hsl, hst, hlm⟩ := R.ex
    refine ⟨_, (pss_cons (ps_if (pt_cmpR op_ge (pv 1) (pe_fld (pv 0) rfl) (nomark _))
        (pss_one (ps_ret pe_non))
        pss_nil)
      (pss_one (ps_ret (pe_ix (r := rIxL K) ix_list (pe_fld (pv 0) rfl) (pe_callD D_standing_at hr (by decide) pass0 (pa_cons (pe_fld (pv 0) rfl) (pa_cons (pv 1) pa_nil))) (fun _ _ => rfl))))), ?_⟩
    refine ⟨_, rfl, _, rfl, e, CE, dx, _, _, rfl, he, c, n2, rfl, _, _, rfl, rfl, _, rfl, ite2 (fun hge => ?_) (fun hge => ?_)⟩
    · exact q1 (of_decide_eq_true hge)
    · have hlt : u < len zs := by
        have := of_decide_eq_false (Bool.eq_false_iff.mpr hge)
        omega
      have hne : beginsZ 0 (zs.map (·.c)) ≠ [] := fun z => by
        have z2 := congrArg List.length z
        rw [beginsZ_len, List.length_map] at z2
        have z3 : zs = [] := List.eq_nil_of_length_eq_zero z2
        rw [z3] at hlt
        have z5 : len [] = 0 := rfl
        omega
      refine ⟨_, rfl, e, CE, dx, _, _, rfl, he, c, n3, rfl, _, rfl, e, CE, dx, _, _, rfl, he, c, n1, rfl, _, rfl, .ref bg, _, u, rfl, hbg, hne, fun r hs => ?_⟩
      obtain ⟨z, hz, l1, l2⟩ := stands_at hc hlt h0 hs
      have hr2 : r < as.length := by rw [hst.leng]; exact (List.getElem?_eq_some_iff.mp hz).1
      obtain ⟨z', hz', hR⟩ := hst.get (List.getElem?_eq_getElem hr2)
      rw [hz] at hz'
      cases hz'
      rw [Int.zero_add] at hR
      exact ⟨sl, _, _, _, rfl, rfl, SqL.of hsl, atI_nat (by rw [List.getElem?_map, List.getElem?_eq_getElem hr2]; rfl), q2 hlt _ r z hz l1 l2 hR⟩
def spMaskE (K : PySem.W.Frag) (CE CS : Addr) : Sp := fun vs H Q _ => ∃ (e : Addr) (b : Nat) (zs : List Zn) (u : Int), vs = [.ref e, .int u] ∧ ElimR K CE CS H e b zs ∧ (∀ z ∈ zs, 1 ≤ z.c) ∧ 0 ≤ u ∧ u < len zs + (b : Int) ∧ Q (.int (maskA b zs u : Nat)) H
theorem ok_maskE {f CE CS : Addr} {fd : FuncData} (F : Fun K "mask" "Elimination.mask" s_Elimination_mask f fd) (bt : Bt mg bn) (c : Cls K CE) (cs : Cls K CS) (n2 : NoAttr K CE "_inner") (n4 : NoAttr K CE "last_masks")
    (M_stretch : DMeth P w K mg base CX0 2 CE "stretch" ["self", "unknown"] (spStretchE K CE CS)) (M_mask_at : DMeth P w K mg base CX0 1 CS "mask_at" ["self", "unknown"] (spMaskAt CS)) : FnOk P w K mg base CX0 3 f fd ["self", "unknown"] (spMaskE K CE CS) := by
  refine F.ok sc_Elimination_mask (fun vs H Q E h => ?_) (fun cdv A outer s H vs Q E hr h => ?_)
  · obtain ⟨e, b, zs, u, rfl, _⟩ := h
    rfl
  · obtain ⟨e, b, zs, u, rfl, R, hc, h0, h1, q⟩ := h
    obtain ⟨dx, bg, sl, lm, as, he, hbg, hsl, hst, hlm⟩ := R.ex
    refine ⟨_, (pss_cons (ps_set (i := 2) sc_Elimination_mask.nd rfl (.inl rfl) (pe_methD M_stretch hr (by decide) pass0 (pv 0) (pa_cons (pv 1) pa_nil)))
      (pss_cons (ps_if (pt_cmpR op_isN (pv 2) pe_non (nomark _))
        (pss_one (ps_ret (pe_ix (r := rIxL K) ix_list (pe_fld (pv 0) rfl) (pe_op op_sub (pv 1) (pe_fld (pv 0) rfl)) (fun _ _ => rfl))))
        pss_nil)
      (pss_one (ps_ret (pe_methD M_mask_at hr (by decide) pass0 (pv 2) (pa_cons (pv 1) pa_nil)))))), ?_⟩
    refine ⟨_, rfl, e, dx, _, rfl, he, rfl, _, rfl, e, b, zs, u, rfl, R, hc, h0, fun hge => ?_, fun hlt st i z hz l1 l2 hR => ?_⟩
    · refine ⟨_, rfl, rfl, _, rfl, iteT ?_⟩
      obtain ⟨j, hj⟩ := Int.eq_ofNat_of_zero_le (show 0 ≤ u - len zs by omega)
      have hjb : j < (lastF b zs).length := by rw [lastF_len]; omega
      have em : maskA b zs u = (lastF b zs)[j] := by
        unfold maskA
        rw [if_neg (by omega), hj, Int.toNat_natCast, List.getD_eq_getElem?_getD, List.getElem?_eq_getElem hjb]
        rfl
      rw [em] at q
      refine ⟨_, rfl, e, CE, dx, _, _, rfl, he, c, n4, rfl, _, rfl, _, rfl, e, CE, dx, _, _, rfl, he, c, n2, rfl, _, _, rfl, rfl, ?_⟩
      rw [show ((fun i j => V.int (i - j)) u (len zs)) = V.int (j : Int) from congrArg V.int hj]
      exact ⟨lm, _, _, _, rfl, rfl, SqL.of hlm, atI_nat (by rw [List.getElem?_map, List.getElem?_eq_getElem hjb]; rfl), q⟩
    · obtain ⟨dxs, Dm, Dn, n, tail, lap, hs, _⟩ := hR.ex
      refine ⟨_, rfl, rfl, _, rfl, iteF ?_⟩
      have em : maskA b zs u = WM.Ms (zd z) (walkP ss0 (zs.take i)) (u - len (zs.take i)).toNat := by
        unfold maskA
        rw [if_pos hlt]
        exact maskZ_at zs ss0 i z u (fun y hy => by have := hc y hy; omega) hz l1 l2
      rw [em] at q
      exact ⟨_, rfl, st, dxs, _, rfl, hs, rfl, _, rfl, st, _, u, z, _, (u - len (zs.take i)).toNat, rfl, hR, by omega, by omega, q⟩
def spBit (K : PySem.W.Frag) (CE CS : Addr) : Sp := fun vs H Q _ => ∃ (e : Addr) (b : Nat) (zs : List Zn) (lo hi : Int), vs = [.ref e, .int lo, .int hi] ∧ ElimR K CE CS H e b zs ∧ lo < hi ∧ hi < len zs + 1000 ∧ Q (.int (bitF (len zs) lo hi : Nat)) H
theorem ok_bit {f CE CS : Addr} {fd : FuncData} (F : Fun K "bit" "Elimination.bit" s_Elimination_bit f fd) (c : Cls K CE) (n2 : NoAttr K CE "_inner") (g_MOST_OFFSET : GInt mg "MOST_OFFSET" 16) : FnOk P w K mg base CX0 1 f fd ["self", "low", "high"] (spBit K CE CS) := by
  refine F.ok sc_Elimination_bit (fun vs H Q E h => ?_) (fun cdv A outer s H vs Q E hr h => ?_)
  · obtain ⟨e, b, zs, lo, hi, rfl, _⟩ := h
    rfl
  · obtain ⟨e, b, zs, lo, hi, rfl, R, h1, h2, q⟩ := h
    obtain ⟨dx, bg, sl, lm, as, he, hbg, hsl, hst, hlm⟩ := R.ex
    refine ⟨_, (pss_cons (ps_if (pt_cmpR op_ge (pv 2) (pe_fld (pv 0) rfl) (nomark _))
        (pss_one (ps_ret (pe_op op_shl1N pe_int (pe_op op_sub (pe_op op_add (pe_globI (n := (16)) g_MOST_OFFSET) (pv 2)) (pe_fld (pv 0) rfl)))))
        pss_nil)
      (pss_cons (ps_if (pt_cmpR op_gt (pe_op op_sub (pv 2) (pv 1)) (pe_globI (n := (16)) g_MOST_OFFSET) (nomark _))
        (pss_one (ps_ret pe_int))
        pss_nil)
      (pss_one (ps_ret (pe_op op_shl1N pe_int (pe_op op_sub (pe_op op_sub (pv 2) (pv 1)) pe_int)))))), ?_⟩
    refine ⟨_, rfl, _, rfl, e, CE, dx, _, _, rfl, he, c, n2, rfl, _, _, rfl, rfl, _, rfl, ite2 (fun hge => ?_) (fun hge => ?_)⟩
    · have hge := of_decide_eq_true hge
      have eb : bitF (len zs) lo hi = 1 <<< (16 + (hi - len zs)).toNat := by
        unfold bitF posF
        rw [if_pos hge]
      rw [eb] at q
      refine ⟨_, rfl, _, _, rfl, rfl, _, rfl, e, CE, dx, _, _, rfl, he, c, n2, rfl, _, _, rfl, rfl, (16 + (hi - len zs)).toNat, rfl, ?_, by omega, q⟩
      show V.int (16 + hi - len zs) = V.int (((16 + (hi - len zs)).toNat : Nat) : Int)
      exact congrArg V.int (by omega)
    · have hge := of_decide_eq_false (Bool.eq_false_iff.mpr hge)
      refine ⟨_, rfl, _, rfl, _, _, rfl, rfl, _, _, rfl, rfl, _, rfl, ite2 (fun hgt => ?_) (fun hgt => ?_)⟩
      · have hgt := of_decide_eq_true hgt
        have eb : bitF (len zs) lo hi = 0 := by
          unfold bitF posF
          rw [if_neg (by omega), if_pos hgt]
        rw [eb] at q
        exact q
      · have hgt := of_decide_eq_false (Bool.eq_false_iff.mpr hgt)
        have eb : bitF (len zs) lo hi = 1 <<< (hi - lo - 1).toNat := by
          unfold bitF posF
          rw [if_neg (by omega), if_neg (by omega)]
        rw [eb] at q
        refine ⟨_, rfl, _, rfl, _, _, rfl, rfl, _, _, rfl, rfl, (hi - lo - 1).toNat, rfl, ?_, by omega, q⟩
        show V.int (hi - lo - 1) = V.int (((hi - lo - 1).toNat : Nat) : Int)
        exact congrArg V.int (by omega)
def spHas (K : PySem.W.Frag) (CE CS : Addr) : Sp := fun vs H Q _ => ∃ (e : Addr) (b : Nat) (zs : List Zn) (lo hi : Int), vs = [.ref e, .int lo, .int hi] ∧ ElimR K CE CS H e b zs ∧ (∀ z ∈ zs, 1 ≤ z.c) ∧ b ≤ 6 ∧ 0 ≤ lo ∧ lo < hi ∧ hi < len zs + (b : Int) ∧ Q (.bl (hasF b zs lo hi)) H
theorem bit_has (b : Nat) (zs : List Zn) (lo hi : Int) : decide (maskA b zs lo &&& bitF (len zs) lo hi ≠ 0) = hasF b zs lo hi := by
  unfold bitF hasF
  cases posF (len zs) lo hi with
  | some k => exact and_bit _ k
  | none =>
    show decide (maskA b zs lo &&& 0 ≠ 0) = false
    rw [Nat.and_zero]
    rfl
theorem ne_zero (n : Nat) : (!decide (V.int (n : Int) = V.int 0)) = decide (n ≠ 0) := by
  rw [Bool.eq_iff_iff, Bool.not_eq_true', decide_eq_false_iff_not, decide_eq_true_eq]
  constructor
  · intro h z
    exact h (by rw [z]; rfl)
  · intro h z
    injection z with z
    exact h (by omega)
theorem ok_has {f CE CS : Addr} {fd : FuncData} (F : Fun K "has" "Elimination.has" s_Elimination_has f fd) (M_mask : DMeth P w K mg base CX0 3 CE "mask" ["self", "unknown"] (spMaskE K CE CS)) (M_bit : DMeth P w K mg base CX0 1 CE "bit" ["self", "low", "high"] (spBit K CE CS)) :
    FnOk P w K mg base CX0 4 f fd ["self", "low", "high"] (spHas K CE CS) := by
  refine F.ok sc_Elimination_has (fun vs H Q E h => ?_) (fun cdv A outer s H vs Q E hr h => ?_)
  · obtain ⟨e, b, zs, lo, hi, rfl, _⟩ := h
    rfl
  · obtain ⟨e, b, zs, lo, hi, rfl, R, hc, hb, h0, h1, h2, q⟩ := h
    obtain ⟨dx, bg, sl, lm, as, he, hbg, hsl, hst, hlm⟩ := R.ex
    refine ⟨_, (pss_one (ps_ret (pe_cmpR op_ne (pe_op op_andN (pe_methD M_mask hr (by decide) pass0 (pv 0) (pa_cons (pv 1) pa_nil)) (pe_methD M_bit hr (by decide) pass0 (pv 0) (pa_cons (pv 1) (pa_cons (pv 2) pa_nil)))) pe_int (nomark _)))), ?_⟩
    refine ⟨_, rfl, e, dx, _, rfl, he, rfl, _, rfl, e, b, zs, lo, rfl, R, hc, h0, by omega, _, rfl, e, dx, _, rfl, he, rfl, _, rfl, _, rfl, e, b, zs, lo, hi, rfl, R, h1, by omega, _, _, rfl, rfl, rfl, ?_⟩
    rw [ne_zero, bit_has]
    exact q
end
end Fb
namespace Fb
open PySem PySem.Spec PyProof.Rows L2
section
variable {P : Program} {w : World} {K : PySem.W.Frag} {mg : Str → Option Value} {base : Heap}
theorem sc_Stretch_kinds : FnScope nm_Stretch_kinds ["self", "begin", "end"] (defScope s_Stretch_kinds) := ⟨rfl, rfl, rfl, by decide +kernel, rfl, by decide +kernel, by decide +kernel⟩
def spSK (K : PySem.W.Frag) (C : Addr) : Sp := fun vs H Q _ => ∃ (st : Addr) (b0 b e : Int) (z : Zn) (ss : List Nat), vs = [.ref st, .int b, .int e] ∧ StrR C H st b0 z ss ∧ 0 ≤ z.c ∧ GivesK K (WM.Ms (zd z) ss) b0 z.c b e H Q
theorem ok_kinds {f C : Addr} {fd : FuncData} (F : Fun K "kinds" "Stretch.kinds" s_Stretch_kinds f fd) (cs : Cls K C) (n4 : NoAttr K C "masks")
    (M_kinds_among : DMeth P w K mg base CX0 1 C "_kinds_among" ["self", "masks", "begin", "end"] (spKA K C)) : FnOk P w K mg base CX0 2 f fd ["self", "begin", "end"] (spSK K C) := by
  refine F.ok sc_Stretch_kinds (fun vs H Q E h => ?_) (fun cdv A outer s H vs Q E hr h => ?_)
  · obtain ⟨st, b0, b, e, z, ss, rfl, _⟩ := h
    rfl
  · obtain ⟨st, b0, b, e, z, ss, rfl, hst, hc, q⟩ := h
    obtain ⟨dx, Dm, Dn, n, tail, lap, h1, h2, h3, h4, h5, h6⟩ := hst.ex
    refine ⟨_, (pss_one (ps_ret (pe_methD M_kinds_among hr (by decide) pass0 (pv 0) (pa_cons (pe_fld (pv 0) rfl) (pa_cons (pv 1) (pa_cons (pv 2) pa_nil)))))), ?_⟩
    obtain ⟨c, hcc⟩ : ∃ c : Nat, z.c = (c : Int) := ⟨z.c.toNat, by omega⟩
    have hct : z.c.toNat = c := by omega
    have hP := ms_per h5
    rw [hct] at hP
    rw [hcc] at h1 q
    have tn : tail ≤ n := by rcases hP with ⟨z, _⟩ | ⟨z, _⟩ <;> omega
    refine ⟨_, rfl, st, dx, _, rfl, h1, rfl, _, rfl, st, C, dx, _, _, rfl, h1, cs, n4, rfl, _, rfl, _, rfl, ?_⟩
    refine ⟨st, dx, Dm, Dn, Dm, b0, b, e, c, n, tail, lap, WM.Ms (zd z) ss, rfl, h1, h3, h4, hP, fun H' p vs L S1 np hp hA hL => q H' p vs L S1 np hp hA ?_ ?_⟩
    · rw [hL]
      have := kindsS_len (f := WM.Ms (zd z) ss) (b0 := b0) (n := n) (tail := tail) (b' := (if b0 > b then b0 else b)) (e' := (if b0 + (c : Int) < e then b0 + (c : Int) else e)) (by split <;> omega) tn
      omega
    · rw [hL]
      exact kindsS_ok hP (by split <;> omega) (by split <;> omega)
theorem sc_Elimination_kinds : FnScope nm_Elimination_kinds ["self", "begin", "end"] (defScope s_Elimination_kinds) := ⟨rfl, rfl, rfl, by decide +kernel, rfl, by decide +kernel, by decide +kernel⟩
/-- all kinds of columns of a span -/
def spEK (K : PySem.W.Frag) (CE CS : Addr) : Sp := fun vs H Q _ => ∃ (el : Addr) (bo : Nat) (zs : List Zn) (b e : Int), vs = [.ref el, .int b, .int e] ∧ ElimR K CE CS H el bo zs ∧ (∀ z ∈ zs, 1 ≤ z.c) ∧ zs.length ≤ 800 ∧ bo ≤ 6 ∧ 0 ≤ b ∧ b ≤ e ∧ e ≤ len zs + (bo : Int) ∧
  ∀ H' p vs L, Same H H' → H p = none → H' p = some (.lst vs) → DpAll K H' vs (L.map kD) → L.length ≤ 9500000 → KindsOk (maskA bo zs) b e L → Q (.ref p) H'
theorem ok_E_kinds {f CE CS : Addr} {fd : FuncData} (F : Fun K "kinds" "Elimination.kinds" s_Elimination_kinds f fd) (bt : Bt mg bn) (c : Cls K CE) (n3 : NoAttr K CE "stretches") (n2 : NoAttr K CE "_inner")
    (M_kinds : DMeth P w K mg base CX0 2 CS "kinds" ["self", "begin", "end"] (spSK K CS)) (M_mask : DMeth P w K mg base CX0 3 CE "mask" ["self", "unknown"] (spMaskE K CE CS)) : FnOk P w K mg base CX0 4 f fd ["self", "begin", "end"] (spEK K CE CS) := by
  refine F.ok sc_Elimination_kinds (fun vs H Q E h => ?_) (fun cdv A outer s H vs Q E hr h => ?_)
  · obtain ⟨el, bo, zs, b, e, rfl, _⟩ := h
    rfl
  · obtain ⟨el, bo, zs, b, e, rfl, R, hc, hz, hbo, hb0, hbe, hel, q⟩ := h
    obtain ⟨dx, bg, sl, lm, as, h1, h2, h3, h4, h5⟩ := R.ex
    refine ⟨_, (pss_cons (ps_set (i := 3) sc_Elimination_kinds.nd rfl (.inl rfl) (pe_lst pa_nil))
      (pss_cons (ps_for PassesOwn.never rfl (pi_list (pe_fld (pv 0) rfl)) (pg_name (i := 4) sc_Elimination_kinds.nd rfl (.inl rfl))
        (pss_one (ps_expr (pe_bm PySem.F.plainAttrs_list PySem.F.slot_list_extend PySem.F.type_list_extend mt_extend (pv 3) (pa_cons (pe_methD M_kinds hr (by decide) pass0 (pv 4) (pa_cons (pv 1) (pa_cons (pv 2) pa_nil))) pa_nil)))))
      (pss_cons (ps_for PassesOwn.never rfl (pi_range2L (by rfl) (bt "range" (by decide)) (pa_cons (pe_callB (call_max2 rfl) (by rfl) (bt "max" (by decide)) PyProof.Rows.boot_max (pa_cons (pv 1) (pa_cons (pe_fld (pv 0) rfl) pa_nil))) (pa_cons (pv 2) pa_nil))) (pg_name (i := 5) sc_Elimination_kinds.nd rfl (.inl rfl))
        (pss_one (ps_expr (pe_bm PySem.F.plainAttrs_list PySem.F.slot_list_append PySem.F.type_list_append mt_append (pv 3) (pa_cons (pe_tup (pa_cons (pv 5) (pa_cons (pe_methD M_mask hr (by decide) pass0 (pv 0) (pa_cons (pv 5) pa_nil)) (pa_cons pe_int pa_nil)))) pa_nil)))))
      (pss_one (ps_ret (pv 3)))))), ?_⟩
    refine ⟨by show 0 ≤ sizeLine; decide, fun D nD => ?_⟩
    generalize e0 : upd _ D _ = H0
    have W0 := (Own.nil (H := H)).new nD e0
    have la := h4.leng
    have immL : ∀ L : List (Int × Nat × Int), immAll (L.map kD) = true := fun L => immAll_of fun d hd => by
      obtain ⟨x, _, rfl⟩ := List.mem_map.mp hd
      rfl
    have hz11 : 11600 * zs.length ≤ 11600 * 800 := Nat.mul_le_mul_left _ hz
    refine ⟨_, rfl, el, CE, dx, _, _, rfl, W0.s _ _ h1, c, n3, rfl, ?_⟩
    refine ⟨sl, rfl, ⟨_, SqL.of (W0.s _ _ h3)⟩, for_list (K := K) (a := sl) (xs := as.map V.ref) (fun i σ H' => ∃ (y4 y5 : Option V) (us : List V) (L : List (Int × Nat × Int)), σ = [some (.ref el), some (.int b), some (.int e), some (.ref D), y4, y5] ∧ Own H [(D, .lst us)] H' ∧ DpAll K H' us (L.map kD) ∧ L.length ≤ 11600 * i ∧ KindsOk (maskZ ss0 zs) b (max b (min e (len (zs.take i)))) L)
      ⟨none, none, [], [], rfl, W0, .nil, Nat.zero_le _, .nil (by show max b (min e 0) ≤ b; omega)⟩ (fun i σ H' _ ⟨_, _, _, _, _, W, _⟩ => SqL.of (W.s _ _ h3)) ?_ ?_⟩
    · rintro i v σ H1 hi ⟨y4, y5, us, L, rfl, W1, hus, hl, hK⟩
      obtain ⟨sa, hsa, rfl⟩ := refs_get hi
      obtain ⟨z, hz', hst⟩ := h4.get hsa
      rw [Int.zero_add] at hst
      have hcz := hc z (List.mem_of_getElem? hz')
      have hi' : i < zs.length := (List.getElem?_eq_some_iff.mp hz').1
      obtain ⟨dxs, Dm, Dn, n, tail, lap, s1, _⟩ := hst.ex
      have lu := dpAll_len hus
      rw [List.length_map] at lu
      refine ⟨_, rfl, .inl ⟨rfl, _, SqL.of W1.g0⟩, _, rfl, sa, dxs, _, rfl, W1.s _ _ s1, rfl, _, rfl, _, rfl, sa, _, b, e, z, _, rfl, hst.same W1.s, by omega, fun H2 p vs M S2 np hp hA hm hM => ?_⟩
      have W2 := own_gives W1 S2 np hp
      have lv := dpAll_len hA
      rw [List.length_map] at lv
      refine ⟨D, p, us, vs, rfl, rfl, W2.g1, W2.g0, ?_, ?_⟩
      · rw [lu, lv]
        have : 11600 * i ≤ 11600 * 800 := Nat.mul_le_mul_left _ (by omega)
        exact big2 (by omega)
      have ts : TSt H2 (upd H2 D (.lst (us ++ vs))) := ts_lst W2.g1
      generalize e3 : upd _ D _ = H3 at ts ⊢
      refine ⟨_, y5, us ++ vs, L ++ M, rfl, (W2.set1 e3).tl, ?_, by rw [List.length_append]; omega, ?_⟩
      · rw [List.map_append]
        exact dpAll_append (dpAll_imm ts _ (immL L) (dpAll_imm S2.ts _ (immL L) hus)) (dpAll_imm ts _ (immL M) hA)
      · have hlt : len (zs.take (i + 1)) = len (zs.take i) + z.c := by
          rw [take_snoc hz']
          unfold len
          rw [List.map_append, List.sum_append]
          simp
        rw [hlt]
        exact kinds_step hK hM (by omega) fun u u1 u2 => (maskZ_at zs ss0 i z u (fun y hy => by have := hc y hy; omega) hz' u1 u2).symm
    · rintro σ H1 ⟨y4, y5, us, L, rfl, W1, hus, hl, hK⟩
      rw [List.length_map, la] at hl hK
      rw [List.take_length] at hK
      have hK := hK.congr (val' := maskA bo zs) fun u u1 u2 => by
        unfold maskA
        rw [if_pos (by omega)]
      -- the border unknowns
      refine ⟨_, rfl, _, rfl, el, CE, dx, _, _, rfl, W1.s _ _ h1, c, n2, rfl, _, _, rfl, _, rfl, _, _, rfl, ?_⟩
      generalize hst : (if len zs > b then len zs else b) = a
      have ha : a = max b (len zs) := by rw [← hst]; split <;> omega
      refine for_range (lo := a) (n := (e - a).toNat) (fun i σ H' => ∃ (y4 y5 : Option V) (us : List V) (L : List (Int × Nat × Int)), σ = [some (.ref el), some (.int b), some (.int e), some (.ref D), y4, y5] ∧ Own H [(D, .lst us)] H' ∧ DpAll K H' us (L.map kD) ∧ L.length ≤ 11600 * zs.length + i ∧ KindsOk (maskA bo zs) b (if i = 0 then max b (min e (len zs)) else a + (i : Int)) L)
        ⟨y4, y5, us, L, rfl, W1, hus, by omega, hK⟩ ?_ ?_
      · rintro i σ H2 hi ⟨y4, y5, us, L, rfl, W2, hus, hl, hK⟩
        have lu := dpAll_len hus
        rw [List.length_map] at lu
        have big : L.length ≤ 9300000 := by omega
        refine ⟨_, rfl,   .inl ⟨rfl, _, SqL.of W2.g0⟩, _, rfl, _, rfl, el, dx, _, rfl, W2.s _ _ h1, rfl, _, rfl, el, bo, zs, a + (i : Int), rfl, R.same W2.s, hc, by omega, by omega, by show 3 ≤ sizeLine; decide, fun p np => ?_⟩
        generalize e1 : upd _ p _ = H3
        obtain ⟨B3, S3, kp, W3⟩ := own_put W2 np e1
        refine ⟨D, _, _, rfl, rfl, W3.g0, by rw [lu]; exact big2 (by omega), ?_⟩
        have ts : TSt H3 (upd H3 D (.lst (us ++ [V.ref p]))) := ts_lst W3.g0
        generalize e2 : upd _ D _ = H4 at ts ⊢
        refine ⟨y4, _, us ++ [.ref p], L ++ [(a + (i : Int), maskA bo zs (a + (i : Int)), 1)], rfl, ?_, ?_, by rw [List.length_append, List.length_singleton]; omega, ?_⟩
        · exact own_down (W3.set0 e2) S3
        · rw [List.map_append]
          have hus3 := dpAll_imm (show TSt H2 H3 by rw [← e1]; exact (same1 np).ts) _ (immL L) hus
          exact dpAll_append (dpAll_imm ts _ (immL L) hus3) (.cons (.tup (.inl (.inl (ts.1 _ _ (W3.s _ _ kp)))) (.cons (.int _) (.cons (.int _) (.cons (.int _) .nil)))) .nil)
        · rw [if_neg (by omega)]
          have one : KindsOk (maskA bo zs) (a + (i : Int)) (a + (i : Int) + 1) [(a + (i : Int), maskA bo zs (a + (i : Int)), 1)] := by
            have := kinds_ones (maskA bo zs) (a + (i : Int)) (a + (i : Int) + 1)
            rw [rgI_snoc (Int.le_refl _), rgI_nil (Int.le_refl _)] at this
            exact this
          have hs : (if i = 0 then max b (min e (len zs)) else a + (i : Int)) = a + (i : Int) := by
            by_cases h0 : i = 0
            · rw [if_pos h0]
              omega
            · rw [if_neg h0]
          rw [hs] at hK
          rw [show a + ((i + 1 : Nat) : Int) = a + (i : Int) + 1 by omega]
          exact hK.cat one (by omega) (by omega)
      · rintro σ H2 ⟨y4, y5, us, L, rfl, W2, hus, hl, hK⟩
        have hs : (if (e - a).toNat = 0 then max b (min e (len zs)) else a + ((e - a).toNat : Int)) = e := by
          by_cases h0 : (e - a).toNat = 0
          · rw [if_pos h0]
            omega
          · rw [if_neg h0]
            omega
        rw [hs] at hK
        exact ⟨_, rfl, q H2 D us L W2.s nD W2.g0 hus (by omega) hK⟩
end
end Fb
namespace Fb
open PySem PySem.Spec PyProof.Rows L2
/-! ### what stands at an unknown: the zones as they are given, merged, trimmed -/
def rowAt : List Zn → Int → List Int × List Int
  | [], _ => ([], [])
  | z :: zs, u => if u < z.c then (z.o, z.t) else rowAt zs (u - z.c)
theorem rowAt_append : ∀ (a b : List Zn) (u : Int), (∀ z ∈ a, 0 ≤ z.c) → 0 ≤ u → rowAt (a ++ b) u = if u < len a then rowAt a u else rowAt b (u - len a)
  | [], b, u, _, hu => by
    have e : len [] = 0 := rfl
    rw [List.nil_append, e, if_neg (by omega), Int.sub_zero]
  | z :: a, b, u, h, hu => by
    have hz := h z (.head _)
    have key : ∀ l : List Zn, (∀ z ∈ l, 0 ≤ z.c) → 0 ≤ len l := by
      intro l
      induction l with
      | nil => intro _; exact Int.le_refl _
      | cons y l ih =>
        intro hl
        have e1 := ih fun x hx => hl x (.tail _ hx)
        have e2 := hl y (.head _)
        rw [len_cons]
        omega
    have hl := key a fun x hx => h x (.tail _ hx)
    rw [len_cons]
    show (if u < z.c then (z.o, z.t) else rowAt (a ++ b) (u - z.c)) = if u < z.c + len a then (if u < z.c then (z.o, z.t) else rowAt a (u - z.c)) else rowAt b (u - (z.c + len a))
    by_cases h1 : u < z.c
    · rw [if_pos h1, if_pos (by omega), if_pos h1]
    · rw [if_neg h1, if_neg h1, rowAt_append a b (u - z.c) (fun x hx => h x (.tail _ hx)) (by omega)]
      by_cases h2 : u < z.c + len a
      · rw [if_pos h2, if_pos (by omega)]
      · rw [if_neg h2, if_neg (by omega)]
        congr 1
        omega
theorem zoneOf_row : ∀ (zs : List Zn) (u : Int), u < len zs → ((zoneOf zs u).o, (zoneOf zs u).t) = rowAt zs u
  | [], u, h => by
    show (([], []) : List Int × List Int) = ([], [])
    rfl
  | [z], u, h => by
    have e : len [z] = z.c := by rw [len_cons]; show z.c + 0 = z.c; omega
    show (z.o, z.t) = if u < z.c then (z.o, z.t) else ([], [])
    rw [if_pos (by omega)]
  | z :: y :: zs, u, h => by
    rw [len_cons] at h
    show ((if u < z.c then z else zoneOf (y :: zs) (u - z.c)).o, (if u < z.c then z else zoneOf (y :: zs) (u - z.c)).t) = if u < z.c then (z.o, z.t) else rowAt (y :: zs) (u - z.c)
    by_cases h1 : u < z.c
    · rw [if_pos h1, if_pos h1]
    · rw [if_neg h1, if_neg h1]
      exact zoneOf_row (y :: zs) (u - z.c) (by omega)
theorem len_app' (a b : List Zn) : len (a ++ b) = len a + len b := by
  induction a with
  | nil =>
    show len b = 0 + len b
    omega
  | cons z a ih =>
    rw [List.cons_append, len_cons, len_cons, ih]
    omega
theorem rowAt_step {acc : List Zn} {z : Zn} {u : Int} (h : ∀ y ∈ acc, 0 ≤ y.c) (hz : 0 ≤ z.c) (hu : 0 ≤ u) : rowAt (mergeStep acc z) u = rowAt (acc ++ [z]) u := by
  unfold mergeStep
  cases e : acc.getLast? with
  | none => rfl
  | some y =>
    show rowAt (if y.o = z.o ∧ y.t = z.t then acc.dropLast ++ [⟨y.c + z.c, z.o, z.t⟩] else acc ++ [z]) u = _
    by_cases h1 : y.o = z.o ∧ y.t = z.t
    · rw [if_pos h1]
      obtain ⟨dl, rfl⟩ := List.getLast?_eq_some_iff.mp e
      have hy := h y (by simp)
      have hd : ∀ x ∈ dl, 0 ≤ x.c := fun x hx => h x (List.mem_append_left _ hx)
      rw [List.dropLast_concat]
      rw [List.append_assoc, rowAt_append _ _ _ hd hu, rowAt_append _ _ _ hd hu]
      by_cases h2 : u < len dl
      · rw [if_pos h2, if_pos h2]
      · rw [if_neg h2, if_neg h2]
        show (if u - len dl < y.c + z.c then (z.o, z.t) else ([], [])) = if u - len dl < y.c then (y.o, y.t) else if u - len dl - y.c < z.c then (z.o, z.t) else ([], [])
        rw [h1.1, h1.2]
        by_cases h3 : u - len dl < y.c
        · rw [if_pos h3, if_pos (by omega)]
        · rw [if_neg h3]
          by_cases h4 : u - len dl < y.c + z.c
          · rw [if_pos h4, if_pos (by omega)]
          · rw [if_neg h4, if_neg (by omega)]
    · rw [if_neg h1]
theorem step_pos {acc : List Zn} {z : Zn} (h : ∀ y ∈ acc, 0 ≤ y.c) (hz : 0 ≤ z.c) : ∀ y ∈ mergeStep acc z, 0 ≤ y.c := by
  intro y hy
  unfold mergeStep at hy
  have app : ∀ {l : List Zn} {x : Zn}, (∀ y ∈ l, 0 ≤ y.c) → 0 ≤ x.c → ∀ y ∈ l ++ [x], 0 ≤ y.c := fun hl hx y hy => by
    rcases List.mem_append.mp hy with e | e
    · exact hl y e
    · rw [List.mem_singleton] at e
      rw [e]
      exact hx
  cases e : acc.getLast? with
  | none =>
    rw [e] at hy
    exact app h hz y hy
  | some x =>
    rw [e] at hy
    obtain ⟨dl, rfl⟩ := List.getLast?_eq_some_iff.mp e
    have hx := h x (by simp)
    have hy' : y ∈ if x.o = z.o ∧ x.t = z.t then (dl ++ [x]).dropLast ++ [⟨x.c + z.c, z.o, z.t⟩] else (dl ++ [x]) ++ [z] := hy
    split at hy'
    · rw [List.dropLast_concat] at hy'
      exact app (fun w hw => h w (List.mem_append_left _ hw)) (show 0 ≤ x.c + z.c by omega) y hy'
    · exact app h hz y hy'
theorem step_len {acc : List Zn} {z : Zn} : len (mergeStep acc z) = len (acc ++ [z]) := by
  unfold mergeStep
  cases e : acc.getLast? with
  | none => rfl
  | some x =>
    obtain ⟨dl, rfl⟩ := List.getLast?_eq_some_iff.mp e
    show len (if x.o = z.o ∧ x.t = z.t then (dl ++ [x]).dropLast ++ [⟨x.c + z.c, z.o, z.t⟩] else (dl ++ [x]) ++ [z]) = _
    split
    · rw [List.dropLast_concat, List.append_assoc, len_append, len_append]
      congr 1
      show x.c + z.c + 0 = x.c + (z.c + 0)
      omega
    · rfl
theorem rowAt_fold : ∀ (zs acc : List Zn) (u : Int), (∀ y ∈ acc, 0 ≤ y.c) → (∀ y ∈ zs, 0 ≤ y.c) → 0 ≤ u → rowAt (zs.foldl mergeStep acc) u = rowAt (acc ++ zs) u
  | [], acc, u, _, _, _ => by rw [List.append_nil]; rfl
  | z :: zs, acc, u, ha, hz, hu => by
    have z0 := hz z (.head _)
    have ht : ∀ y ∈ zs, 0 ≤ y.c := fun y hy => hz y (.tail _ hy)
    rw [List.foldl_cons, rowAt_fold zs (mergeStep acc z) u (step_pos ha z0) ht hu, rowAt_append _ _ _ (step_pos ha z0) hu, step_len, rowAt_step ha z0 hu]
    have ha1 : ∀ y ∈ acc ++ [z], 0 ≤ y.c := fun y hy => by
      rcases List.mem_append.mp hy with e | e
      · exact ha y e
      · rw [List.mem_singleton] at e
        rw [e]
        exact z0
    rw [← rowAt_append _ _ _ ha1 hu, List.append_assoc]
    rfl
theorem rowAt_merged {zs : List Zn} {u : Int} (hz : ∀ y ∈ zs, 0 ≤ y.c) (hu : 0 ≤ u) : rowAt (mergedZ zs) u = rowAt zs u := rowAt_fold zs [] u (fun y hy => nomatch hy) hz hu
theorem rowAt_units (L b : Int) (z : Zn) : ∀ (n : Nat) (u : Nat), u < n → rowAt (unitsZ L b z n) (u : Int) = (z.o.filter fun o => decide (loZ L b + (u : Int) + o < L), z.t)
  | 0, u, h => by omega
  | n + 1, u, h => by
    have pos : ∀ y ∈ unitsZ L b z n, 0 ≤ y.c := fun y hy => by
      unfold unitsZ at hy
      obtain ⟨j, _, rfl⟩ := List.mem_map.mp hy
      exact (by decide : (0 : Int) ≤ 1)
    rw [unitsZ_snoc, rowAt_append _ _ _ pos (by omega), units_sum]
    by_cases h1 : u < n
    · rw [if_pos (by omega)]
      exact rowAt_units L b z n u h1
    · rw [if_neg (by omega)]
      have hu : u = n := by omega
      subst hu
      show (if (u : Int) - (u : Int) < 1 then ((unitZ L z (loZ L b + (u : Int))).o, z.t) else ([], [])) = _
      rw [if_pos (by omega)]
      rfl
theorem filter_all {os : List Int} {p : Int → Bool} (h : ∀ o ∈ os, p o = true) : os.filter p = os := List.filter_eq_self.mpr h
theorem units_pos (L b : Int) (z : Zn) (n : Nat) : ∀ y ∈ unitsZ L b z n, 0 ≤ y.c := fun y hy => by
  unfold unitsZ at hy
  obtain ⟨j, _, rfl⟩ := List.mem_map.mp hy
  exact (by decide : (0 : Int) ≤ 1)
theorem rowAt_trimZ {L b : Int} {z : Zn} {u : Int} (hz : 0 ≤ z.c) (ho : ∀ o ∈ z.o, 1 ≤ o ∧ o ≤ 16) (h0 : 0 ≤ u) (hu : u < z.c) : rowAt (trimZ L b z) u = (z.o.filter fun o => decide (b + u + o < L), z.t) := by
  unfold trimZ
  have sp : ∀ y ∈ safeP L b z, 0 ≤ y.c := fun y hy => by
    unfold safeP at hy
    split at hy
    · rw [List.mem_singleton] at hy
      subst hy
      show 0 ≤ safeZ L b z
      omega
    · cases hy
  rw [rowAt_append _ _ _ sp h0]
  by_cases hs : safeZ L b z > 0
  · have e : safeP L b z = [⟨safeZ L b z, z.o, z.t⟩] := if_pos hs
    have el : len (safeP L b z) = safeZ L b z := by
      rw [e]
      show safeZ L b z + 0 = _
      omega
    rw [el]
    by_cases h1 : u < safeZ L b z
    · rw [if_pos h1, e]
      show (if u < safeZ L b z then (z.o, z.t) else ([], [])) = _
      rw [if_pos h1, filter_all fun o hoo => by
        have h2 := ho o hoo
        have h3 : u < (if L - 16 < b + z.c then L - 16 else b + z.c) - b := h1
        refine decide_eq_true ?_
        split at h3 <;> omega]
    · rw [if_neg h1]
      have h3 : ¬ u < (if L - 16 < b + z.c then L - 16 else b + z.c) - b := h1
      have h4 : safeZ L b z = (if L - 16 < b + z.c then L - 16 else b + z.c) - b := rfl
      have h5 : L - 16 < b + z.c := by
        by_cases q : L - 16 < b + z.c
        · exact q
        · rw [if_neg q] at h3
          omega
      rw [if_pos h5] at h4
      have h6 : loZ L b = L - 16 := if_pos (by omega)
      obtain ⟨k, hk⟩ := Int.eq_ofNat_of_zero_le (show 0 ≤ u - safeZ L b z by omega)
      rw [hk, rowAt_units L b z _ k (by unfold unitN; rw [h6]; omega), h6]
      have e9 : ∀ o : Int, L - 16 + (k : Int) + o = b + u + o := fun o => by omega
      simp only [e9]
  · have e : safeP L b z = [] := if_neg hs
    have el : len (safeP L b z) = 0 := by rw [e]; rfl
    rw [el, if_neg (by omega), Int.sub_zero]
    have h4 : safeZ L b z = (if L - 16 < b + z.c then L - 16 else b + z.c) - b := rfl
    have h5 : L - 16 ≤ b := by
      rw [h4] at hs
      split at hs <;> omega
    have h6 : loZ L b = b := if_neg (by omega)
    obtain ⟨k, hk⟩ := Int.eq_ofNat_of_zero_le h0
    subst hk
    rw [rowAt_units L b z _ k (by unfold unitN; rw [h6]; omega), h6]
theorem trimZ_pos (L b : Int) (z : Zn) : ∀ y ∈ trimZ L b z, 0 ≤ y.c := fun y hy => by
  unfold trimZ at hy
  rcases List.mem_append.mp hy with h | h
  · unfold safeP at h
    split at h
    · rw [List.mem_singleton] at h
      subst h
      show 0 ≤ safeZ L b z
      omega
    · cases h
  · exact units_pos _ _ _ _ y h
theorem rowAt_trimmed (L : Int) : ∀ (zs : List Zn) (b u : Int), (∀ z ∈ zs, 0 ≤ z.c) → (∀ z ∈ zs, ∀ o ∈ z.o, 1 ≤ o ∧ o ≤ 16) → 0 ≤ u → u < len zs → rowAt (trimmedF L b zs) u = ((rowAt zs u).1.filter fun o => decide (b + u + o < L), (rowAt zs u).2)
  | [], b, u, _, _, h0, h1 => by
    have e : len [] = 0 := rfl
    omega
  | z :: zs, b, u, hc, ho, h0, h1 => by
    have hz := hc z (.head _)
    rw [len_cons] at h1
    show rowAt (trimZ L b z ++ trimmedF L (b + z.c) zs) u = _
    rw [rowAt_append _ _ _ (trimZ_pos L b z) h0, trimZ_sum L b z hz]
    show _ = ((if u < z.c then (z.o, z.t) else rowAt zs (u - z.c)).1.filter (fun o => decide (b + u + o < L)), (if u < z.c then (z.o, z.t) else rowAt zs (u - z.c)).2)
    by_cases h2 : u < z.c
    · rw [if_pos h2, if_pos h2]
      exact rowAt_trimZ hz (ho z (.head _)) h0 h2
    · rw [if_neg h2, if_neg h2, rowAt_trimmed L zs (b + z.c) (u - z.c) (fun x hx => hc x (.tail _ hx)) (fun x hx => ho x (.tail _ hx)) (by omega) (by omega)]
      have e9 : ∀ o : Int, b + z.c + (u - z.c) + o = b + u + o := fun o => by omega
      simp only [e9]
theorem trimmed_pos (L : Int) : ∀ (zs : List Zn) (b : Int), ∀ y ∈ trimmedF L b zs, 0 ≤ y.c
  | [], _, y, hy => nomatch hy
  | z :: zs, b, y, hy => by
    have hy' : y ∈ trimZ L b z ++ trimmedF L (b + z.c) zs := hy
    rcases List.mem_append.mp hy' with h | h
    · exact trimZ_pos L b z y h
    · exact trimmed_pos L zs _ y h
/-- what stands at an unknown, as the system tells it -/
theorem told_row {zs : List Zn} {u : Int} (hc : ∀ z ∈ zs, 0 ≤ z.c) (ho : ∀ z ∈ zs, ∀ o ∈ z.o, 1 ≤ o ∧ o ≤ 16) (h0 : 0 ≤ u) (h1 : u < len zs) :
    ((zoneOf (toldZ zs) u).o, (zoneOf (toldZ zs) u).t) = ((rowAt zs u).1.filter fun o => decide (u + o < len zs), (rowAt zs u).2) := by
  have hs := told_sum zs hc
  rw [zoneOf_row (toldZ zs) u (by omega)]
  unfold toldZ trimmedZ
  rw [rowAt_merged (trimmed_pos _ _ _) h0, rowAt_trimmed (len zs) zs 0 u hc ho h0 h1]
  simp only [Int.zero_add]
end Fb
namespace Fb
open PySem PySem.Spec PyProof.Rows L2
/-! ### bits of what an unknown is coupled with at first -/
theorem maskO_bits : ∀ (os : List Int) (m a : Nat), (∀ x ∈ os, 1 ≤ x) → ((os.foldl (fun m o => m ||| (1 <<< (o - 1).toNat)) m).testBit a = true ↔ m.testBit a = true ∨ ((a : Int) + 1) ∈ os)
  | [], m, a, _ => by simp
  | o :: os, m, a, h => by
    have ho := h o (.head _)
    rw [List.foldl_cons, maskO_bits os _ a fun x hx => h x (.tail _ hx), Nat.testBit_or, one_shl_bit, Bool.or_eq_true, decide_eq_true_eq, List.mem_cons, or_assoc]
    have e : (o - 1).toNat = a ↔ (a : Int) + 1 = o := by omega
    rw [e]
theorem maskT_bits : ∀ (ts : List Int) (m a : Nat), (∀ x ∈ ts, 0 ≤ x) → ((maskT m ts).testBit a = true ↔ m.testBit a = true ∨ (16 ≤ a ∧ ((a : Int) - 16) ∈ ts))
  | [], m, a, _ => by simp [maskT]
  | t :: ts, m, a, h => by
    have ht := h t (.head _)
    have e0 : maskT m (t :: ts) = maskT (m ||| (1 <<< (16 + t).toNat)) ts := rfl
    rw [e0, maskT_bits ts _ a fun x hx => h x (.tail _ hx), Nat.testBit_or, one_shl_bit, Bool.or_eq_true, decide_eq_true_eq, List.mem_cons, or_assoc]
    have e : (16 + t).toNat = a ↔ 16 ≤ a ∧ (a : Int) - 16 = t := by omega
    rw [e]
    constructor
    · rintro (h | ⟨h1, h2⟩ | ⟨h1, h2⟩)
      · exact .inl h
      · exact .inr ⟨h1, .inl h2⟩
      · exact .inr ⟨h1, .inr h2⟩
    · rintro (h | ⟨h1, h2 | h2⟩)
      · exact .inl h
      · exact .inr (.inl ⟨h1, h2⟩)
      · exact .inr (.inr ⟨h1, h2⟩)
theorem maskF_bits {os ts : List Int} (a : Nat) (ho : ∀ x ∈ os, 1 ≤ x) (ht : ∀ x ∈ ts, 0 ≤ x) : (maskF os ts).testBit a = true ↔ ((a : Int) + 1) ∈ os ∨ (16 ≤ a ∧ ((a : Int) - 16) ∈ ts) := by
  unfold maskF
  rw [maskT_bits ts _ a ht]
  unfold maskO
  rw [maskO_bits os 0 a ho, Nat.zero_testBit]
  simp
def dirG (zs : List Zn) (u : Int) : Nat := maskF (rowAt zs u).1 (rowAt zs u).2
/-! ### a mask's bits: of the unknown itself, handed on to the first zone, or handed on by an earlier one -/
def HandG (m : Int → Nat) (u : Int) (a : Nat) : Prop := ∃ j, 0 ≤ j ∧ j < u ∧ WM.has (m j) = true ∧ j + (WM.low (m j) : Int) + 1 = u ∧ (WM.rest (m j)).testBit a = true
theorem maskZ_bits : ∀ (zs : List Zn) (ss : List Nat) (u : Int) (a : Nat), (∀ z ∈ zs, 0 ≤ z.c) → ss.length = 16 → 0 ≤ u → u < len zs →
    ((maskZ ss zs u).testBit a = true ↔ (dirG zs u).testBit a = true ∨ (u < 16 ∧ (ss.getD u.toNat 0).testBit a = true) ∨ HandG (maskZ ss zs) u a)
  | [], _, u, _, _, _, h0, h1 => by
    have e : len [] = 0 := rfl
    omega
  | z :: zs, ss, u, a, hc, hl, h0, h1 => by
    have e : len (z :: zs) = z.c + len zs := rfl
    have hz := hc z (.head _)
    -- within the first zone
    have mfirst : ∀ j : Int, j < z.c → maskZ ss (z :: zs) j = WM.Ms (zd z) ss j.toNat := fun j hj => if_pos hj
    have mM : ∀ j : Nat, WM.Ms (zd z) ss j = WM.M (zd z) (fun i => ss.getD i 0) j := fun j => by
      unfold WM.Ms WM.M
      rw [WM.St_get hl j 0 (by decide)]
    by_cases hu : u < z.c
    · rw [mfirst u hu, mM]
      have ed : dirG (z :: zs) u = zd z := by
        unfold dirG
        rw [show rowAt (z :: zs) u = (z.o, z.t) from if_pos hu]
        rfl
      rw [ed]
      unfold WM.M
      rw [Nat.testBit_or, Bool.or_eq_true, WM.s_bit]
      have hun : ((u.toNat : Nat) : Int) = u := by omega
      constructor
      · rintro (h | ⟨h2, h3⟩ | ⟨j, j1, _, j3, j4, j5⟩)
        · exact .inl h
        · exact .inr (.inl ⟨by omega, by simpa using h3⟩)
        · refine .inr (.inr ⟨(j : Int), by omega, by omega, ?_, ?_, ?_⟩)
          · rw [mfirst _ (by omega), Int.toNat_natCast, mM]; exact j3
          · rw [mfirst _ (by omega), Int.toNat_natCast, mM]; omega
          · rw [mfirst _ (by omega), Int.toNat_natCast, mM]; exact j5
      · rintro (h | ⟨h2, h3⟩ | ⟨j, j0, j1, j3, j4, j5⟩)
        · exact .inl h
        · exact .inr (.inl ⟨by omega, by simpa using h3⟩)
        · rw [mfirst j (by omega), mM] at j3 j4 j5
          exact .inr (.inr ⟨j.toNat, by omega, by decide, j3, by omega, j5⟩)
    · -- further on
      have mrest : ∀ j : Int, ¬ j < z.c → maskZ ss (z :: zs) j = maskZ (WM.St (zd z) ss z.c.toNat) zs (j - z.c) := fun j hj => if_neg hj
      have ed : dirG (z :: zs) u = dirG zs (u - z.c) := by
        unfold dirG
        rw [show rowAt (z :: zs) u = rowAt zs (u - z.c) from if_neg hu]
      rw [mrest u hu, maskZ_bits zs _ (u - z.c) a (fun y hy => hc y (.tail _ hy)) (WM.St_len hl _) (by omega) (by omega), ed]
      have hcn : ((z.c.toNat : Nat) : Int) = z.c := by omega
      have hpend : (u - z.c < 16 ∧ ((WM.St (zd z) ss z.c.toNat).getD (u - z.c).toNat 0).testBit a = true) ↔ (u < 16 ∧ (ss.getD u.toNat 0).testBit a = true) ∨
          ∃ j : Nat, j < z.c.toNat ∧ u - z.c < 16 ∧ WM.has (WM.Ms (zd z) ss j) = true ∧ (j : Int) + (WM.low (WM.Ms (zd z) ss j) : Int) + 1 = u ∧ (WM.rest (WM.Ms (zd z) ss j)).testBit a = true := by
        constructor
        · rintro ⟨h2, h3⟩
          rw [WM.St_get hl _ _ (by omega), WM.s_bit] at h3
          rcases h3 with ⟨k1, k2⟩ | ⟨j, j1, _, j3, j4, j5⟩
          · exact .inl ⟨by omega, by rw [show z.c.toNat + (u - z.c).toNat = u.toNat by omega] at k2; exact k2⟩
          · rw [← mM] at j3 j4 j5
            exact .inr ⟨j, j1, h2, j3, by omega, j5⟩
        · rintro (⟨k1, k2⟩ | ⟨j, j1, h2, j3, j4, j5⟩)
          · refine ⟨by omega, ?_⟩
            rw [WM.St_get hl _ _ (by omega), WM.s_bit]
            exact .inl ⟨by omega, by rw [show z.c.toNat + (u - z.c).toNat = u.toNat by omega]; exact k2⟩
          · refine ⟨h2, ?_⟩
            rw [WM.St_get hl _ _ (by omega), WM.s_bit]
            rw [mM] at j3 j4 j5
            exact .inr ⟨j, j1, by omega, j3, by omega, j5⟩
      rw [hpend]
      constructor
      · rintro (h | (h | ⟨j, j1, h2, j3, j4, j5⟩) | ⟨j, j0, j1, j3, j4, j5⟩)
        · exact .inl h
        · exact .inr (.inl h)
        · refine .inr (.inr ⟨(j : Int), by omega, by omega, ?_, ?_, ?_⟩) <;> rw [mfirst _ (by omega), Int.toNat_natCast] <;> assumption
        · have em : maskZ ss (z :: zs) (j + z.c) = maskZ (WM.St (zd z) ss z.c.toNat) zs j := by
            rw [mrest _ (by omega), show j + z.c - z.c = j by omega]
          refine .inr (.inr ⟨j + z.c, by omega, by omega, ?_, ?_, ?_⟩) <;> rw [em]
          · exact j3
          · omega
          · exact j5
      · rintro (h | h | ⟨j, j0, j1, j3, j4, j5⟩)
        · exact .inl h
        · exact .inr (.inl (.inl h))
        · by_cases hj : j < z.c
          · rw [mfirst j hj] at j3 j4 j5
            have hlow : WM.low (WM.Ms (zd z) ss j.toNat) < 16 := by
              obtain ⟨q, q1, q2⟩ := WM.has_iff.mp j3
              exact (WM.low_spec q1 q2).2.1
            exact .inr (.inl (.inr ⟨j.toNat, by omega, by omega, j3, by omega, j5⟩))
          · rw [mrest j hj] at j3 j4 j5
            exact .inr (.inr ⟨j - z.c, by omega, by omega, j3, by omega, j5⟩)
/-- from the start: nothing is handed on -/
theorem maskZ_bits0 {zs : List Zn} {u : Int} (a : Nat) (hc : ∀ z ∈ zs, 0 ≤ z.c) (h0 : 0 ≤ u) (h1 : u < len zs) : (maskZ ss0 zs u).testBit a = true ↔ (dirG zs u).testBit a = true ∨ HandG (maskZ ss0 zs) u a := by
  rw [maskZ_bits zs ss0 u a hc rfl h0 h1]
  have e : ss0.getD u.toNat 0 = 0 := by
    unfold ss0
    rw [List.getD_eq_getElem?_getD, List.getElem?_replicate]
    split <;> rfl
  rw [e, Nat.zero_testBit]
  simp
end Fb
namespace Fb
open PySem PySem.Spec PyProof.Rows L2
/-! ### elimination: the columns that are handed on to the parents alone are those of all couplings -/
theorem least_of {P : Int → Prop} : ∀ (n : Nat) (j k : Int), (k - j).toNat ≤ n → j < k → P k → ∃ p, j < p ∧ p ≤ k ∧ P p ∧ ∀ m, j < m → m < p → ¬ P m
  | 0, j, k, hn, h, _ => by omega
  | n + 1, j, k, hn, h, hk => by
    by_cases q : ∃ m, j < m ∧ m < k ∧ P m
    · obtain ⟨m, m1, m2, m3⟩ := q
      obtain ⟨p, p1, p2, p3, p4⟩ := least_of n j m (by omega) m1 m3
      exact ⟨p, p1, by omega, p3, p4⟩
    · exact ⟨k, h, Int.le_refl _, hk, fun m m1 m2 m3 => q ⟨m, m1, m2, m3⟩⟩
/-- k is the parent of j -/
def Par (pc : Int → Int → Prop) (j k : Int) : Prop := pc j k ∧ ∀ m, j < m → m < k → ¬ pc j m
section
variable {N : Int} {adj pc nc : Int → Int → Prop}
theorem chain (hp : ∀ k i, 0 ≤ k → k < i → i < N → (pc k i ↔ adj k i ∨ ∃ j, 0 ≤ j ∧ j < k ∧ Par pc j k ∧ pc j i)) :
    ∀ (n : Nat) (j k i : Int), (k - j).toNat ≤ n → 0 ≤ j → j < k → k < i → i < N → pc j k → pc j i → pc k i
  | 0, j, k, i, hn, _, h, _, _, _, _ => by omega
  | n + 1, j, k, i, hn, h0, h1, h2, h3, hk, hi => by
    obtain ⟨p, p1, p2, p3, p4⟩ := least_of (P := pc j) _ j k (Nat.le_refl _) h1 hk
    by_cases e : p = k
    · subst e
      exact (hp p i (by omega) h2 h3).mpr (.inr ⟨j, h0, h1, ⟨p3, p4⟩, hi⟩)
    · have a : pc p k := (hp p k (by omega) (by omega) (by omega)).mpr (.inr ⟨j, h0, p1, ⟨p3, p4⟩, hk⟩)
      have b : pc p i := (hp p i (by omega) (by omega) h3).mpr (.inr ⟨j, h0, p1, ⟨p3, p4⟩, hi⟩)
      exact chain hp n p k i (by omega) (by omega) (by omega) h2 h3 a b
theorem elim_naive (hp : ∀ k i, 0 ≤ k → k < i → i < N → (pc k i ↔ adj k i ∨ ∃ j, 0 ≤ j ∧ j < k ∧ Par pc j k ∧ pc j i))
    (hn : ∀ k i, 0 ≤ k → k < i → i < N → (nc k i ↔ adj k i ∨ ∃ j, 0 ≤ j ∧ j < k ∧ nc j k ∧ nc j i)) : ∀ (n : Nat) (k i : Int), k.toNat ≤ n → 0 ≤ k → k < i → i < N → (pc k i ↔ nc k i) := by
  intro n
  induction n with
  | zero =>
    intro k i hk h0 h1 h2
    rw [hp k i h0 h1 h2, hn k i h0 h1 h2]
    constructor
    · rintro (h | ⟨j, j0, j1, _⟩)
      · exact .inl h
      · omega
    · rintro (h | ⟨j, j0, j1, _⟩)
      · exact .inl h
      · omega
  | succ n ih =>
    intro k i hk h0 h1 h2
    rw [hn k i h0 h1 h2]
    constructor
    · intro h
      rcases (hp k i h0 h1 h2).mp h with h | ⟨j, j0, j1, j2, j3⟩
      · exact .inl h
      · exact .inr ⟨j, j0, j1, (ih j k (by omega) j0 j1 (by omega)).mp j2.1, (ih j i (by omega) j0 (by omega) h2).mp j3⟩
    · rintro (h | ⟨j, j0, j1, j2, j3⟩)
      · exact (hp k i h0 h1 h2).mpr (.inl h)
      · exact chain hp _ j k i (Nat.le_refl _) j0 j1 h1 h2 ((ih j k (by omega) j0 j1 (by omega)).mpr j2) ((ih j i (by omega) j0 (by omega) h2).mpr j3)
end
/-! ### the border's masks -/
theorem mem_walkM {m : Nat} : ∀ (zs : List Zn) (ss : List Nat), (∀ z ∈ zs, 0 ≤ z.c) → (m ∈ walkM ss zs ↔ ∃ u, 0 ≤ u ∧ u < len zs ∧ maskZ ss zs u = m)
  | [], ss, _ => by
    constructor
    · intro h; cases h
    · rintro ⟨u, h0, h1, _⟩
      have e : len [] = 0 := rfl
      omega
  | z :: zs, ss, hc => by
    have hz := hc z (.head _)
    have hl : 0 ≤ len zs := by
      have key : ∀ l : List Zn, (∀ y ∈ l, 0 ≤ y.c) → 0 ≤ len l := by
        intro l
        induction l with
        | nil => intro _; exact Int.le_refl _
        | cons y l ih =>
          intro h
          have := h y (.head _)
          have := ih fun z hz => h z (.tail _ hz)
          have e : len (y :: l) = y.c + len l := rfl
          omega
      exact key zs fun y hy => hc y (.tail _ hy)
    have e : len (z :: zs) = z.c + len zs := rfl
    have ew : walkM ss (z :: zs) = mss (zd z) ss z.c.toNat ++ walkM (WM.St (zd z) ss z.c.toNat) zs := rfl
    rw [ew, List.mem_append, mem_mss, mem_walkM zs _ fun y hy => hc y (.tail _ hy)]
    constructor
    · rintro (⟨j, j1, j2⟩ | ⟨u, h0, h1, h2⟩)
      · refine ⟨(j : Int), by omega, by omega, ?_⟩
        rw [show maskZ ss (z :: zs) (j : Int) = WM.Ms (zd z) ss ((j : Int).toNat) from if_pos (by omega), Int.toNat_natCast]
        exact j2
      · refine ⟨u + z.c, by omega, by omega, ?_⟩
        rw [show maskZ ss (z :: zs) (u + z.c) = maskZ (WM.St (zd z) ss z.c.toNat) zs (u + z.c - z.c) from if_neg (by omega), show u + z.c - z.c = u by omega]
        exact h2
    · rintro ⟨u, h0, h1, h2⟩
      by_cases hu : u < z.c
      · rw [show maskZ ss (z :: zs) u = WM.Ms (zd z) ss u.toNat from if_pos hu] at h2
        exact .inl ⟨u.toNat, by omega, h2⟩
      · rw [show maskZ ss (z :: zs) u = maskZ (WM.St (zd z) ss z.c.toNat) zs (u - z.c) from if_neg hu] at h2
        exact .inr ⟨u - z.c, by omega, by omega, h2⟩
/-- the bits of border masks lie above their own -/
def Up (B : Nat) (ls : List Nat) : Prop := ∀ i a, (ls.getD i 0).testBit a = true → 16 + i < a ∧ a < B
theorem lowB_min {m k : Nat} (hk : k < 64) (h : m.testBit k = true) : lowB m ≤ k ∧ m.testBit (lowB m) = true := by
  obtain ⟨p, p1, p2⟩ : ∃ p, p ≤ k ∧ m.testBit p = true ∧ ∀ j, j < p → m.testBit j = false := by
    have key : ∀ n : Nat, ∀ k, k ≤ n → m.testBit k = true → ∃ p, p ≤ k ∧ m.testBit p = true ∧ ∀ j, j < p → m.testBit j = false := by
      intro n
      induction n with
      | zero => intro k hk h; exact ⟨k, Nat.le_refl _, h, fun j hj => by omega⟩
      | succ n ih =>
        intro k hk h
        by_cases q : ∃ j, j < k ∧ m.testBit j = true
        · obtain ⟨j, j1, j2⟩ := q
          obtain ⟨p, p1, p2⟩ := ih j (by omega) j2
          exact ⟨p, by omega, p2⟩
        · exact ⟨k, Nat.le_refl _, h, fun j hj => by
            cases e : m.testBit j with
            | false => rfl
            | true => exact absurd ⟨j, hj, e⟩ q⟩
    exact key k k (Nat.le_refl _) h
  have := lowB_is (by omega) p2.1 p2.2
  subst this
  exact ⟨p1, p2.1⟩
theorem no_has {m : Nat} (h : WM.has m = false) {a : Nat} (ha : a < 16) : m.testBit a = false := by
  cases e : m.testBit a with
  | false => rfl
  | true => rw [WM.has_iff.mpr ⟨a, ha, e⟩] at h; cases h
/-- what is handed on at the border -/
theorem hands_iff {m t a B : Nat} (hB : B ≤ 64) (hm : ∀ a, B ≤ a → m.testBit a = false) : Hands m t a ↔ (∀ i, i < 16 + t → m.testBit i = false) ∧ m.testBit (16 + t) = true ∧ m.testBit a = true ∧ 16 + t < a := by
  unfold Hands
  have hx : ∀ a, (m ^^^ (1 <<< lowB m)).testBit a = (m.testBit a != decide (lowB m = a)) := fun a => by rw [Nat.testBit_xor, one_shl_bit]
  constructor
  · rintro ⟨h1, h2, h3, h4⟩
    obtain ⟨b, hb⟩ : ∃ b, m.testBit b = true := Nat.exists_testBit_of_ne_zero h1 
    have hb64 : b < 64 := by
      rcases Nat.lt_or_ge b B with h | h
      · omega
      · rw [hm b h] at hb; cases hb
    obtain ⟨l1, l2⟩ := lowB_min hb64 hb
    have l16 : 16 ≤ lowB m := by
      rcases Nat.lt_or_ge (lowB m) 16 with h | h
      · rw [no_has h2 h] at l2; cases l2
      · exact h
    have el : lowB m = 16 + t := by omega
    rw [hx, el] at h4
    have below : ∀ i, i < 16 + t → m.testBit i = false := fun i hi => by
      cases e : m.testBit i with
      | false => rfl
      | true =>
        have := lowB_min (by omega) e
        omega
    have ea : a ≠ 16 + t := fun q => by
      rw [q, decide_eq_true rfl, ← el, l2] at h4
      cases h4
    rw [decide_eq_false (fun q => ea q.symm)] at h4
    have ha : m.testBit a = true := by simpa using h4
    refine ⟨below, el ▸ l2, ha, ?_⟩
    rcases Nat.lt_or_ge a (16 + t) with h | h
    · rw [below a h] at ha; cases ha
    · omega
  · rintro ⟨h1, h2, h3, h4⟩
    have ht : 16 + t < 64 := by
      rcases Nat.lt_or_ge (16 + t) B with h | h
      · omega
      · rw [hm _ h] at h2; cases h2
    have el : 16 + t = lowB m := lowB_is ht h2 h1
    refine ⟨(fun q => by rw [q, Nat.zero_testBit] at h2; cases h2), ?_, by omega, ?_⟩
    · cases e : WM.has m with
      | false => rfl
      | true =>
        obtain ⟨i, i1, i2⟩ := WM.has_iff.mp e
        rw [h1 i (by omega)] at i2
        cases i2
    · rw [hx, h3, decide_eq_false (by omega)]
      rfl
end Fb
namespace Fb
open PySem PySem.Spec PyProof.Rows L2
theorem getD_out {ls : List Nat} {i : Nat} (h : ls.length ≤ i) : ls.getD i 0 = 0 := by
  rw [List.getD_eq_getElem?_getD, List.getElem?_eq_none h]
  rfl
theorem Up.none {B : Nat} {ls : List Nat} (h : Up B ls) (i : Nat) : ∀ a, B ≤ a → (ls.getD i 0).testBit a = false := fun a ha => by
  cases e : (ls.getD i 0).testBit a with
  | false => rfl
  | true => have := h i a e; omega
theorem Up.border {B : Nat} (hB : B ≤ 64) {ls : List Nat} (h : Up B ls) {m : Nat} (hm : ∀ a, B ≤ a → m.testBit a = false) : Up B (borderF ls m) := fun i a e => by
  by_cases hi : i < ls.length
  · rcases (borderF_get ls m i a hi).mp e with q | q
    · exact h i a q
    · obtain ⟨_, _, q3, q4⟩ := (hands_iff hB hm).mp q
      refine ⟨q4, ?_⟩
      rcases Nat.lt_or_ge a B with r | r
      · exact r
      · rw [hm a r] at q3; cases q3
  · rw [getD_out (by rw [borderF_len]; omega), Nat.zero_testBit] at e
    cases e
theorem border_keep {B : Nat} (hB : B ≤ 64) {ls : List Nat} (h : Up B ls) {t i : Nat} (hi : i ≤ t) : (borderF ls (ls.getD t 0)).getD i 0 = ls.getD i 0 := by
  by_cases hl : i < ls.length
  · refine Nat.eq_of_testBit_eq fun a => ?_
    rw [Bool.eq_iff_iff, borderF_get ls _ i a hl]
    constructor
    · rintro (q | q)
      · exact q
      · obtain ⟨_, q2, _, _⟩ := (hands_iff hB (h.none t)).mp q
        have := h t _ q2
        omega
    · exact .inl
  · rw [getD_out (by rw [borderF_len]; omega), getD_out (by omega)]
theorem loop_keep {B : Nat} (hB : B ≤ 64) : ∀ (k t : Nat) {ls : List Nat}, Up B ls → ∀ {i : Nat}, i ≤ t → (lastLoop t k ls).getD i 0 = ls.getD i 0
  | 0, _, _, _, _, _ => rfl
  | k + 1, t, ls, h, i, hi => by
    show (lastLoop (t + 1) k (borderF ls (ls.getD t 0))).getD i 0 = _
    rw [loop_keep hB k (t + 1) (h.border hB (h.none t)) (by omega), border_keep hB h hi]
theorem loop_up {B : Nat} (hB : B ≤ 64) : ∀ (k t : Nat) {ls : List Nat}, Up B ls → Up B (lastLoop t k ls)
  | 0, _, _, h => h
  | k + 1, t, ls, h => loop_up hB k (t + 1) (h.border hB (h.none t))
theorem loop_get {B : Nat} (hB : B ≤ 64) : ∀ (k t : Nat) {ls : List Nat}, Up B ls → ∀ (s a : Nat), s < ls.length →
    (((lastLoop t k ls).getD s 0).testBit a = true ↔ (ls.getD s 0).testBit a = true ∨ ∃ u, t ≤ u ∧ u < t + k ∧ Hands ((lastLoop t k ls).getD u 0) s a)
  | 0, t, ls, _, s, a, _ => by
    constructor
    · exact .inl
    · rintro (h | ⟨u, h1, h2, _⟩)
      · exact h
      · omega
  | k + 1, t, ls, h, s, a, hs => by
    have h' := h.border hB (h.none t)
    have e : lastLoop t (k + 1) ls = lastLoop (t + 1) k (borderF ls (ls.getD t 0)) := rfl
    have et : (lastLoop t (k + 1) ls).getD t 0 = ls.getD t 0 := loop_keep hB (k + 1) t h (Nat.le_refl _)
    rw [e, loop_get hB k (t + 1) h' s a (by rw [borderF_len]; exact hs), borderF_get ls _ s a hs, ← e]
    constructor
    · rintro ((q | q) | ⟨u, u1, u2, u3⟩)
      · exact .inl q
      · exact .inr ⟨t, Nat.le_refl _, by omega, by rw [et]; exact q⟩
      · exact .inr ⟨u, by omega, by omega, u3⟩
    · rintro (q | ⟨u, u1, u2, u3⟩)
      · exact .inl (.inl q)
      · by_cases hu : u = t
        · subst hu
          rw [et] at u3
          exact .inl (.inr u3)
        · exact .inr ⟨u, by omega, by omega, u3⟩
section
variable {b : Nat} {zs : List Zn}
theorem mask_none (Z : ZOk b zs) {u : Int} (h0 : 0 ≤ u) (h1 : u < len zs) : ∀ a, 16 + b ≤ a → (maskZ ss0 zs u).testBit a = false := fun a ha =>
  walkM_low (B := 16 + b) (by omega) zs ss0 rfl (low0 _) (fun z hz => Z.bits z hz) _ ((mem_walkM zs ss0 fun z hz => by have := Z.c z hz; omega).mpr ⟨u, h0, h1, rfl⟩) a ha
theorem last_up (Z : ZOk b zs) : Up (16 + b) (lastF b zs) := by
  have hb := Z.b
  refine loop_up (by omega) b 0 fun i a e => ?_
  have hi : i < b := by
    rcases Nat.lt_or_ge i b with h | h
    · exact h
    · rw [getD_out (by rw [foldB_len, List.length_replicate]; exact h), Nat.zero_testBit] at e
      cases e
  rw [foldB_get i a _ _ (by rw [List.length_replicate]; exact hi)] at e
  rcases e with q | ⟨m, m1, m2⟩
  · rw [List.getD_eq_getElem?_getD, List.getElem?_replicate, if_pos hi] at q
    simp at q
  · obtain ⟨u, u0, u1, rfl⟩ := (mem_walkM zs ss0 fun z hz => by have := Z.c z hz; omega).mp m1
    obtain ⟨_, _, q3, q4⟩ := (hands_iff (B := 16 + b) (by omega) (mask_none Z u0 u1)).mp m2
    refine ⟨q4, ?_⟩
    rcases Nat.lt_or_ge a (16 + b) with r | r
    · exact r
    · rw [mask_none Z u0 u1 a r] at q3; cases q3
theorem last_bits (Z : ZOk b zs) {t : Nat} (ht : t < b) (a : Nat) : ((lastF b zs).getD t 0).testBit a = true ↔ (∃ u, 0 ≤ u ∧ u < len zs ∧ Hands (maskZ ss0 zs u) t a) ∨ ∃ s, s < b ∧ Hands ((lastF b zs).getD s 0) t a := by
  have hb := Z.b
  have up0 : Up (16 + b) (foldB (List.replicate b 0) (walkM ss0 zs)) := by
    intro i a e
    have hi : i < b := by
      rcases Nat.lt_or_ge i b with h | h
      · exact h
      · rw [getD_out (by rw [foldB_len, List.length_replicate]; exact h), Nat.zero_testBit] at e
        cases e
    rw [foldB_get i a _ _ (by rw [List.length_replicate]; exact hi)] at e
    rcases e with q | ⟨m, m1, m2⟩
    · rw [List.getD_eq_getElem?_getD, List.getElem?_replicate, if_pos hi] at q
      simp at q
    · obtain ⟨u, u0, u1, rfl⟩ := (mem_walkM zs ss0 fun z hz => by have := Z.c z hz; omega).mp m1
      obtain ⟨_, _, q3, q4⟩ := (hands_iff (B := 16 + b) (by omega) (mask_none Z u0 u1)).mp m2
      refine ⟨q4, ?_⟩
      rcases Nat.lt_or_ge a (16 + b) with r | r
      · exact r
      · rw [mask_none Z u0 u1 a r] at q3; cases q3
  have e := loop_get (B := 16 + b) (by omega) b 0 up0 t a (by rw [foldB_len, List.length_replicate]; exact ht)
  have el : lastLoop 0 b (foldB (List.replicate b 0) (walkM ss0 zs)) = lastF b zs := rfl
  rw [el] at e
  rw [e, foldB_get t a _ _ (by rw [List.length_replicate]; exact ht)]
  constructor
  · rintro ((q | ⟨m, m1, m2⟩) | ⟨s, _, s1, s2⟩)
    · rw [List.getD_eq_getElem?_getD, List.getElem?_replicate, if_pos ht] at q
      simp at q
    · obtain ⟨u, u0, u1, rfl⟩ := (mem_walkM zs ss0 fun z hz => by have := Z.c z hz; omega).mp m1
      exact .inl ⟨u, u0, u1, m2⟩
    · exact .inr ⟨s, by omega, s2⟩
  · rintro (⟨u, u0, u1, u2⟩ | ⟨s, s1, s2⟩)
    · exact .inl (.inr ⟨_, (mem_walkM zs ss0 fun z hz => by have := Z.c z hz; omega).mpr ⟨u, u0, u1, rfl⟩, u2⟩)
    · exact .inr ⟨s, Nat.zero_le _, by omega, s2⟩
/-- no offset leads beyond the inner unknowns -/
def Trim (zs : List Zn) : Prop := ∀ u, 0 ≤ u → u < len zs → ∀ o ∈ (rowAt zs u).1, u + o < len zs
theorem row_ok (Z : ZOk b zs) {u : Int} (h0 : 0 ≤ u) (h1 : u < len zs) : (∀ x ∈ (rowAt zs u).1, 1 ≤ x ∧ x ≤ 16) ∧ ∀ x ∈ (rowAt zs u).2, 0 ≤ x ∧ x < (b : Int) := by
  have key : ∀ (l : List Zn) (v : Int), (∀ z ∈ l, (∀ x ∈ z.o, 1 ≤ x ∧ x ≤ 16) ∧ ∀ x ∈ z.t, 0 ≤ x ∧ x < (b : Int)) → (∀ x ∈ (rowAt l v).1, 1 ≤ x ∧ x ≤ 16) ∧ ∀ x ∈ (rowAt l v).2, 0 ≤ x ∧ x < (b : Int) := by
    intro l
    induction l with
    | nil => intro v _; exact ⟨(fun x hx => nomatch hx), (fun x hx => nomatch hx)⟩
    | cons z l ih =>
      intro v h
      by_cases hv : v < z.c
      · rw [show rowAt (z :: l) v = (z.o, z.t) from if_pos hv]
        exact h z (.head _)
      · rw [show rowAt (z :: l) v = rowAt l (v - z.c) from if_neg hv]
        exact ih _ fun y hy => h y (.tail _ hy)
  exact key zs u fun z hz => ⟨Z.o z hz, Z.t z hz⟩
theorem dir_bits (Z : ZOk b zs) {u : Int} (h0 : 0 ≤ u) (h1 : u < len zs) (a : Nat) : (dirG zs u).testBit a = true ↔ ((a : Int) + 1) ∈ (rowAt zs u).1 ∨ (16 ≤ a ∧ ((a : Int) - 16) ∈ (rowAt zs u).2) := by
  obtain ⟨r1, r2⟩ := row_ok Z h0 h1
  exact maskF_bits a (fun x hx => (r1 x hx).1) fun x hx => (r2 x hx).1
theorem inside (Z : ZOk b zs) (T : Trim zs) : ∀ (n : Nat) (u : Int), u.toNat ≤ n → 0 ≤ u → u < len zs → ∀ a, a < 16 → (maskZ ss0 zs u).testBit a = true → u + (a : Int) + 1 < len zs := by
  intro n
  induction n with
  | zero =>
    intro u hn h0 h1 a ha e
    rcases (maskZ_bits0 a (fun z hz => by have := Z.c z hz; omega) h0 h1).mp e with q | ⟨j, j0, j1, _⟩
    · rcases (dir_bits Z h0 h1 a).mp q with q | ⟨q, _⟩
      · have := T u h0 h1 _ q
        omega
      · omega
    · omega
  | succ n ih =>
    intro u hn h0 h1 a ha e
    rcases (maskZ_bits0 a (fun z hz => by have := Z.c z hz; omega) h0 h1).mp e with q | ⟨j, j0, j1, j2, j3, j4⟩
    · rcases (dir_bits Z h0 h1 a).mp q with q | ⟨q, _⟩
      · have := T u h0 h1 _ q
        omega
      · omega
    · rw [WM.rest_in ha, Bool.and_eq_true, decide_eq_true_eq] at j4
      have := ih j (by omega) j0 (by omega) _ j4.1 j4.2
      omega
end
end Fb
namespace Fb
open PySem PySem.Spec PyProof.Rows L2
/-- a later unknown is in the column of an earlier one -/
def pcI (b : Nat) (zs : List Zn) (k i : Int) : Prop := hasF b zs k i = true
/-- coupled at first, by the zones as told -/
def adjT (zs : List Zn) (k i : Int) : Prop := k < len zs ∧ ((∃ o ∈ (rowAt zs k).1, i = k + o) ∨ ∃ t ∈ (rowAt zs k).2, i = len zs + t)
section
variable {b : Nat} {zs : List Zn}
theorem pc_in {k i : Int} (h1 : k < i) (h2 : i < len zs) : pcI b zs k i ↔ i - k ≤ 16 ∧ (maskZ ss0 zs k).testBit (i - k - 1).toNat = true := by
  unfold pcI hasF posF
  rw [if_neg (by omega)]
  by_cases h : i - k > 16
  · rw [if_pos h]
    constructor
    · intro q; cases q
    · rintro ⟨q, _⟩; omega
  · rw [if_neg h]
    show (maskA b zs k).testBit (i - k - 1).toNat = true ↔ _
    unfold maskA
    rw [if_pos (by omega)]
    exact ⟨fun q => ⟨by omega, q⟩, fun q => q.2⟩
theorem pc_bo {k : Int} {t : Nat} (h1 : k < len zs) : pcI b zs k (len zs + (t : Int)) ↔ (maskZ ss0 zs k).testBit (16 + t) = true := by
  unfold pcI hasF posF
  rw [if_pos (by omega)]
  show (maskA b zs k).testBit (16 + (len zs + (t : Int) - len zs)).toNat = true ↔ _
  unfold maskA
  rw [if_pos h1, show (16 + (len zs + (t : Int) - len zs)).toNat = 16 + t by omega]
theorem pc_bb {s t : Nat} : pcI b zs (len zs + (s : Int)) (len zs + (t : Int)) ↔ ((lastF b zs).getD s 0).testBit (16 + t) = true := by
  unfold pcI hasF posF
  rw [if_pos (by omega)]
  show (maskA b zs (len zs + (s : Int))).testBit (16 + (len zs + (t : Int) - len zs)).toNat = true ↔ _
  unfold maskA
  rw [if_neg (by omega), show (16 + (len zs + (t : Int) - len zs)).toNat = 16 + t by omega, show (len zs + (s : Int) - len zs).toNat = s by omega]
theorem par_in (Z : ZOk b zs) (T : Trim zs) {j k : Int} (h0 : 0 ≤ j) (h1 : j < k) (h2 : k < len zs) : Par (pcI b zs) j k ↔ WM.has (maskZ ss0 zs j) = true ∧ j + (WM.low (maskZ ss0 zs j) : Int) + 1 = k := by
  unfold Par
  rw [pc_in h1 h2]
  constructor
  · rintro ⟨⟨p1, p2⟩, p3⟩
    have hh : WM.has (maskZ ss0 zs j) = true := WM.has_iff.mpr ⟨_, by omega, p2⟩
    obtain ⟨l1, l2, l3⟩ := WM.low_spec (show (k - j - 1).toNat < 16 by omega) p2
    refine ⟨hh, ?_⟩
    by_cases e : WM.low (maskZ ss0 zs j) = (k - j - 1).toNat
    · omega
    · exfalso
      refine p3 (j + (WM.low (maskZ ss0 zs j) : Int) + 1) (by omega) (by omega) ((pc_in (by omega) (by omega)).mpr ⟨by omega, ?_⟩)
      rw [show (j + (WM.low (maskZ ss0 zs j) : Int) + 1 - j - 1).toNat = WM.low (maskZ ss0 zs j) by omega]
      exact l3
  · rintro ⟨p1, p2⟩
    obtain ⟨q, q1, q2⟩ := WM.has_iff.mp p1
    obtain ⟨l1, l2, l3⟩ := WM.low_spec q1 q2
    refine ⟨⟨by omega, ?_⟩, fun m m1 m2 m3 => ?_⟩
    · rw [show (k - j - 1).toNat = WM.low (maskZ ss0 zs j) by omega]
      exact l3
    · obtain ⟨r1, r2⟩ := (pc_in m1 (by omega)).mp m3
      have := (WM.low_spec (show (m - j - 1).toNat < 16 by omega) r2).1
      omega
theorem par_bo (Z : ZOk b zs) (T : Trim zs) {j : Int} {t : Nat} (h0 : 0 ≤ j) (h1 : j < len zs) : Par (pcI b zs) j (len zs + (t : Int)) ↔ (∀ i, i < 16 + t → (maskZ ss0 zs j).testBit i = false) ∧ (maskZ ss0 zs j).testBit (16 + t) = true := by
  unfold Par
  rw [pc_bo h1]
  constructor
  · rintro ⟨p1, p2⟩
    refine ⟨fun i hi => ?_, p1⟩
    cases e : (maskZ ss0 zs j).testBit i with
    | false => rfl
    | true =>
      exfalso
      by_cases h16 : i < 16
      · have hin := inside Z T _ j (Nat.le_refl _) h0 h1 i h16 e
        refine p2 (j + (i : Int) + 1) (by omega) (by omega) ((pc_in (by omega) hin).mpr ⟨by omega, ?_⟩)
        rw [show (j + (i : Int) + 1 - j - 1).toNat = i by omega]
        exact e
      · refine p2 (len zs + ((i - 16 : Nat) : Int)) (by omega) (by omega) ((pc_bo h1).mpr ?_)
        rw [show 16 + (i - 16) = i by omega]
        exact e
  · rintro ⟨p1, p2⟩
    refine ⟨p2, fun m m1 m2 m3 => ?_⟩
    by_cases hm : m < len zs
    · obtain ⟨r1, r2⟩ := (pc_in m1 hm).mp m3
      rw [p1 _ (by omega)] at r2
      cases r2
    · obtain ⟨s, hs⟩ := Int.eq_ofNat_of_zero_le (show 0 ≤ m - len zs by omega)
      rw [show m = len zs + (s : Int) by omega, pc_bo h1, p1 _ (by omega)] at m3
      cases m3
theorem par_bb {s t : Nat} (Z : ZOk b zs) : Par (pcI b zs) (len zs + (s : Int)) (len zs + (t : Int)) ↔ (∀ i, i < 16 + t → ((lastF b zs).getD s 0).testBit i = false) ∧ ((lastF b zs).getD s 0).testBit (16 + t) = true := by
  unfold Par
  rw [pc_bb]
  constructor
  · rintro ⟨p1, p2⟩
    refine ⟨fun i hi => ?_, p1⟩
    cases e : ((lastF b zs).getD s 0).testBit i with
    | false => rfl
    | true =>
      exfalso
      have := last_up Z s i e
      refine p2 (len zs + ((i - 16 : Nat) : Int)) (by omega) (by omega) (pc_bb.mpr ?_)
      rw [show 16 + (i - 16) = i by omega]
      exact e
  · rintro ⟨p1, p2⟩
    refine ⟨p2, fun m m1 m2 m3 => ?_⟩
    obtain ⟨u, hu⟩ := Int.eq_ofNat_of_zero_le (show 0 ≤ m - len zs by omega)
    rw [show m = len zs + (u : Int) by omega, pc_bb, p1 _ (by omega)] at m3
    cases m3
/-- a column: what is coupled at first, and what the columns have whose parent it is -/
theorem pc_rec (Z : ZOk b zs) (T : Trim zs) (k i : Int) (h0 : 0 ≤ k) (h1 : k < i) (h2 : i < len zs + (b : Int)) :
    pcI b zs k i ↔ adjT zs k i ∨ ∃ j, 0 ≤ j ∧ j < k ∧ Par (pcI b zs) j k ∧ pcI b zs j i := by
  have hc : ∀ z ∈ zs, 0 ≤ z.c := fun z hz => by have := Z.c z hz; omega
  by_cases hk : k < len zs
  · -- an inner unknown
    have hand : ∀ j, 0 ≤ j → j < k → (Par (pcI b zs) j k ↔ WM.has (maskZ ss0 zs j) = true ∧ j + (WM.low (maskZ ss0 zs j) : Int) + 1 = k) := fun j j0 j1 => par_in Z T j0 j1 hk
    by_cases hi : i < len zs
    · rw [pc_in h1 hi]
      constructor
      · rintro ⟨p1, p2⟩
        rcases (maskZ_bits0 _ hc h0 hk).mp p2 with q | ⟨j, j0, j1, j2, j3, j4⟩
        · rcases (dir_bits Z h0 hk _).mp q with q | ⟨q, _⟩
          · exact .inl ⟨hk, .inl ⟨_, q, by omega⟩⟩
          · omega
        · rw [WM.rest_in (by omega), Bool.and_eq_true, decide_eq_true_eq] at j4
          refine .inr ⟨j, j0, j1, (hand j j0 j1).mpr ⟨j2, j3⟩, (pc_in (by omega) hi).mpr ⟨by omega, ?_⟩⟩
          rw [show (i - j - 1).toNat = (i - k - 1).toNat + WM.low (maskZ ss0 zs j) + 1 by omega]
          exact j4.2
      · rintro (⟨_, ⟨o, o1, o2⟩ | ⟨t, t1, t2⟩⟩ | ⟨j, j0, j1, j2, j3⟩)
        · have ho := (row_ok Z h0 hk).1 o o1
          refine ⟨by omega, (maskZ_bits0 _ hc h0 hk).mpr (.inl ((dir_bits Z h0 hk _).mpr (.inl ?_)))⟩
          rw [show (((i - k - 1).toNat : Nat) : Int) + 1 = o by omega]
          exact o1
        · have ht := (row_ok Z h0 hk).2 t t1
          omega
        · obtain ⟨q1, q2⟩ := (hand j j0 j1).mp j2
          obtain ⟨r1, r2⟩ := (pc_in (by omega) hi).mp j3
          refine ⟨by omega, (maskZ_bits0 _ hc h0 hk).mpr (.inr ⟨j, j0, j1, q1, q2, ?_⟩)⟩
          rw [WM.rest_in (by omega), Bool.and_eq_true, decide_eq_true_eq, show (i - k - 1).toNat + WM.low (maskZ ss0 zs j) + 1 = (i - j - 1).toNat by omega]
          exact ⟨by omega, r2⟩
    · obtain ⟨t, ht⟩ := Int.eq_ofNat_of_zero_le (show 0 ≤ i - len zs by omega)
      obtain rfl : i = len zs + (t : Int) := by omega
      rw [pc_bo hk]
      constructor
      · intro p2
        rcases (maskZ_bits0 _ hc h0 hk).mp p2 with q | ⟨j, j0, j1, j2, j3, j4⟩
        · rcases (dir_bits Z h0 hk _).mp q with q | ⟨_, q⟩
          · have := (row_ok Z h0 hk).1 _ q
            omega
          · exact .inl ⟨hk, .inr ⟨_, q, by omega⟩⟩
        · rw [WM.rest_out (by omega)] at j4
          exact .inr ⟨j, j0, j1, (hand j j0 j1).mpr ⟨j2, j3⟩, (pc_bo (by omega)).mpr j4⟩
      · rintro (⟨_, ⟨o, o1, o2⟩ | ⟨u, t1, t2⟩⟩ | ⟨j, j0, j1, j2, j3⟩)
        · have := T k h0 hk o o1
          omega
        · refine (maskZ_bits0 _ hc h0 hk).mpr (.inl ((dir_bits Z h0 hk _).mpr (.inr ⟨by omega, ?_⟩)))
          rw [show (((16 + t : Nat)) : Int) - 16 = u by omega]
          exact t1
        · obtain ⟨q1, q2⟩ := (hand j j0 j1).mp j2
          refine (maskZ_bits0 _ hc h0 hk).mpr (.inr ⟨j, j0, j1, q1, q2, ?_⟩)
          rw [WM.rest_out (by omega)]
          exact (pc_bo (by omega)).mp j3
  · -- a border unknown
    obtain ⟨s, hs⟩ := Int.eq_ofNat_of_zero_le (show 0 ≤ k - len zs by omega)
    obtain rfl : k = len zs + (s : Int) := by omega
    obtain ⟨t, ht⟩ := Int.eq_ofNat_of_zero_le (show 0 ≤ i - len zs by omega)
    obtain rfl : i = len zs + (t : Int) := by omega
    have hb := Z.b
    have hn : 0 ≤ len zs := by
      rcases Int.lt_or_le (len zs) 0 with h | h
      · exfalso
        have key : ∀ l : List Zn, (∀ y ∈ l, 0 ≤ y.c) → 0 ≤ len l := by
          intro l
          induction l with
          | nil => intro _; exact Int.le_refl _
          | cons y l ih =>
            intro h
            have := h y (.head _)
            have := ih fun z hz => h z (.tail _ hz)
            have e : len (y :: l) = y.c + len l := rfl
            omega
        have := key zs hc
        omega
      · exact h
    rw [pc_bb, last_bits Z (by omega)]
    constructor
    · rintro (⟨u, u0, u1, u2⟩ | ⟨r, r1, r2⟩)
      · obtain ⟨q1, q2, q3, _⟩ := (hands_iff (B := 16 + b) (by omega) (mask_none Z u0 u1)).mp u2
        exact .inr ⟨u, u0, by omega, (par_bo Z T u0 u1).mpr ⟨q1, q2⟩, (pc_bo u1).mpr q3⟩
      · obtain ⟨q1, q2, q3, _⟩ := (hands_iff (B := 16 + b) (by omega) ((last_up Z).none r)).mp r2
        have hr := last_up Z r _ q2
        exact .inr ⟨len zs + (r : Int), by omega, by omega, (par_bb Z).mpr ⟨q1, q2⟩, pc_bb.mpr q3⟩
    · rintro (⟨hlt, _⟩ | ⟨j, j0, j1, j2, j3⟩)
      · omega
      · by_cases hj : j < len zs
        · obtain ⟨q1, q2⟩ := (par_bo Z T j0 hj).mp j2
          exact .inl ⟨j, j0, hj, (hands_iff (B := 16 + b) (by omega) (mask_none Z j0 hj)).mpr ⟨q1, q2, (pc_bo hj).mp j3, by omega⟩⟩
        · obtain ⟨r, hr⟩ := Int.eq_ofNat_of_zero_le (show 0 ≤ j - len zs by omega)
          obtain rfl : j = len zs + (r : Int) := by omega
          obtain ⟨q1, q2⟩ := (par_bb Z).mp j2
          exact .inr ⟨r, by omega, (hands_iff (B := 16 + b) (by omega) ((last_up Z).none r)).mpr ⟨q1, q2, pc_bb.mp j3, by omega⟩⟩
end
/-! ### zones as they are told: no offset leads beyond, the couplings stay -/
theorem told_row' {zs : List Zn} {u : Int} (hc : ∀ z ∈ zs, 0 ≤ z.c) (ho : ∀ z ∈ zs, ∀ o ∈ z.o, 1 ≤ o ∧ o ≤ 16) (h0 : 0 ≤ u) (h1 : u < len zs) :
    rowAt (toldZ zs) u = ((rowAt zs u).1.filter fun o => decide (u + o < len zs), (rowAt zs u).2) := by
  have hs := told_sum zs hc
  rw [← zoneOf_row (toldZ zs) u (by omega)]
  exact told_row hc ho h0 h1
theorem told_trim {b : Nat} {zs : List Zn} (Z : ZOk b zs) : Trim (toldZ zs) := by
  have hc : ∀ z ∈ zs, 0 ≤ z.c := fun z hz => by have := Z.c z hz; omega
  intro u h0 h1 o ho
  rw [told_sum zs hc] at h1 ⊢
  rw [told_row' hc Z.o h0 h1] at ho
  exact of_decide_eq_true (List.mem_filter.mp ho).2
/-- coupled, as it is told -/
def adjF (zs : List Zn) (k i : Int) : Prop := k < len zs ∧ ((∃ o ∈ (rowAt zs k).1, k + o < len zs ∧ i = k + o) ∨ ∃ t ∈ (rowAt zs k).2, i = len zs + t)
theorem adj_told {b : Nat} {zs : List Zn} (Z : ZOk b zs) {k i : Int} (h0 : 0 ≤ k) : adjT (toldZ zs) k i ↔ adjF zs k i := by
  have hc : ∀ z ∈ zs, 0 ≤ z.c := fun z hz => by have := Z.c z hz; omega
  unfold adjT adjF
  rw [told_sum zs hc]
  constructor
  · rintro ⟨h1, h⟩
    rw [told_row' hc Z.o h0 h1] at h
    rcases h with ⟨o, o1, o2⟩ | ⟨t, t1, t2⟩
    · exact ⟨h1, .inl ⟨o, (List.mem_filter.mp o1).1, of_decide_eq_true (List.mem_filter.mp o1).2, o2⟩⟩
    · exact ⟨h1, .inr ⟨t, t1, t2⟩⟩
  · rintro ⟨h1, h⟩
    rw [told_row' hc Z.o h0 h1]
    rcases h with ⟨o, o1, o2, o3⟩ | ⟨t, t1, t2⟩
    · exact ⟨h1, .inl ⟨o, List.mem_filter.mpr ⟨o1, decide_eq_true o2⟩, o3⟩⟩
    · exact ⟨h1, .inr ⟨t, t1, t2⟩⟩
/-- the columns of a system, by its zones as they are passed -/
def pcF (b : Nat) (zs : List Zn) (k i : Int) : Prop := pcI b (toldZ zs) k i
theorem pcF_rec {b : Nat} {zs : List Zn} (Z : ZOk b zs) (hn : zs.length ≤ 80000) (k i : Int) (h0 : 0 ≤ k) (h1 : k < i) (h2 : i < len zs + (b : Int)) :
    pcF b zs k i ↔ adjF zs k i ∨ ∃ j, 0 ≤ j ∧ j < k ∧ Par (pcF b zs) j k ∧ pcF b zs j i := by
  have hs := told_sum zs fun z hz => by have := Z.c z hz; omega
  rw [← adj_told Z h0]
  exact pc_rec (Z.told hn) (told_trim Z) k i h0 h1 (by omega)
/-- they are those of eliminating all unknowns one after the other -/
theorem pcF_naive {b : Nat} {zs : List Zn} {nc : Int → Int → Prop} (Z : ZOk b zs) (hn : zs.length ≤ 80000)
    (h : ∀ k i, 0 ≤ k → k < i → i < len zs + (b : Int) → (nc k i ↔ adjF zs k i ∨ ∃ j, 0 ≤ j ∧ j < k ∧ nc j k ∧ nc j i)) {k i : Int} (h0 : 0 ≤ k) (h1 : k < i) (h2 : i < len zs + (b : Int)) : pcF b zs k i ↔ nc k i :=
  elim_naive (fun k i => pcF_rec Z hn k i) h _ k i (Nat.le_refl _) h0 h1 h2
end Fb
namespace Fb
open PySem PySem.Spec PyProof.Rows L2
/-! ### how many unknowns columns have -/
theorem KindsOk.map {val : Int → Nat} {b e : Int} {L : List (Int × Nat × Int)} (h : KindsOk val b e L) (g : Nat → Nat) : KindsOk (fun u => g (val u)) b e (L.map fun x => (x.1, g x.2.1, x.2.2)) := by
  refine ⟨fun F => ?_, fun x hx => ?_, ?_, fun u h1 h2 => ?_⟩
  · rw [List.map_map]
    exact h.sum fun n => F (g n)
  · obtain ⟨y, hy, rfl⟩ := List.mem_map.mp hx
    have := h.one y hy
    exact ⟨this.1, this.2.1, by show g y.2.1 = g (val y.1); rw [this.2.2.1], this.2.2.2⟩
  · rw [List.pairwise_map]
    exact h.asc
  · obtain ⟨y, y1, y2, y3⟩ := h.cov u h1 h2
    exact ⟨_, List.mem_map.mpr ⟨y, y1, rfl⟩, y2, by show g y.2.1 = g (val u); rw [y3]⟩
theorem sum_ge {α : Type} {f : α → Int} {x : α} : ∀ {l : List α}, x ∈ l → (∀ y ∈ l, 0 ≤ f y) → f x ≤ (l.map f).sum
  | y :: l, hx, h => by
    have nn : ∀ l : List α, (∀ y ∈ l, 0 ≤ f y) → 0 ≤ (l.map f).sum := by
      intro l
      induction l with
      | nil => intro _; exact Int.le_refl _
      | cons y l ih =>
        intro h
        have h1 := h y (.head _)
        have h2 := ih fun z hz => h z (.tail _ hz)
        rw [List.map_cons, List.sum_cons]
        omega
    rw [List.map_cons, List.sum_cons]
    rcases List.mem_cons.mp hx with q | q
    · subst q
      have := nn l fun z hz => h z (.tail _ hz)
      omega
    · have h1 := sum_ge q fun z hz => h z (.tail _ hz)
      have h2 := h y (.head _)
      omega
theorem KindsOk.many {val : Int → Nat} {b e : Int} {L : List (Int × Nat × Int)} (h : KindsOk val b e L) {x : Int × Nat × Int} (hx : x ∈ L) : x.2.2 ≤ e - b := by
  have h1 := h.one x hx
  have hs := h.sum fun _ => 1
  have hg := sum_ge (f := fun x : Int × Nat × Int => x.2.2 * 1) hx fun y hy => by
    have := (h.one y hy).2.2.2
    omega
  have e1 : ((rgI b e).map fun _ => (1 : Int)).sum = e - b := by
    have key : ∀ l : List Int, (l.map fun _ => (1 : Int)).sum = (l.length : Int) := by
      intro l
      induction l with
      | nil => rfl
      | cons y l ih => rw [List.map_cons, List.sum_cons, ih, List.length_cons]; omega
    rw [key, rgI_len]
    omega
  rw [hs, e1] at hg
  omega
def sizeF (b : Nat) (zs : List Zn) (u : Int) : Nat := bitsN 22 (maskA b zs u)
theorem bitsN_le (k m : Nat) : bitsN k m ≤ k := by
  unfold bitsN
  have := List.length_filter_le (fun j => m.testBit j) (List.range k)
  rw [List.length_range] at this
  exact this
theorem maskA_lt {b : Nat} {zs : List Zn} (Z : ZOk b zs) {u : Int} (h0 : 0 ≤ u) : maskA b zs u < 2 ^ 22 := by
  have hb := Z.b
  refine Nat.lt_pow_two_of_testBit _ fun i hi => ?_
  unfold maskA
  by_cases h : u < len zs
  · rw [if_pos h]
    exact mask_none Z h0 h i (by omega)
  · rw [if_neg h]
    exact (last_up Z).none _ i (by omega)
theorem told_len {b : Nat} {n u : Int} {m : Nat} (hb : b ≤ 6) (hm : ∀ i, 16 + b ≤ i → m.testBit i = false) : (toldF b n u m).length = bitsN 22 m := by
  have ex : ∀ c : Nat, ((List.range (16 + c)).filter fun j => m.testBit j).length = ((List.range 16).filter fun j => m.testBit j).length + ((List.range c).filter fun t => m.testBit (16 + t)).length := fun c => by
    rw [List.range_add, List.filter_append, List.length_append, List.filter_map, List.length_map]
    rfl
  unfold toldF bitsN
  rw [List.length_append, List.length_map, List.length_map, show (22 : Nat) = 16 + 6 from rfl, ex 6, show (6 : Nat) = b + (6 - b) by omega, List.range_add, List.filter_append, List.length_append]
  have z : ((List.range (6 - b)).map (b + ·)).filter (fun t => m.testBit (16 + t)) = [] := List.filter_eq_nil_iff.mpr fun t ht => by
    obtain ⟨j, _, rfl⟩ := List.mem_map.mp ht
    rw [hm _ (by omega)]
    exact Bool.false_ne_true
  rw [z, List.length_nil, Nat.add_zero]
section
variable {P : Program} {w : World} {K : PySem.W.Frag} {mg : Str → Option Value} {base : Heap}
end
end Fb
namespace Fb
open PySem PySem.Spec PyProof.Rows L2
section
variable {P : Program} {w : World} {K : PySem.W.Frag} {mg : Str → Option Value} {base : Heap}
theorem sc_sizes_of : FnScope nm_sizes_of ["system", "begin", "end"] (defScope s_sizes_of) := ⟨rfl, rfl, rfl, by decide +kernel, rfl, by decide +kernel, by decide +kernel⟩
def spSizes (K : PySem.W.Frag) (C : Cs) : Sp := fun vs H Q _ => ∃ (x : Addr) (bo : Nat) (zs : List Zn) (b e : Int), vs = [.ref x, .int b, .int e] ∧ SysR K C H x bo zs ∧ zs.length ≤ 100 ∧ 0 ≤ b ∧ b ≤ e ∧ e ≤ len zs + (bo : Int) ∧
  ∀ H' p vs L, Same H H' → H p = none → H' p = some (.lst vs) → DpAll K H' vs (L.map kD) → L.length ≤ 9500000 → KindsOk (sizeF bo (toldZ zs)) b e L → Q (.ref p) H'
theorem ok_sizes_of {f : Addr} {C : Cs} {fd : FuncData} (F : Fun K "sizes_of" "sizes_of" s_sizes_of f fd) (A : NoA K C) (M_kinds : DMeth P w K mg base CX0 4 C.el "kinds" ["self", "begin", "end"] (spEK K C.el C.st))
    (D_size_of : Def P w K mg base CX0 1 "size_of" ["mask"] spSize) : FnOk P w K mg base CX0 5 f fd ["system", "begin", "end"] (spSizes K C) := by
  refine F.ok sc_sizes_of (fun vs H Q E h => ?_) (fun cdv AA outer s H vs Q E hr h => ?_)
  · obtain ⟨x, bo, zs, b, e, rfl, _⟩ := h
    rfl
  · obtain ⟨x, bo, zs, b, e, rfl, R, hz, h0, hbe, hel, q⟩ := h
    refine ⟨_, (pss_one (ps_ret (pe_lc (own := [("unknown", 3), ("mask", 4), ("many", 5)]) (tt := tYes) (te := tTup (tCons (tVar 3) (tCons (tCall spSize [] E0 (tCons (tVar 4) tNil)) (tCons (tVar 5) tNil)))) (g := (gTup K 3 (gCons (gName 3) (gCons (gName 4) (gCons (gName 5) gNil))))) rfl sc_sizes_of.nd (pi_list (pe_methD M_kinds hr (by decide) pass0 (pe_fld (pv 0) rfl) (pa_cons (pv 1) (pa_cons (pv 2) pa_nil)))) (blkOk_by (N := nm_sizes_of) (sc := defScope s_sizes_of) (by decide +kernel)) (fun _ _ _ _ _ => (pg_tup rfl (pgs_cons (pg_name (i := 3) sc_sizes_of.nd rfl (.inl rfl)) (pgs_cons (pg_name (i := 4) sc_sizes_of.nd rfl (.inl rfl)) (pgs_cons (pg_name (i := 5) sc_sizes_of.nd rfl (.inl rfl)) pgs_nil))))) (fun _ _ _ _ _ => pts_nil) (fun _ _ _ _ _ => (pe_tup (pa_cons (pv 3) (pa_cons (pe_callD D_size_of hr (by decide) pass0 (pa_cons (pv 4) pa_nil)) (pa_cons (pv 5) pa_nil)))))))), ?_⟩
    obtain ⟨hc, hl, Z, hn⟩ := sys_told' R
    obtain ⟨dx, a1, a2, bg, el, g, hx, _, _, _, hE, _⟩ := R.ex
    obtain ⟨dxe, bge, sl, lm, as, he, _⟩ := hE.ex
    refine ⟨_, rfl, x, C.sys, dx, _, _, rfl, hx, A.c, A.n6, rfl, el, dxe, _, rfl, he, rfl, _, rfl, _, rfl, el, bo, toldZ zs, b, e, rfl, hE, hc, by omega, R.ok.b, h0, hbe, by rw [hl]; exact hel, fun H1 p vs L S1 np hp hA hm hK => ?_⟩
    have hs : SqL K H1 p vs := SqL.of hp
    have lv := dpAll_len hA
    rw [List.length_map] at lv
    refine ⟨p, rfl, ⟨_, hs⟩, fun D nD => ?_⟩
    refine lc_list (xs := vs) (fun i H' => ∃ (Hb : Hp) (us : List V), Same H1 Hb ∧ Own Hb [(D, .lst us)] H' ∧ DpAll K Hb us (((L.map fun x => (x.1, bitsN 22 x.2.1, x.2.2)).take i).map kD)) ⟨H1, [], Same.refl _, Own.nil.new nD rfl, .nil⟩ (fun i H' _ ⟨Hb, us, S, W, _⟩ => (S.trans W.s).seq hs) ?_ ?_
    · rintro i v H2 hi ⟨Hb, us, Sb, W, hus⟩
      obtain ⟨d, hd1, hd2⟩ := dpAll_getV hA hi
      obtain ⟨k, hk, rfl⟩ := map_getV hd1
      obtain ⟨ta, xs, rfl, hts, htA⟩ := dp_tup (dp_same (Sb.trans W.s) _ hd2)
      cases htA with
      | cons k1 htA =>
      cases k1
      cases htA with
      | cons k2 htA =>
      cases k2
      cases htA with
      | cons k3 htA =>
      cases k3
      cases htA
      have hone := hK.one k (List.mem_of_getElem? hk)
      have lt := maskA_lt (b := bo) Z (show 0 ≤ k.1 by omega)
      rw [← hone.2.2.1] at lt
      have lu := dpAll_len hus
      rw [List.length_map, List.length_take, List.length_map] at lu
      refine ⟨ta, _, rfl, hts, rfl, _, _, rfl, _, _, rfl, _, _, rfl, rfl, rfl, ?_⟩
      refine ⟨_, rfl, _, rfl, k.2.1, rfl, lt, _, rfl, by show 3 ≤ sizeLine; decide, fun r nr => ?_⟩
      generalize e1 : upd _ r _ = H3
      obtain ⟨B3, S3, kr, W3⟩ := own_put W nr e1
      refine ⟨_, W3.g0, by rw [lu]; exact big2 (by omega), B3, us ++ [.ref r], Sb.trans S3, ?_, ?_⟩
      · generalize e2 : upd _ D _ = H4
        exact W3.set0 e2
      · have hk' : (L.map fun x => (x.1, bitsN 22 x.2.1, x.2.2))[i]? = some (k.1, bitsN 22 k.2.1, k.2.2) := by rw [List.getElem?_map, hk]; rfl
        rw [take_snoc hk', List.map_append]
        exact dpAll_append (dpAll_same S3 _ hus) (.cons (.tup (.inl (.inl kr)) (.cons (.int _) (.cons (.int _) (.cons (.int _) .nil)))) .nil)
    · rintro H2 ⟨Hb, us, Sb, W, hus⟩
      rw [lv, List.take_of_length_le (by rw [List.length_map]; omega)] at hus
      have nD' : H D = none := by
        cases h : H D with
        | none => rfl
        | some o => rw [S1 _ _ h] at nD; cases nD
      refine q H2 D us _ (S1.trans (Sb.trans W.s)) nD' W.g0 (dpAll_same W.s _ hus) (by rw [List.length_map]; exact hm) ?_
      exact hK.map (bitsN 22)
end
end Fb
namespace Fb
open PySem PySem.Spec PyProof.Rows L2
section
variable {P : Program} {w : World} {K : PySem.W.Frag} {mg : Str → Option Value} {base : Heap}
theorem sys_log' {C : Cs} {H : Hp} {x : Addr} {b : Nat} {zs : List Zn} (R : SysR K C H x b zs) : (len zs + (b : Int)).natAbs.log2 < 1920 := by
  refine num_log ?_
  have h1 := R.big
  have h2 := R.ok.b
  have h3 : 0 ≤ len zs := by
    have key : ∀ l : List Zn, (∀ y ∈ l, 1 ≤ y.c) → 0 ≤ len l := by
      intro l
      induction l with
      | nil => intro _; exact Int.le_refl _
      | cons y l ih =>
        intro h
        have := h y (.head _)
        have := ih fun z hz => h z (.tail _ hz)
        have e : len (y :: l) = y.c + len l := rfl
        omega
    exact key zs R.ok.c
  omega
theorem sc_check_system : FnScope nm_check_system ["value"] (defScope s_check_system) := ⟨rfl, rfl, rfl, by decide +kernel, rfl, by decide +kernel, by decide +kernel⟩
def spCheckSys (K : PySem.W.Frag) (C : Cs) (CI : Addr) : Sp := fun vs H Q E => ∃ (v : V) (is : Bool), vs = [v] ∧ SysK K C H v is ∧ (is = true → Q .non H) ∧ (is = false → ∀ H', Same H H' → E (.ref CI) none H')
theorem ok_check_system {f CI : Addr} {C : Cs} {fd : FuncData} (F : Fun K "check_system" "check_system" s_check_system f fd) (bt : Bt mg bn) (g_System : mg "System" = some (.ref C.sys)) (X_InvalidSystem : DErrM K mg "InvalidSystem" CI) :
    FnOk P w K mg base (L2.CX P w) 1 f fd ["value"] (spCheckSys K C CI) := by
  refine F.okX sc_check_system (fun vs H Q E h => ?_) (fun cdv A outer s H vs Q E hr h => ?_)
  · obtain ⟨v, is, rfl, _⟩ := h
    rfl
  · obtain ⟨v, is, rfl, hk, q1, q2⟩ := h
    obtain ⟨t, ht, hk⟩ := hk.ex
    refine ⟨_, (pss_one (ps_if (pt_not (pt_val (pe_callB (r := rIsi K) call_isi (by rfl) (bt "isinstance" (by decide)) PyProof.Rows.boot_isinstance (pa_cons (pv 0) (pa_cons (pe_glob (v := .ref C.sys) (by rfl) g_System rfl) pa_nil)))))
        (pss_one (ps_raise rfl (takes_of rfl rfl rfl rfl) (pmk_msgD X_InvalidSystem pe_str)))
        pss_nil)), ?_⟩
    refine ⟨_, rfl, v, _, t, _, is, rfl, .own _, ht, hk, ?_⟩
    cases is with
    | true => exact ⟨_, rfl, iteF (q1 rfl)⟩
    | false => exact ⟨_, rfl, iteT (q2 rfl H (Same.refl _))⟩
end
end Fb
namespace Fb
open PySem PySem.Spec PyProof.Rows L2
/-! ### check_span -/
section
variable {P : Program} {w : World} {K : PySem.W.Frag} {mg : Str → Option Value} {base : Heap} {E : Nat → Addr}
theorem sc_check_span : FnScope nm_check_span ["begin", "end", "number"] (defScope s_check_span) := ⟨rfl, rfl, rfl, by decide +kernel, rfl, by decide +kernel, by decide +kernel⟩
/-- whether two values bound a span of so many unknowns -/
def spanJ (jb je : J) (n : Int) : Bool := within jb 0 (n - 1) && match jb with
  | .int b => within je (b + 1) n
  | _ => false
def spSpan (K : PySem.W.Frag) (CS : Addr) : Sp := fun vs H Q E => ∃ (vb ve : V) (jb je : J) (n : Int), vs = [vb, ve, .int n] ∧ Jr K H vb jb ∧ Jr K H ve je ∧ n.natAbs.log2 < 1920 ∧ (spanJ jb je n = true → Q .non H) ∧ (spanJ jb je n = false → ∀ H', Same H H' → E (.ref CS) none H')
theorem ok_check_span {f CSp : Addr} {fd : FuncData} (F : Fun K "check_span" "check_span" s_check_span f fd) (X_InvalidSpan : DErrM K mg "InvalidSpan" CSp)
    (D_is_within : Def P w K mg base CX0 2 "is_within" ["value", "low", "high"] (spWithin K)) : FnOk P w K mg base (L2.CX P w) 3 f fd ["begin", "end", "number"] (spSpan K CSp) := by
  refine F.okX sc_check_span (fun vs H Q E h => ?_) (fun cdv A outer s H vs Q E hr h => ?_)
  · obtain ⟨v, v2, j, j2, n, rfl, _⟩ := h
    rfl
  · obtain ⟨vb, ve, jb, je, n, rfl, hjb, hje, hn, q, qe⟩ := h
    refine ⟨_, (pss_cons (ps_if (pt_not (pt_val (pe_callD D_is_within hr (by decide) pass0 (pa_cons (pv 0) (pa_cons pe_int (pa_cons (pe_op op_sub (pv 2) pe_int) pa_nil))))))
        (pss_one (ps_raise rfl (takes_of rfl rfl rfl rfl) (pmk_msgD X_InvalidSpan (pe_joined (.cons pe_str (.cons (pe_fmt (pv 2)) .nil))))))
        pss_nil)
      (pss_one (ps_if (pt_not (pt_val (pe_callD D_is_within hr (by decide) pass0 (pa_cons (pv 1) (pa_cons (pe_op op_add (pv 0) pe_int) (pa_cons (pv 2) pa_nil))))))
        (pss_one (ps_raise rfl (takes_of rfl rfl rfl rfl) (pmk_msgD X_InvalidSpan (pe_joined (.cons pe_str (.cons (pe_fmt (pv 2)) .nil))))))
        pss_nil))), ?_⟩
    have big : 1000 ≤ sizeLine := by rw [sizeLine_eq]; decide
    have e1 := int_text_len_1921 hn
    refine ⟨_, rfl, _, rfl, _, _, rfl, rfl, vb, jb, 0, n - 1, rfl, hjb, _, rfl, ?_⟩
    unfold spanJ at q qe
    cases hw : within jb 0 (n - 1) with
    | false =>
      rw [hw] at qe
      refine iteT ⟨_, rfl, Nat.le_trans (show _ ≤ 1000 from by decide +kernel) big, _, rfl, .inr ⟨n, rfl, hn, _, rfl, ?_, qe rfl H fun _ _ h => h⟩⟩
      have e2 : (Str.empty ++ ("begin is an integer from 0, less than " : Str)).length ≤ 1000 := by decide +kernel
      rw [Str.length_append, sizeLine_eq]
      have e3 : (PySem.Str.ofString (toString n)).length ≤ 1921 := e1
      exact Nat.le_trans (Nat.add_le_add e2 e3) (by decide)
    | true =>
      rw [hw] at q qe
      refine iteF ?_
      obtain ⟨b, rfl, b0, b1⟩ := within_int hw
      cases hjb
      rw [Bool.true_and] at q qe
      refine ⟨_, rfl, _, rfl, _, _, rfl, rfl, _, rfl, ve, je, b + 1, n, rfl, hje, _, rfl, ?_⟩
      cases hw2 : within je (b + 1) n with
      | false =>
        refine iteT ⟨_, rfl, Nat.le_trans (show _ ≤ 1000 from by decide +kernel) big, _, rfl, .inr ⟨n, rfl, hn, _, rfl, ?_, qe hw2 H fun _ _ h => h⟩⟩
        have e2 : (Str.empty ++ ("end is an integer greater than begin, at most " : Str)).length ≤ 1000 := by decide +kernel
        rw [Str.length_append, sizeLine_eq]
        have e3 : (PySem.Str.ofString (toString n)).length ≤ 1921 := e1
        exact Nat.le_trans (Nat.add_le_add e2 e3) (by decide)
      | true => exact iteF (q hw2)
end
end Fb
namespace Fb
open PySem PySem.Spec PyProof.Rows L2
section
variable {P : Program} {w : World} {K : PySem.W.Frag} {mg : Str → Option Value} {base : Heap}
theorem sc_check_part : FnScope nm_check_part ["system", "begin", "end"] (defScope s_check_part) := ⟨rfl, rfl, rfl, by decide +kernel, rfl, by decide +kernel, by decide +kernel⟩
def spCheckPart (K : PySem.W.Frag) (C : Cs) (CI CSp : Addr) : Sp := fun vs H Q E => ∃ (v vb ve : V) (is : Bool), vs = [v, vb, ve] ∧ SysK K C H v is ∧ (is = false → ∀ H', Same H H' → E (.ref CI) none H') ∧
  (is = true → ∃ (x : Addr) (b : Nat) (zs : List Zn) (jb je : J), v = .ref x ∧ SysR K C H x b zs ∧ Jr K H vb jb ∧ Jr K H ve je ∧ (spanJ jb je (len zs + (b : Int)) = true → Q .non H) ∧ (spanJ jb je (len zs + (b : Int)) = false → ∀ H', Same H H' → E (.ref CSp) none H'))
theorem ok_check_part {f CI CSp : Addr} {C : Cs} {fd : FuncData} (F : Fun K "check_part" "check_part" s_check_part f fd) (D_check_system : Def P w K mg base (L2.CX P w) 1 "check_system" ["value"] (spCheckSys K C CI))
    (D_check_span : Def P w K mg base (L2.CX P w) 3 "check_span" ["begin", "end", "number"] (spSpan K CSp)) (P_unknowns : DProp P w K mg base CX0 1 C.sys "unknowns" (spUnknowns K C)) :
    FnOk P w K mg base (L2.CX P w) 4 f fd ["system", "begin", "end"] (spCheckPart K C CI CSp) := by
  refine F.okX sc_check_part (fun vs H Q E h => ?_) (fun cdv A outer s H vs Q E hr h => ?_)
  · obtain ⟨v, vb, ve, is, rfl, _⟩ := h
    rfl
  · obtain ⟨v, vb, ve, is, rfl, hk, q1, q2⟩ := h
    refine ⟨_, (pss_cons (ps_expr (pe_callD D_check_system hr (by decide) (passes_call (takes_of rfl rfl rfl rfl) (fun _ _ _ _ h => h)) (pa_cons (pv 0) pa_nil)))
      (pss_one (ps_expr (pe_callD D_check_span hr (by decide) (passes_call (takes_of rfl rfl rfl rfl) (fun _ _ _ _ h => h)) (pa_cons (pv 1) (pa_cons (pv 2) (pa_cons (pe_propD P_unknowns hr (by decide) pass0 (pv 0)) pa_nil))))))), ?_⟩
    refine ⟨_, rfl, v, is, rfl, hk, fun his => ?_, q1⟩
    obtain ⟨x, b, zs, jb, je, rfl, R, hjb, hje, k1, k2⟩ := q2 his
    obtain ⟨dx, _, _, _, _, _, hx, _⟩ := R.ex
    exact ⟨_, rfl, _, rfl, _, rfl, x, dx, _, rfl, hx, x, b, zs, rfl, R, vb, ve, jb, je, _, rfl, hjb, hje, sys_log' R, k1, k2⟩
end
end Fb
namespace Fb
open PySem PySem.Spec PyProof.Rows L2
theorem span_int {jb je : J} {n : Int} (h : spanJ jb je n = true) : ∃ b e : Int, jb = .int b ∧ je = .int e ∧ 0 ≤ b ∧ b < e ∧ e ≤ n := by
  unfold spanJ at h
  rw [Bool.and_eq_true] at h
  obtain ⟨h1, h2⟩ := h
  obtain ⟨b, rfl, b0, b1⟩ := within_int h1
  obtain ⟨e, rfl, e0, e1⟩ := within_int h2
  exact ⟨b, e, rfl, rfl, b0, by omega, e1⟩
theorem kD_inv {K : PySem.W.Frag} {H : Hp} {v : V} {k : Int × Nat × Int} (h : Dp K H v (kD k)) : ∃ t, v = .ref t ∧ SqT K H t [.int k.1, .int ((k.2.1 : Nat) : Int), .int k.2.2] := by
  obtain ⟨ta, xs, rfl, hts, htA⟩ := dp_tup h
  cases htA with
  | cons k1 htA =>
  cases k1
  cases htA with
  | cons k2 htA =>
  cases k2
  cases htA with
  | cons k3 htA =>
  cases k3
  cases htA
  exact ⟨ta, rfl, hts⟩
/-- the sum of a number of each size over a span -/
def sumF (g : Nat → Int) (val : Int → Nat) (b e : Int) : Int := ((rgI b e).map fun u => g (val u)).sum
def wkF (s : Nat) : Int := (s : Int) * ((s : Int) + 3) / 2
theorem span_ok {b e n : Int} (h0 : 0 ≤ b) (h1 : b < e) (h2 : e ≤ n) : spanJ (.int b) (.int e) n = true := by
  unfold spanJ
  show ((decide (0 ≤ b) && decide (b ≤ n - 1)) && (decide (b + 1 ≤ e) && decide (e ≤ n))) = true
  rw [decide_eq_true h0, decide_eq_true (show b ≤ n - 1 by omega), decide_eq_true (show b + 1 ≤ e by omega), decide_eq_true h2]
  rfl
theorem sumF_bd {g : Nat → Int} {val : Int → Nat} {b e : Int} {m : Int} (h0 : 0 ≤ m) (hbe : b ≤ e) (h : ∀ u, b ≤ u → u < e → 0 ≤ g (val u) ∧ g (val u) ≤ m) : 0 ≤ sumF g val b e ∧ sumF g val b e ≤ (e - b) * m := by
  obtain ⟨n, rfl⟩ : ∃ n : Nat, e = b + (n : Int) := ⟨(e - b).toNat, by omega⟩
  induction n with
  | zero =>
    unfold sumF
    rw [rgI_nil (by omega)]
    show (0 : Int) ≤ 0 ∧ (0 : Int) ≤ _
    rw [show b + ((0 : Nat) : Int) - b = 0 by omega, Int.zero_mul]
    omega
  | succ n ih =>
    have := ih (by omega) (fun u h1 h2 => h u h1 (by omega))
    have hl := h (b + (n : Int)) (by omega) (by omega)
    unfold sumF at this ⊢
    rw [show b + ((n + 1 : Nat) : Int) = b + (n : Int) + 1 by omega, rgI_snoc (by omega), List.map_append, List.sum_append, List.map_singleton, List.sum_singleton]
    rw [show b + (n : Int) + 1 - b = (b + (n : Int) - b) + 1 by omega, Int.add_mul]
    omega
/-- the first unknown with the greatest number -/
structure Wid (val : Int → Nat) (b e : Int) (m : Nat) (u : Int) : Prop where
  lo : b ≤ u
  hi : u < e
  at_ : val u = m
  most : ∀ v, b ≤ v → v < e → val v ≤ m
  first : ∀ v, b ≤ v → v < u → val v < m
/-- a count over a span: who answers what -/
def spCnt (K : PySem.W.Frag) (C : Cs) (CI CSp : Addr) (ans : Nat → List Zn → Int → Int → Int) : Sp := fun vs H Q E => ∃ (v vb ve : V) (is : Bool), vs = [v, vb, ve] ∧ SysK K C H v is ∧ (is = false → ∀ H', Same H H' → E (.ref CI) none H') ∧
  (is = true → ∃ (x : Addr) (bo : Nat) (zs : List Zn) (jb je : J), v = .ref x ∧ SysR K C H x bo zs ∧ zs.length ≤ 100 ∧ Jr K H vb jb ∧ Jr K H ve je ∧ (spanJ jb je (len zs + (bo : Int)) = false → ∀ H', Same H H' → E (.ref CSp) none H') ∧
    ∀ b e : Int, jb = .int b → je = .int e → 0 ≤ b → b < e → e ≤ len zs + (bo : Int) → ∀ H', Same H H' → Q (.int (ans bo zs b e)) H')
end Fb
namespace Fb
open PySem PySem.Spec PyProof.Rows L2
section
variable {P : Program} {w : World} {K : PySem.W.Frag} {mg : Str → Option Value} {base : Heap}
theorem sc_room_of : FnScope nm_room_of ["system", "begin", "end"] (defScope s_room_of) := ⟨rfl, rfl, rfl, by decide +kernel, rfl, by decide +kernel, by decide +kernel⟩
def spRoomOf (K : PySem.W.Frag) (C : Cs) : Sp := fun vs H Q _ => ∃ (x : Addr) (bo : Nat) (zs : List Zn) (b e : Int), vs = [.ref x, .int b, .int e] ∧ SysR K C H x bo zs ∧ zs.length ≤ 100 ∧ 0 ≤ b ∧ b ≤ e ∧ e ≤ len zs + (bo : Int) ∧ ∀ H', Same H H' → Q (.int (sumF (fun s => (s : Int)) (sizeF bo (toldZ zs)) b e)) H'
theorem ok_room_of {f : Addr} {C : Cs} {fd : FuncData} (F : Fun K "room_of" "room_of" s_room_of f fd) (bt : Bt mg bn) (D_sizes_of : Def P w K mg base CX0 5 "sizes_of" ["system", "begin", "end"] (spSizes K C)) : FnOk P w K mg base CX0 6 f fd ["system", "begin", "end"] (spRoomOf K C) := by
  refine F.ok sc_room_of (fun vs H Q E h => ?_) (fun cdv AA outer s H vs Q E hr h => ?_)
  · obtain ⟨x, bo, zs, b, e, rfl, _⟩ := h
    rfl
  · obtain ⟨x, bo, zs, b, e, rfl, R, hz, h0, hbe, hel, q⟩ := h
    refine ⟨_, (pss_one (ps_ret (pe_callB (r := rSum K) (cr_sum rfl) (by rfl) (bt "sum" (by decide)) PyProof.Rows.boot_sum (pa_cons (pe_lc (own := [("_", 3), ("size", 4), ("many", 5)]) (tt := tYes) (g := (gTup K 3 (gCons (gName 3) (gCons (gName 4) (gCons (gName 5) gNil))))) rfl sc_room_of.nd (pi_list (pe_callD D_sizes_of hr (by decide) pass0 (pa_cons (pv 0) (pa_cons (pv 1) (pa_cons (pv 2) pa_nil))))) (blkOk_by (N := nm_room_of) (sc := defScope s_room_of) (by decide +kernel)) (fun _ _ _ _ _ => (pg_tup rfl (pgs_cons (pg_name (i := 3) sc_room_of.nd rfl (.inl rfl)) (pgs_cons (pg_name (i := 4) sc_room_of.nd rfl (.inl rfl)) (pgs_cons (pg_name (i := 5) sc_room_of.nd rfl (.inl rfl)) pgs_nil))))) (fun _ _ _ _ _ => pts_nil) (fun _ _ _ _ _ => (pe_op op_mul (pv 5) (pv 4)))) pa_nil)))), ?_⟩
    refine ⟨_, rfl, _, rfl, _, rfl, x, bo, zs, b, e, rfl, R, hz, h0, hbe, hel, fun H1 p vs L S1 np hp hA hm hK => ?_⟩
    have hs : SqL K H1 p vs := SqL.of hp
    have lv := dpAll_len hA
    rw [List.length_map] at lv
    refine ⟨p, rfl, ⟨_, hs⟩, fun D nD => ?_⟩
    refine lc_list (xs := vs) (fun i H' => Own H1 [(D, .lst (((L.take i).map fun x => x.2.2 * (x.2.1 : Int)).map V.int))] H') (Own.nil.new nD rfl) (fun i H' _ W => W.s.seq hs) ?_ ?_
    · rintro i v H2 hi W
      obtain ⟨d, hd1, hd2⟩ := dpAll_getV hA hi
      obtain ⟨k, hk, rfl⟩ := map_getV hd1
      obtain ⟨ta, rfl, hts⟩ := kD_inv (dp_same W.s _ hd2)
      have hone := hK.one k (List.mem_of_getElem? hk)
      have lt := bitsN_le 22 (maskA bo (toldZ zs) k.1)
      have lt : k.2.1 ≤ 22 := by rw [hone.2.2.1]; exact lt
      refine ⟨ta, _, rfl, hts, rfl, _, _, rfl, _, _, rfl, _, _, rfl, rfl, rfl, ?_⟩
      refine ⟨_, rfl, _, rfl, _, _, rfl, rfl, .inr ⟨by omega, by omega⟩, _, W.g0, ?_, ?_⟩
      · rw [List.length_map, List.length_map, List.length_take]
        exact big2 (by omega)
      · generalize e2 : upd _ D _ = H3
        rw [take_snoc hk, List.map_append, List.map_append]
        exact W.set0 e2
    · rintro H2 W
      rw [lv, List.take_length] at W
      have hsum := hK.sum fun n => (n : Int)
      refine ⟨D, _, rfl, SqL.of W.g0, ?_⟩
      rw [hsum]
      exact q H2 (S1.trans W.s)
theorem sc_room : FnScope nm_room ["system", "begin", "end"] (defScope s_room) := ⟨rfl, rfl, rfl, by decide +kernel, rfl, by decide +kernel, by decide +kernel⟩
def roomF (bo : Nat) (zs : List Zn) (b e : Int) : Int := sumF (fun s => (s : Int)) (sizeF bo (toldZ zs)) b e
theorem ok_room {f CI CSp : Addr} {C : Cs} {fd : FuncData} (F : Fun K "room" "room" s_room f fd) (D_check_part : Def P w K mg base (L2.CX P w) 4 "check_part" ["system", "begin", "end"] (spCheckPart K C CI CSp))
    (D_room_of : Def P w K mg base CX0 6 "room_of" ["system", "begin", "end"] (spRoomOf K C)) : FnOk P w K mg base (L2.CX P w) 7 f fd ["system", "begin", "end"] (spCnt K C CI CSp roomF) := by
  refine F.okX sc_room (fun vs H Q E h => ?_) (fun cdv AA outer s H vs Q E hr h => ?_)
  · obtain ⟨v, vb, ve, is, rfl, _⟩ := h
    rfl
  · obtain ⟨v, vb, ve, is, rfl, hk, q1, q2⟩ := h
    refine ⟨_, (pss_cons (ps_expr (pe_callD D_check_part hr (by decide) (passes_call (takes_of rfl rfl rfl rfl) (fun _ _ _ _ h => h)) (pa_cons (pv 0) (pa_cons (pv 1) (pa_cons (pv 2) pa_nil)))))
      (pss_one (ps_ret (pe_callD D_room_of hr (by decide) pass0 (pa_cons (pv 0) (pa_cons (pv 1) (pa_cons (pv 2) pa_nil))))))), ?_⟩
    refine ⟨_, rfl, _, rfl, _, rfl, v, vb, ve, is, rfl, hk, q1, fun his => ?_⟩
    obtain ⟨x, bo, zs, jb, je, rfl, R, hz, hjb, hje, k1, k2⟩ := q2 his
    refine ⟨x, bo, zs, jb, je, rfl, R, hjb, hje, fun hs => ?_, k1⟩
    obtain ⟨b, e, rfl, rfl, b0, be, el⟩ := span_int hs
    cases hjb
    cases hje
    exact ⟨_, rfl, _, rfl, _, rfl, x, bo, zs, b, e, rfl, R, hz, b0, by omega, el, k2 b e rfl rfl b0 be el⟩
end
end Fb
namespace Fb
open PySem PySem.Spec PyProof.Rows L2
theorem cutF_mem {b e : Int} {p : Zn → Prop} (hp : ∀ (z : Zn) (c : Int), p z → p ⟨c, z.o, z.t⟩) : ∀ (l : List Zn) (q : Int), (∀ z ∈ l, p z) → ∀ z ∈ cutF b e q l, p z
  | [], _, _, z, hz => nomatch hz
  | y :: l, q, h, z, hz => by
    have hz' : z ∈ cutStep b e q y ++ cutF b e (q + y.c) l := hz
    rcases List.mem_append.mp hz' with h1 | h1
    · unfold cutStep at h1
      split at h1
      · rw [List.mem_singleton] at h1
        subst h1
        exact hp y _ (h y (.head _))
      · cases h1
    · exact cutF_mem hp l _ (fun x hx => h x (.tail _ hx)) z h1
section
variable {P : Program} {w : World} {K : PySem.W.Frag} {mg : Str → Option Value} {base : Heap}
def spFrom (K : PySem.W.Frag) (C : Cs) : Sp := fun vs H Q _ => ∃ (x : Addr) (n : Nat) (zs : List Zn) (b e : Int), vs = [.ref x, .int b, .int e] ∧ SysR K C H x n zs ∧ ∀ H', Same H H' → Q (.int (cplF (cutF b e 0 (toldZ zs)))) H'
theorem ok_couplings_from {f : Addr} {C : Cs} {fd : FuncData} (F : Fun K "couplings_from" "System.couplings_from" s_System_couplings_from f fd) (bt : Bt mg bn) (A : NoA K C) (D_cut_zones : Def P w K mg base CX0 1 "cut_zones" ["zones", "begin", "end"] (spCut K)) : FnOk P w K mg base CX0 2 f fd ["self", "begin", "end"] (spFrom K C) := by
  refine F.ok sc_System_couplings_from (fun vs H Q E h => ?_) (fun cdv AA outer s H vs Q E hr h => ?_)
  · obtain ⟨x, n, zs, b, e, rfl, _⟩ := h
    rfl
  · obtain ⟨x, n, zs, b, e, rfl, R, q⟩ := h
    obtain ⟨dx, a1, a2, bg, el, g, hx, _, ht, _, _⟩ := R.ex
    have tok := R.ok.told (by have := R.n; omega)
    refine ⟨_, (pss_cons (ps_set (i := 3) sc_System_couplings_from.nd rfl (.inl rfl) (pe_callD D_cut_zones hr (by decide) pass0 (pa_cons (pe_fld (pv 0) rfl) (pa_cons (pv 1) (pa_cons (pv 2) pa_nil)))))
      (pss_one (ps_ret (pe_callB (r := rSum K) (cr_sum rfl) (by rfl) (bt "sum" (by decide)) PyProof.Rows.boot_sum (pa_cons (pe_lc (own := [("count", 4), ("offsets", 5), ("touches", 6)]) (tt := tYes) (g := (gTup K 3 (gCons (gName 4) (gCons (gName 5) (gCons (gName 6) gNil))))) rfl sc_System_couplings_from.nd (pi_list (pv 3)) (blkOk_by (N := nm_System_couplings_from) (sc := defScope s_System_couplings_from) (by decide +kernel)) (fun _ _ _ _ _ => (pg_tup rfl (pgs_cons (pg_name (i := 4) sc_System_couplings_from.nd rfl (.inl rfl)) (pgs_cons (pg_name (i := 5) sc_System_couplings_from.nd rfl (.inl rfl)) (pgs_cons (pg_name (i := 6) sc_System_couplings_from.nd rfl (.inl rfl)) pgs_nil))))) (fun _ _ _ _ _ => pts_nil) (fun _ _ _ _ _ => (pe_op op_mul (pv 4) (pe_op op_add (pe_callB (r := rLenS K) call_len_seq (by rfl) (bt "len" (by decide)) PySem.boot_len (pa_cons (pv 5) pa_nil)) (pe_callB (r := rLenS K) call_len_seq (by rfl) (bt "len" (by decide)) PySem.boot_len (pa_cons (pv 6) pa_nil)))))) pa_nil))))), ?_⟩
    refine ⟨_, rfl, x, C.sys, dx, _, _, rfl, hx, A.c, A.n3, rfl, _, rfl, _, rfl, .ref a2, toldZ zs, b, e, rfl, ht, by have := tok.n; omega, fun H1 ta xs S1 npt hpt ha => ?_⟩
    have hs : SqL K H1 ta xs := SqL.of hpt
    have lx := dpAll_len ha
    have lc := cutF_len b e (toldZ zs) 0
    rw [List.length_map] at lx
    have hol := cutF_mem (b := b) (e := e) (p := fun z => z.o.length ≤ 16) (fun z c h => h) (toldZ zs) 0 tok.ol
    have htl := cutF_mem (b := b) (e := e) (p := fun z => z.t.length ≤ 6) (fun z c h => h) (toldZ zs) 0 tok.tl
    have tn := tok.n
    generalize cutF b e 0 (toldZ zs) = ts at *
    refine ⟨_, rfl, ta, rfl, ⟨_, hs⟩, fun D nD => ?_⟩
    refine lc_list (xs := xs) (fun i H' => Own H1 [(D, .lst (((ts.take i).map fun z => z.c * ((z.o.length : Int) + (z.t.length : Int))).map V.int))] H') (Own.nil.new nD rfl) (fun i H' _ W => W.s.seq hs) ?_ ?_
    · rintro i v H' hi W
      obtain ⟨d, hd1, hd2⟩ := dpAll_getV ha hi
      obtain ⟨z, hz, rfl⟩ := map_getV hd1
      obtain ⟨zb, o, t, rfl, hzb, hzo, hzt⟩ := zdK_inv (dp_same W.s _ hd2)
      obtain ⟨oa, os, rfl, hos, hosA⟩ := dp_tup hzo
      obtain ⟨ta', ts', rfl, hts', htsA⟩ := dp_tup hzt
      have hos := dp_ints hos hosA
      have hts' := dp_ints hts' htsA
      have hzm := List.mem_of_getElem? hz
      have l1 := hol z hzm
      have l2 := htl z hzm
      refine ⟨zb, _, rfl, hzb, rfl, _, _, rfl, _, _, rfl, _, _, rfl, rfl, rfl, ?_⟩
      refine ⟨_, rfl, _, rfl, oa, _, rfl, .inr hos, _, rfl, ta', _, rfl, .inr hts', _, _, rfl, rfl, _, _, rfl, rfl, .inr ⟨?_, ?_⟩, _, W.g0, ?_, ?_⟩
      · rw [List.length_map, List.length_map]
        omega
      · rw [List.length_map, List.length_map]
        omega
      · rw [List.length_map, List.length_map, List.length_take]
        exact big (by omega)
      · generalize e2 : upd _ D _ = H2
        rw [take_snoc hz, List.map_append, List.map_append]
        have W2 := W.set0 e2
        rw [List.length_map (as := z.o), List.length_map (as := z.t)] at W2
        exact W2
    · rintro H' W
      rw [lx, List.take_length] at W
      exact ⟨D, _, rfl, SqL.of W.g0, q H' (S1.trans W.s)⟩
def spCouplings (K : PySem.W.Frag) (C : Cs) : Sp := fun vs H Q _ => ∃ (x : Addr) (b : Nat) (zs : List Zn), vs = [.ref x] ∧ SysR K C H x b zs ∧ ∀ H', Same H H' → Q (.int (cplF (toldZ zs))) H'
theorem ok_couplings {f : Addr} {C : Cs} {fd : FuncData} (F : Fun K "couplings" "System.couplings" s_System_couplings f fd) (A : NoA K C) (M_couplings_from : DMeth P w K mg base CX0 2 C.sys "couplings_from" ["self", "begin", "end"] (spFrom K C)) :
    FnOk P w K mg base CX0 3 f fd ["self"] (spCouplings K C) := by
  refine F.ok sc_System_couplings (fun vs H Q E h => ?_) (fun cdv AA outer s H vs Q E hr h => ?_)
  · obtain ⟨x, b, zs, rfl, _⟩ := h
    rfl
  · obtain ⟨x, b, zs, rfl, R, q⟩ := h
    obtain ⟨dx, a1, a2, bg, e, g, hx, _⟩ := R.ex
    have tok := R.ok.told (by have := R.n; omega)
    have ts := told_sum zs fun y hy => by have := R.ok.c y hy; omega
    refine ⟨_, (pss_one (ps_ret (pe_methD M_couplings_from hr (by decide) pass0 (pv 0) (pa_cons pe_int (pa_cons (pe_fld (pv 0) rfl) pa_nil))))), ?_⟩
    refine ⟨_, rfl, x, dx, _, rfl, hx, rfl, _, rfl, x, C.sys, dx, _, _, rfl, hx, A.c, A.n5, rfl, x, b, zs, 0, len zs, rfl, R, fun H' S => ?_⟩
    have e1 := cutF_all (len zs) (toldZ zs) 0 tok.c (Int.le_refl _) (by
      rw [Int.zero_add]
      show len (toldZ zs) ≤ len zs
      omega)
    have := q H' S
    rw [← e1] at this
    exact this
end
end Fb
namespace Fb
open PySem PySem.Spec PyProof.Rows L2
section
variable {P : Program} {w : World} {K : PySem.W.Frag} {mg : Str → Option Value} {base : Heap}
theorem sc_fill : FnScope nm_fill ["system", "begin", "end"] (defScope s_fill) := ⟨rfl, rfl, rfl, by decide +kernel, rfl, by decide +kernel, by decide +kernel⟩
def fillF (bo : Nat) (zs : List Zn) (b e : Int) : Int := roomF bo zs b e - cplF (cutF b e 0 (toldZ zs))
theorem ok_fill {f CI CSp : Addr} {C : Cs} {fd : FuncData} (F : Fun K "fill" "fill" s_fill f fd) (D_check_part : Def P w K mg base (L2.CX P w) 4 "check_part" ["system", "begin", "end"] (spCheckPart K C CI CSp))
    (D_room_of : Def P w K mg base CX0 6 "room_of" ["system", "begin", "end"] (spRoomOf K C)) (M_couplings_from : DMeth P w K mg base CX0 2 C.sys "couplings_from" ["self", "begin", "end"] (spFrom K C)) : FnOk P w K mg base (L2.CX P w) 7 f fd ["system", "begin", "end"] (spCnt K C CI CSp fillF) := by
  refine F.okX sc_fill (fun vs H Q E h => ?_) (fun cdv AA outer s H vs Q E hr h => ?_)
  · obtain ⟨v, vb, ve, is, rfl, _⟩ := h
    rfl
  · obtain ⟨v, vb, ve, is, rfl, hk, q1, q2⟩ := h
    refine ⟨_, (pss_cons (ps_expr (pe_callD D_check_part hr (by decide) (passes_call (takes_of rfl rfl rfl rfl) (fun _ _ _ _ h => h)) (pa_cons (pv 0) (pa_cons (pv 1) (pa_cons (pv 2) pa_nil)))))
      (pss_one (ps_ret (pe_op op_sub (pe_callD D_room_of hr (by decide) pass0 (pa_cons (pv 0) (pa_cons (pv 1) (pa_cons (pv 2) pa_nil)))) (pe_methD M_couplings_from hr (by decide) pass0 (pv 0) (pa_cons (pv 1) (pa_cons (pv 2) pa_nil))))))), ?_⟩
    refine ⟨_, rfl, _, rfl, _, rfl, v, vb, ve, is, rfl, hk, q1, fun his => ?_⟩
    obtain ⟨x, bo, zs, jb, je, rfl, R, hz, hjb, hje, k1, k2⟩ := q2 his
    refine ⟨x, bo, zs, jb, je, rfl, R, hjb, hje, fun hs => ?_, k1⟩
    obtain ⟨b, e, rfl, rfl, b0, be, el⟩ := span_int hs
    cases hjb
    cases hje
    refine ⟨_, rfl, _, rfl, _, rfl, x, bo, zs, b, e, rfl, R, hz, b0, by omega, el, fun H1 S1 => ?_⟩
    obtain ⟨dx, _, _, _, _, _, hx, _⟩ := (R.same S1).ex
    exact ⟨_, rfl, x, dx, _, rfl, hx, rfl, _, rfl, _, rfl, x, bo, zs, b, e, rfl, R.same S1, fun H2 S2 => ⟨_, _, rfl, rfl, k2 b e rfl rfl b0 be el H2 (S1.trans S2)⟩⟩
end
end Fb
namespace Fb
open PySem PySem.Spec PyProof.Rows L2
section
variable {P : Program} {w : World} {K : PySem.W.Frag} {mg : Str → Option Value} {base : Heap}
theorem sc_check_integer : FnScope nm_check_integer ["value"] (defScope s_check_integer) := ⟨rfl, rfl, rfl, by decide +kernel, rfl, by decide +kernel, by decide +kernel⟩
def spInteger (K : PySem.W.Frag) (CN : Addr) : Sp := fun vs H Q E => ∃ (v : V) (j : J), vs = [v] ∧ Jr K H v j ∧ (isIJ j = true → Q .non H) ∧ (isIJ j = false → ∀ H', Same H H' → E (.ref CN) none H')
theorem ok_check_integer {f CN : Addr} {fd : FuncData} (F : Fun K "check_integer" "check_integer" s_check_integer f fd) (X_InvalidNumber : DErrM K mg "InvalidNumber" CN)
    (D_is_integer : Def P w K mg base CX0 1 "is_integer" ["value"] (spIsInt K)) : FnOk P w K mg base (L2.CX P w) 2 f fd ["value"] (spInteger K CN) := by
  refine F.okX sc_check_integer (fun vs H Q E h => ?_) (fun cdv A outer s H vs Q E hr h => ?_)
  · obtain ⟨v, j, rfl, _⟩ := h
    rfl
  · obtain ⟨v, j, rfl, hj, q, qe⟩ := h
    refine ⟨_, (pss_one (ps_if (pt_not (pt_val (pe_callD D_is_integer hr (by decide) pass0 (pa_cons (pv 0) pa_nil))))
        (pss_one (ps_raise rfl (takes_of rfl rfl rfl rfl) (pmk_msgD X_InvalidNumber pe_str)))
        pss_nil)), ?_⟩
    refine ⟨_, rfl, v, j, rfl, hj, ?_⟩
    cases hi : isIJ j with
    | true => exact ⟨_, rfl, iteF (q hi)⟩
    | false => exact ⟨_, rfl, iteT (qe hi H (Same.refl _))⟩
end
end Fb
namespace Fb
open PySem PySem.Spec PyProof.Rows L2
section
variable {P : Program} {w : World} {K : PySem.W.Frag} {mg : Str → Option Value} {base : Heap}
theorem sc_work : FnScope nm_work ["system", "begin", "end"] (defScope s_work) := ⟨rfl, rfl, rfl, by decide +kernel, rfl, by decide +kernel, by decide +kernel⟩
def workF (bo : Nat) (zs : List Zn) (b e : Int) : Int := sumF wkF (sizeF bo (toldZ zs)) b e
theorem ok_work {f CI CSp : Addr} {C : Cs} {fd : FuncData} (F : Fun K "work" "work" s_work f fd) (bt : Bt mg bn) (D_check_part : Def P w K mg base (L2.CX P w) 4 "check_part" ["system", "begin", "end"] (spCheckPart K C CI CSp))
    (D_sizes_of : Def P w K mg base CX0 5 "sizes_of" ["system", "begin", "end"] (spSizes K C)) : FnOk P w K mg base (L2.CX P w) 7 f fd ["system", "begin", "end"] (spCnt K C CI CSp workF) := by
  refine F.okX sc_work (fun vs H Q E h => ?_) (fun cdv AA outer s H vs Q E hr h => ?_)
  · obtain ⟨v, vb, ve, is, rfl, _⟩ := h
    rfl
  · obtain ⟨v, vb, ve, is, rfl, hk, q1, q2⟩ := h
    refine ⟨_, (pss_cons (ps_expr (pe_callD D_check_part hr (by decide) (passes_call (takes_of rfl rfl rfl rfl) (fun _ _ _ _ h => h)) (pa_cons (pv 0) (pa_cons (pv 1) (pa_cons (pv 2) pa_nil)))))
      (pss_cons (ps_set (i := 3) sc_work.nd rfl (.inl rfl) (pe_callD D_sizes_of hr (by decide) pass0 (pa_cons (pv 0) (pa_cons (pv 1) (pa_cons (pv 2) pa_nil)))))
      (pss_one (ps_ret (pe_callB (r := rSum K) (cr_sum rfl) (by rfl) (bt "sum" (by decide)) PyProof.Rows.boot_sum (pa_cons (pe_lc (own := [("_", 4), ("size", 5), ("many", 6)]) (tt := tYes) (g := (gTup K 3 (gCons (gName 4) (gCons (gName 5) (gCons (gName 6) gNil))))) rfl sc_work.nd (pi_list (pv 3)) (blkOk_by (N := nm_work) (sc := defScope s_work) (by decide +kernel)) (fun _ _ _ _ _ => (pg_tup rfl (pgs_cons (pg_name (i := 4) sc_work.nd rfl (.inl rfl)) (pgs_cons (pg_name (i := 5) sc_work.nd rfl (.inl rfl)) (pgs_cons (pg_name (i := 6) sc_work.nd rfl (.inl rfl)) pgs_nil))))) (fun _ _ _ _ _ => pts_nil) (fun _ _ _ _ _ => (pe_op op_mul (pv 6) (pe_op op_fdiv (pe_op op_mul (pv 5) (pe_op op_add (pv 5) pe_int)) pe_int)))) pa_nil)))))), ?_⟩
    refine ⟨_, rfl, _, rfl, _, rfl, v, vb, ve, is, rfl, hk, q1, fun his => ?_⟩
    obtain ⟨x, bo, zs, jb, je, rfl, R, hz, hjb, hje, k1, k2⟩ := q2 his
    refine ⟨x, bo, zs, jb, je, rfl, R, hjb, hje, fun hs => ?_, k1⟩
    obtain ⟨b, e, rfl, rfl, b0, be, el⟩ := span_int hs
    cases hjb
    cases hje
    have q := k2 b e rfl rfl b0 be el
    refine ⟨_, rfl, _, rfl, _, rfl, x, bo, zs, b, e, rfl, R, hz, b0, by omega, el, fun H1 p vs L S1 np hp hA hm hK => ?_⟩
    have hs : SqL K H1 p vs := SqL.of hp
    have lv := dpAll_len hA
    rw [List.length_map] at lv
    refine ⟨_, rfl, p, rfl, ⟨_, hs⟩, fun D nD => ?_⟩
    refine lc_list (xs := vs) (fun i H' => Own H1 [(D, .lst (((L.take i).map fun x => x.2.2 * wkF x.2.1).map V.int))] H') (Own.nil.new nD rfl) (fun i H' _ W => W.s.seq hs) ?_ ?_
    · rintro i v H2 hi W
      obtain ⟨d, hd1, hd2⟩ := dpAll_getV hA hi
      obtain ⟨k, hk, rfl⟩ := map_getV hd1
      obtain ⟨ta, rfl, hts⟩ := kD_inv (dp_same W.s _ hd2)
      have hone := hK.one k (List.mem_of_getElem? hk)
      have lt := bitsN_le 22 (maskA bo (toldZ zs) k.1)
      have lt : k.2.1 ≤ 22 := by rw [hone.2.2.1]; exact lt
      have lw : 0 ≤ wkF k.2.1 ∧ wkF k.2.1 ≤ 275 := by
        unfold wkF
        have h1 : (k.2.1 : Int) * ((k.2.1 : Int) + 3) ≤ 22 * 25 := Int.mul_le_mul (by omega) (by omega) (by omega) (by omega)
        have h2 : 0 ≤ (k.2.1 : Int) * ((k.2.1 : Int) + 3) := Int.mul_nonneg (by omega) (by omega)
        omega
      refine ⟨ta, _, rfl, hts, rfl, _, _, rfl, _, _, rfl, _, _, rfl, rfl, rfl, ?_⟩
      refine ⟨_, rfl, _, rfl, _, rfl, _, _, rfl, rfl, _, _, rfl, rfl, .inl ⟨by omega, by omega⟩, _, _, rfl, rfl, ⟨by decide, by decide⟩, ?_⟩
      refine ⟨_, _, rfl, rfl, .inr ⟨by show -(2 ^ 64) < wkF k.2.1; omega, by show wkF k.2.1 < 2 ^ 64; omega⟩, _, W.g0, ?_, ?_⟩
      · rw [List.length_map, List.length_map, List.length_take]
        exact big2 (by omega)
      · generalize e2 : upd _ D _ = H3
        rw [take_snoc hk, List.map_append, List.map_append]
        exact W.set0 e2
    · rintro H2 W
      rw [lv, List.take_length] at W
      have hsum := hK.sum wkF
      refine ⟨D, _, rfl, SqL.of W.g0, ?_⟩
      rw [hsum]
      exact q H2 (S1.trans W.s)
end
end Fb
namespace Fb
open PySem PySem.Spec PyProof.Rows L2
/-- what is known of the first kinds -/
structure WidS (L : List (Int × Nat × Int)) (i : Nat) (g : Int) (y : Option Int) : Prop where
  no : y = .none → i = 0 ∧ g = -1
  so : ∀ u, y = .some u → ∃ j x, j < i ∧ L[j]? = .some x ∧ x.1 = u ∧ ((x.2.1 : Nat) : Int) = g ∧ (∀ k z, k < i → L[k]? = .some z → ((z.2.1 : Nat) : Int) ≤ g) ∧ ∀ k z, k < j → L[k]? = .some z → ((z.2.1 : Nat) : Int) < g
theorem WidS.start (L : List (Int × Nat × Int)) : WidS L 0 (-1) .none := ⟨fun _ => ⟨rfl, rfl⟩, fun u h => nomatch h⟩
theorem WidS.up {L : List (Int × Nat × Int)} {i : Nat} {g : Int} {y : Option Int} {x : Int × Nat × Int} (h : WidS L i g y) (hx : L[i]? = some x) (hg : g < ((x.2.1 : Nat) : Int)) : WidS L (i + 1) ((x.2.1 : Nat) : Int) (some x.1) := by
  refine ⟨fun e => (nomatch e), fun u e => ?_⟩
  cases e
  have lt : ∀ k z, k < i → L[k]? = some z → ((z.2.1 : Nat) : Int) < ((x.2.1 : Nat) : Int) := fun k z hk hz => by
    cases y with
    | none =>
      have := h.no rfl
      omega
    | some u =>
      obtain ⟨_, _, _, _, _, _, q, _⟩ := h.so u rfl
      have := q k z hk hz
      omega
  refine ⟨i, x, by omega, hx, rfl, rfl, fun k z hk hz => ?_, lt⟩
  by_cases e : k = i
  · subst e
    rw [hx] at hz
    cases hz
    exact Int.le_refl _
  · have := lt k z (by omega) hz
    omega
theorem WidS.on {L : List (Int × Nat × Int)} {i : Nat} {g : Int} {y : Option Int} {x : Int × Nat × Int} (h : WidS L i g y) (hx : L[i]? = some x) (hg : ¬ g < ((x.2.1 : Nat) : Int)) : WidS L (i + 1) g y := by
  cases y with
  | none =>
    have := (h.no rfl).2
    omega
  | some u =>
    refine ⟨(fun e => nomatch e), fun v e => ?_⟩
    cases e
    obtain ⟨j, z, h1, h2, h3, h4, h5, h6⟩ := h.so u rfl
    refine ⟨j, z, by omega, h2, h3, h4, fun k w hk hw => ?_, h6⟩
    by_cases e : k = i
    · subst e
      rw [hx] at hw
      cases hw
      omega
    · exact h5 k w (by omega) hw
theorem WidS.done {val : Int → Nat} {b e : Int} {L : List (Int × Nat × Int)} {g : Int} {y : Option Int} (hK : KindsOk val b e L) (hbe : b < e) (h : WidS L L.length g y) : ∃ (m : Nat) (u : Int), y = some u ∧ g = (m : Int) ∧ Wid val b e m u := by
  cases y with
  | none =>
    have h0 := (h.no rfl).1
    obtain ⟨x, hx, _⟩ := hK.cov b (Int.le_refl _) hbe
    cases L with
    | nil => cases hx
    | cons => simp at h0
  | some u =>
    obtain ⟨j, x, h1, h2, h3, h4, h5, h6⟩ := h.so u rfl
    subst h3
    have hx := hK.one x (List.mem_of_getElem? h2)
    refine ⟨x.2.1, x.1, rfl, h4.symm, hx.1, hx.2.1, hx.2.2.1.symm, fun v v1 v2 => ?_, fun v v1 v2 => ?_⟩
    · obtain ⟨z, z1, z2, z3⟩ := hK.cov v v1 v2
      obtain ⟨k, hk⟩ := List.mem_iff_getElem?.mp z1
      have := h5 k z (List.getElem?_eq_some_iff.mp hk).1 hk
      omega
    · obtain ⟨z, z1, z2, z3⟩ := hK.cov v v1 (by omega)
      obtain ⟨k, hk⟩ := List.mem_iff_getElem?.mp z1
      have hkj : k < j := by
        rcases Nat.lt_or_ge k j with q | q
        · exact q
        · exfalso
          rcases Nat.eq_or_lt_of_le q with q | q
          · subst q
            rw [h2] at hk
            cases hk
            omega
          · have := List.pairwise_iff_getElem.mp hK.asc j k (List.getElem?_eq_some_iff.mp h2).1 (List.getElem?_eq_some_iff.mp hk).1 q
            rw [(List.getElem?_eq_some_iff.mp h2).2, (List.getElem?_eq_some_iff.mp hk).2] at this
            omega
      have := h6 k z hkj hk
      omega
theorem Wid.uniq {val : Int → Nat} {b e : Int} {m m' : Nat} {u u' : Int} (h : Wid val b e m u) (g : Wid val b e m' u') : m = m' ∧ u = u' := by
  have e1 := h.most u' g.lo g.hi
  have e2 := g.most u h.lo h.hi
  have e3 := h.at_
  have e4 := g.at_
  have em : m = m' := by omega
  subst em
  refine ⟨rfl, ?_⟩
  rcases Int.lt_trichotomy u u' with q | q | q
  · have := g.first u h.lo q
    omega
  · exact q
  · have := h.first u' g.lo q
    omega
/-- the first unknown with a number that is as great -/
def FirstW (val : Int → Nat) (b e s : Int) : Option Int → Prop
  | some u => b ≤ u ∧ u < e ∧ s ≤ ((val u : Nat) : Int) ∧ ∀ v, b ≤ v → v < u → ((val v : Nat) : Int) < s
  | none => ∀ v, b ≤ v → v < e → ((val v : Nat) : Int) < s
def oV : Option Int → V
  | some u => .int u
  | none => .non
section
variable {P : Program} {w : World} {K : PySem.W.Frag} {mg : Str → Option Value} {base : Heap}
theorem sc_widest : FnScope nm_widest ["system", "begin", "end"] (defScope s_widest) := ⟨rfl, rfl, rfl, by decide +kernel, rfl, by decide +kernel, by decide +kernel⟩
def spWidest (K : PySem.W.Frag) (C : Cs) (CI CSp : Addr) : Sp := fun vs H Q E => ∃ (v vb ve : V) (is : Bool), vs = [v, vb, ve] ∧ SysK K C H v is ∧ (is = false → ∀ H', Same H H' → E (.ref CI) none H') ∧
  (is = true → ∃ (x : Addr) (bo : Nat) (zs : List Zn) (jb je : J), v = .ref x ∧ SysR K C H x bo zs ∧ zs.length ≤ 100 ∧ Jr K H vb jb ∧ Jr K H ve je ∧ (spanJ jb je (len zs + (bo : Int)) = false → ∀ H', Same H H' → E (.ref CSp) none H') ∧
    ∀ b e : Int, jb = .int b → je = .int e → 0 ≤ b → b < e → e ≤ len zs + (bo : Int) → ∀ H' p m u, Same H H' → H p = none → H' p = some (.tup [.int ((m : Nat) : Int), .int u]) → Wid (sizeF bo (toldZ zs)) b e m u → Q (.ref p) H')
theorem ok_widest {f CI CSp : Addr} {C : Cs} {fd : FuncData} (F : Fun K "widest" "widest" s_widest f fd) (bt : Bt mg bn) (D_check_part : Def P w K mg base (L2.CX P w) 4 "check_part" ["system", "begin", "end"] (spCheckPart K C CI CSp))
    (D_sizes_of : Def P w K mg base CX0 5 "sizes_of" ["system", "begin", "end"] (spSizes K C)) : FnOk P w K mg base (L2.CX P w) 7 f fd ["system", "begin", "end"] (spWidest K C CI CSp) := by
  refine F.okX sc_widest (fun vs H Q E h => ?_) (fun cdv AA outer s H vs Q E hr h => ?_)
  · obtain ⟨v, vb, ve, is, rfl, _⟩ := h
    rfl
  · obtain ⟨v, vb, ve, is, rfl, hk, q1, q2⟩ := h
    refine ⟨_, (pss_cons (ps_expr (pe_callD D_check_part hr (by decide) (passes_call (takes_of rfl rfl rfl rfl) (fun _ _ _ _ h => h)) (pa_cons (pv 0) (pa_cons (pv 1) (pa_cons (pv 2) pa_nil)))))
      (pss_cons (ps_set (i := 3) sc_widest.nd rfl (.inl rfl) (pe_un un_neg pe_int))
      (pss_cons (ps_set (i := 4) sc_widest.nd rfl (.inl rfl) pe_non)
      (pss_cons (ps_for (passes_of rfl) rfl (pi_list (pe_callD D_sizes_of hr (by decide) pass0 (pa_cons (pv 0) (pa_cons (pv 1) (pa_cons (pv 2) pa_nil))))) (pg_tup rfl (pgs_cons (pg_name (i := 5) sc_widest.nd rfl (.inl rfl)) (pgs_cons (pg_name (i := 6) sc_widest.nd rfl (.inl rfl)) (pgs_cons (pg_name (i := 7) sc_widest.nd rfl (.inl rfl)) pgs_nil))))
        (pss_one (ps_if (pt_cmpR op_gt (pv 6) (pv 3) (nomark _))
          (pss_cons (ps_set (i := 3) sc_widest.nd rfl (.inl rfl) (pv 6))
          (pss_one (ps_set (i := 4) sc_widest.nd rfl (.inl rfl) (pv 5))))
          pss_nil)))
      (pss_one (ps_ret (pe_tup (pa_cons (pv 3) (pa_cons (pv 4) pa_nil))))))))), ?_⟩
    refine ⟨_, rfl, _, rfl, _, rfl, v, vb, ve, is, rfl, hk, q1, fun his => ?_⟩
    obtain ⟨x, bo, zs, jb, je, rfl, R, hz, hjb, hje, k1, k2⟩ := q2 his
    refine ⟨x, bo, zs, jb, je, rfl, R, hjb, hje, fun hs => ?_, k1⟩
    obtain ⟨b, e, rfl, rfl, b0, be, el⟩ := span_int hs
    cases hjb
    cases hje
    have q := k2 b e rfl rfl b0 be el
    refine ⟨1, rfl, _, rfl, _, rfl, _, rfl, x, bo, zs, b, e, rfl, R, hz, b0, by omega, el, fun H1 p vs L S1 np hp hA hm hK => ?_⟩
    have hs : SqL K H1 p vs := SqL.of hp
    have lv := dpAll_len hA
    rw [List.length_map] at lv
    refine ⟨p, rfl, ⟨_, hs⟩, for_list (K := K) (a := p) (xs := vs) (fun i σ H' => ∃ (g : Int) (y : Option Int) (y5 y6 y7 : Option V), σ = [some (.ref x), some (.int b), some (.int e), some (.int g), some (oV y), y5, y6, y7] ∧ H' = H1 ∧ WidS L i g y) ⟨-1, none, none, none, none, rfl, rfl, WidS.start L⟩ (fun i σ H' _ ⟨_, _, _, _, _, _, hH, _⟩ => by rw [hH]; exact hs) ?_ ?_⟩
    · rintro i v σ H2 hi ⟨g, y, y5, y6, y7, rfl, rfl, hW⟩
      obtain ⟨d, hd1, hd2⟩ := dpAll_getV hA hi
      obtain ⟨k, hk, rfl⟩ := map_getV hd1
      obtain ⟨ta, rfl, hts⟩ := kD_inv hd2
      refine ⟨ta, _, rfl, hts, rfl, _, _, rfl, _, _, rfl, _, _, rfl, rfl, ?_⟩
      refine ⟨_, rfl, _, rfl, _, _, rfl, rfl, _, rfl, ite2 (fun hgt => ?_) (fun hgt => ?_)⟩
      · exact ⟨_, rfl, _, rfl, _, some k.1, _, _, _, rfl, rfl, hW.up hk (of_decide_eq_true hgt)⟩
      · exact ⟨g, y, _, _, _, rfl, rfl, hW.on hk (of_decide_eq_false (Bool.eq_false_iff.mpr hgt))⟩
    · rintro σ H2 ⟨g, y, y5, y6, y7, rfl, rfl, hW⟩
      rw [lv] at hW
      obtain ⟨m, u, rfl, rfl, hwid⟩ := hW.done hK be
      refine ⟨_, rfl, _, rfl, by show 2 ≤ sizeLine; decide, fun r nr => ?_⟩
      have nrH : H r = none := by
        cases h : H r with
        | none => rfl
        | some o => rw [S1 _ _ h] at nr; cases nr
      exact q _ r m u (S1.trans (same1 nr)) nrH upd_same hwid
theorem sc_first_wide : FnScope nm_first_wide ["system", "size"] (defScope s_first_wide) := ⟨rfl, rfl, rfl, by decide +kernel, rfl, by decide +kernel, by decide +kernel⟩
def spFirstWide (K : PySem.W.Frag) (C : Cs) (CI CN : Addr) : Sp := fun vs H Q E => ∃ (v v1 : V) (is : Bool), vs = [v, v1] ∧ SysK K C H v is ∧ (is = false → ∀ H', Same H H' → E (.ref CI) none H') ∧
  (is = true → ∃ (x : Addr) (bo : Nat) (zs : List Zn) (j : J), v = .ref x ∧ SysR K C H x bo zs ∧ zs.length ≤ 100 ∧ Jr K H v1 j ∧ (isIJ j = false → ∀ H', Same H H' → E (.ref CN) none H') ∧
    ∀ s : Int, j = .int s → ∀ H' y, Same H H' → FirstW (sizeF bo (toldZ zs)) 0 (len zs + (bo : Int)) s y → Q (oV y) H')
theorem isI_int {j : J} (h : isIJ j = true) : ∃ i, j = .int i := by
  cases j with
  | int i => exact ⟨i, rfl⟩
  | _ => cases h
theorem ok_first_wide {f CI CN : Addr} {C : Cs} {fd : FuncData} (F : Fun K "first_wide" "first_wide" s_first_wide f fd) (bt : Bt mg bn) (D_check_system : Def P w K mg base (L2.CX P w) 1 "check_system" ["value"] (spCheckSys K C CI)) (D_check_integer : Def P w K mg base (L2.CX P w) 2 "check_integer" ["value"] (spInteger K CN))
    (P_unknowns : DProp P w K mg base CX0 1 C.sys "unknowns" (spUnknowns K C)) (D_sizes_of : Def P w K mg base CX0 5 "sizes_of" ["system", "begin", "end"] (spSizes K C)) : FnOk P w K mg base (L2.CX P w) 7 f fd ["system", "size"] (spFirstWide K C CI CN) := by
  refine F.okX sc_first_wide (fun vs H Q E h => ?_) (fun cdv AA outer s H vs Q E hr h => ?_)
  · obtain ⟨v, v1, is, rfl, _⟩ := h
    rfl
  · obtain ⟨v, v1, is, rfl, hk, q1, q2⟩ := h
    refine ⟨_, (pss_cons (ps_expr (pe_callD D_check_system hr (by decide) (passes_call (takes_of rfl rfl rfl rfl) (fun _ _ _ _ h => h)) (pa_cons (pv 0) pa_nil)))
      (pss_cons (ps_expr (pe_callD D_check_integer hr (by decide) (passes_call (takes_of rfl rfl rfl rfl) (fun _ _ _ _ h => h)) (pa_cons (pv 1) pa_nil)))
      (pss_cons (ps_for (passes_of rfl) rfl (pi_list (pe_callD D_sizes_of hr (by decide) pass0 (pa_cons (pv 0) (pa_cons pe_int (pa_cons (pe_propD P_unknowns hr (by decide) pass0 (pv 0)) pa_nil))))) (pg_tup rfl (pgs_cons (pg_name (i := 2) sc_first_wide.nd rfl (.inl rfl)) (pgs_cons (pg_name (i := 3) sc_first_wide.nd rfl (.inl rfl)) (pgs_cons (pg_name (i := 4) sc_first_wide.nd rfl (.inl rfl)) pgs_nil))))
        (pss_one (ps_if (pt_cmpR op_ge (pv 3) (pv 1) (nomark _))
          (pss_one (ps_ret (pv 2)))
          pss_nil)))
      (pss_one (ps_ret pe_non))))), ?_⟩
    refine ⟨_, rfl, v, is, rfl, hk, fun his => ?_, q1⟩
    obtain ⟨x, bo, zs, j, rfl, R, hz, hj, k1, k2⟩ := q2 his
    refine ⟨_, rfl, v1, j, rfl, hj, fun hi => ?_, k1⟩
    obtain ⟨s, rfl⟩ := isI_int hi
    cases hj
    have q := k2 s rfl
    obtain ⟨dx, _, _, _, _, _, hx, _⟩ := R.ex
    have l0 := R.ok.c
    have hl1 : 0 ≤ len zs := by have := zs_one R; omega
    refine ⟨_, rfl, _, rfl, x, dx, _, rfl, hx, x, bo, zs, rfl, R, x, bo, zs, 0, _, rfl, R, hz, Int.le_refl _, by omega, Int.le_refl _, fun H1 p vs L S1 np hp hA hm hK => ?_⟩
    have hs : SqL K H1 p vs := SqL.of hp
    have lv := dpAll_len hA
    rw [List.length_map] at lv
    refine ⟨p, rfl, ⟨_, hs⟩, for_list (K := K) (a := p) (xs := vs) (fun i σ H' => ∃ (y2 y3 y4 : Option V), σ = [some (.ref x), some (.int s), y2, y3, y4] ∧ H' = H1 ∧ ∀ k z, k < i → L[k]? = some z → ((z.2.1 : Nat) : Int) < s) ⟨none, none, none, rfl, rfl, fun k z hk => absurd hk (Nat.not_lt_zero _)⟩ (fun i σ H' _ ⟨_, _, _, _, hH, _⟩ => by rw [hH]; exact hs) ?_ ?_⟩
    · rintro i v σ H2 hi ⟨y2, y3, y4, rfl, rfl, hlt⟩
      obtain ⟨d, hd1, hd2⟩ := dpAll_getV hA hi
      obtain ⟨k, hk, rfl⟩ := map_getV hd1
      obtain ⟨ta, rfl, hts⟩ := kD_inv hd2
      have hone := hK.one k (List.mem_of_getElem? hk)
      refine ⟨ta, _, rfl, hts, rfl, _, _, rfl, _, _, rfl, _, _, rfl, rfl, ?_⟩
      refine ⟨_, rfl, _, rfl, _, _, rfl, rfl, _, rfl, ite2 (fun hge => ?_) (fun hge => ?_)⟩
      · have hge := of_decide_eq_true hge
        refine ⟨_, rfl, q H2 (some k.1) S1 ⟨hone.1, hone.2.1, by rw [← hone.2.2.1]; exact hge, fun v v0 v1 => ?_⟩⟩
        obtain ⟨z, z1, z2, z3⟩ := hK.cov v v0 (by omega)
        obtain ⟨n, hn⟩ := List.mem_iff_getElem?.mp z1
        have hni : n < i := by
          rcases Nat.lt_or_ge n i with q | q
          · exact q
          · exfalso
            rcases Nat.eq_or_lt_of_le q with q | q
            · subst q
              rw [hk] at hn
              cases hn
              omega
            · have := List.pairwise_iff_getElem.mp hK.asc i n (List.getElem?_eq_some_iff.mp hk).1 (List.getElem?_eq_some_iff.mp hn).1 q
              rw [(List.getElem?_eq_some_iff.mp hk).2, (List.getElem?_eq_some_iff.mp hn).2] at this
              omega
        rw [← z3]
        exact hlt n z hni hn
      · have hge := of_decide_eq_false (Bool.eq_false_iff.mpr hge)
        refine ⟨_, _, _, rfl, rfl, fun n z hn hz => ?_⟩
        by_cases e : n = i
        · subst e
          rw [hk] at hz
          cases hz
          omega
        · exact hlt n z (by omega) hz
    · rintro σ H2 ⟨y2, y3, y4, rfl, rfl, hlt⟩
      rw [lv] at hlt
      refine q H2 none S1 fun v v0 v1 => ?_
      obtain ⟨z, z1, z2, z3⟩ := hK.cov v v0 v1
      obtain ⟨n, hn⟩ := List.mem_iff_getElem?.mp z1
      rw [← z3]
      exact hlt n z (List.getElem?_eq_some_iff.mp hn).1 hn
end
end Fb
set_option maxHeartbeats 1000000
namespace Fb
open PySem PySem.Spec PyProof.Rows L2
/-- two values whose repr is asked -/
structure PairOk (K : PySem.W.Frag) (H : Hp) (v u : V) (d e : PyData) : Prop where
  rd : (Dp K H v d ∧ Dp K H u e ∧ d.canLay0 = true ∧ e.canLay0 = true) ∨ (Sc H v d ∧ Sc H u e)
  s1 : d.showable = true
  s2 : e.showable = true
  h1 : d.depth ≤ 20
  h2 : e.depth ≤ 20
  l1 : szS d ≤ 20000
  l2 : szS e ≤ 20000
theorem _root_.L2.Sc.same {H H' : Hp} {v : V} {d : PyData} (S : Same H H') (h : Sc H v d) : Sc H' v d := by
  cases h with
  | non => exact .non
  | bl b => exact .bl b
  | int i => exact .int i
  | str x => exact .str x
  | emp e => exact .emp (S _ _ e)
theorem PairOk.same {K : PySem.W.Frag} {H H' : Hp} {v u : V} {d e : PyData} (h : PairOk K H v u d e) (S : Same H H') : PairOk K H' v u d e :=
  ⟨h.rd.elim (fun g => .inl ⟨dp_same S _ g.1, dp_same S _ g.2.1, g.2.2⟩) (fun g => .inr ⟨g.1.same S, g.2.same S⟩), h.s1, h.s2, h.h1, h.h2, h.l1, h.l2⟩
theorem PairOk.rp {K : PySem.W.Frag} {H : Hp} {v u : V} {d e : PyData} {p : Addr} (h : PairOk K H v u d e) (hp : H p = some (.lst [v, u])) : RpV K H (.ref p) (.list [d, e]) ∧ (PyData.list [d, e]).depth ≤ 64 ∧ (PyData.list [d, e]).showable = true ∧ (PyData.list [d, e]).shown.length ≤ sizeLine := by
  have hs : (PyData.list [d, e]).showable = true := by
    show (d.showable && (e.showable && true)) = true
    rw [h.s1, h.s2]
    rfl
  refine ⟨?_, ?_, hs, ?_⟩
  · rcases h.rd with ⟨a, b, c, f⟩ | ⟨a, b⟩
    · refine .inl ⟨.lst (SqL.of hp) (.cons a (.cons b .nil)), ?_⟩
      show (d.canLay0 && (e.canLay0 && true)) = true
      rw [c, f]
      rfl
    · exact .inr (.inl ⟨p, _, _, rfl, rfl, SqL.of hp, .cons a (.cons b .nil)⟩)
  · have := h.h1
    have := h.h2
    simp only [PyData.depth, PyData.depthAll]
    omega
  · have := shown_leS _ hs
    have := h.l1
    have := h.l2
    have e1 : szS (.list [d, e]) = (szS d + 2 + (szS e + 2 + 0)) + 2 := rfl
    exact big2 (by omega)
theorem sysK_same {K : PySem.W.Frag} {C : Cs} {H H' : Hp} {v : V} {is : Bool} (S : Same H H') (h : SysK K C H v is) : SysK K C H' v is := by
  obtain ⟨t, h1, h2⟩ := h.ex
  exact ⟨t, ty_same S h1, h2⟩
section
variable {P : Program} {w : World} {K : PySem.W.Frag} {mg : Str → Option Value} {base : Heap} {E : Nat → Addr}
theorem sc_law_called : FnScope nm_law_called ["_law_door", "_law_one", "_law_two", "_law_three"] (defScope s_law_called) := ⟨rfl, rfl, rfl, by decide +kernel, rfl, by decide +kernel, by decide +kernel⟩
theorem sc_law_told : FnScope nm_law_told ["_law_door", "_law_one", "_law_two", "_law_three"] (defScope s_law_told) := ⟨rfl, rfl, rfl, by decide +kernel, rfl, by decide +kernel, by decide +kernel⟩
/-- what a door asks, by what may come of it -/
def Door (K : PySem.W.Frag) (C : Cs) (n : Nat) (v1 v2 v3 : V) (H : Hp) (q0 q6 q8 q9 : Hp → Prop) : Prop := ∃ (is : Bool), SysK K C H v1 is ∧ (is = false → ∀ H', Same H H' → q6 H') ∧
  (is = true → ∃ (x : Addr) (bo : Nat) (zs : List Zn) (j2 j3 : J), v1 = .ref x ∧ SysR K C H x bo zs ∧ zs.length ≤ 100 ∧ Jr K H v2 j2 ∧ Jr K H v3 j3 ∧ (n < 4 → spanJ j2 j3 (len zs + (bo : Int)) = false → ∀ H', Same H H' → q8 H') ∧ (n = 4 → isIJ j2 = false → ∀ H', Same H H' → q9 H') ∧
    (n < 4 → ∀ b e : Int, j2 = .int b → j3 = .int e → 0 ≤ b → b < e → e ≤ len zs + (bo : Int) → ∀ H', Same H H' → q0 H') ∧ (n = 4 → ∀ s : Int, j2 = .int s → ∀ H', Same H H' → q0 H'))
def spCalled15 (K : PySem.W.Frag) (C : Cs) (CI CSp CN : Addr) : Sp := fun vs H Q EX => ∃ (n : Nat) (v1 v2 v3 : V), vs = [.int (n : Int), v1, v2, v3] ∧ n < 5 ∧ Door K C n v1 v2 v3 H (Q .non) (EX (.ref CI) none) (EX (.ref CSp) none) (EX (.ref CN) none)
theorem ok_law_called {f : Addr} {C : Cs} {fd : FuncData} (F : Fun K "_law_called" "_law_called" s_law_called f fd)
    (D_room : Def P w K mg base (L2.CX P w) 7 "room" ["system", "begin", "end"] (spCnt K C (E 6) (E 8) roomF)) (D_fill : Def P w K mg base (L2.CX P w) 7 "fill" ["system", "begin", "end"] (spCnt K C (E 6) (E 8) fillF)) (D_work : Def P w K mg base (L2.CX P w) 7 "work" ["system", "begin", "end"] (spCnt K C (E 6) (E 8) workF))
    (D_widest : Def P w K mg base (L2.CX P w) 7 "widest" ["system", "begin", "end"] (spWidest K C (E 6) (E 8))) (D_first_wide : Def P w K mg base (L2.CX P w) 7 "first_wide" ["system", "size"] (spFirstWide K C (E 6) (E 9))) :
    FnOk P w K mg base (L2.CX P w) 8 f fd ["_law_door", "_law_one", "_law_two", "_law_three"] (spCalled15 K C (E 6) (E 8) (E 9)) := by
  refine F.okX sc_law_called (fun vs H Q E h => ?_) (fun cdv A outer s H vs Q EX hr h => ?_)
  · obtain ⟨n, v1, v2, v3, rfl, _⟩ := h
    rfl
  · obtain ⟨n, v1, v2, v3, rfl, hn, is, hk, q6, ht⟩ := h
    refine ⟨_, (pss_one (ps_if (pt_cmpR op_eq (pv 0) pe_int (nomark _))
        (pss_one (ps_expr (pe_callD D_room hr (by decide) (passes_call (takes_of rfl rfl rfl rfl) (fun _ _ _ _ h => h)) (pa_cons (pv 1) (pa_cons (pv 2) (pa_cons (pv 3) pa_nil))))))
        (pss_one (ps_if (pt_cmpR op_eq (pv 0) pe_int (nomark _))
          (pss_one (ps_expr (pe_callD D_fill hr (by decide) (passes_call (takes_of rfl rfl rfl rfl) (fun _ _ _ _ h => h)) (pa_cons (pv 1) (pa_cons (pv 2) (pa_cons (pv 3) pa_nil))))))
          (pss_one (ps_if (pt_cmpR op_eq (pv 0) pe_int (nomark _))
            (pss_one (ps_expr (pe_callD D_work hr (by decide) (passes_call (takes_of rfl rfl rfl rfl) (fun _ _ _ _ h => h)) (pa_cons (pv 1) (pa_cons (pv 2) (pa_cons (pv 3) pa_nil))))))
            (pss_one (ps_if (pt_cmpR op_eq (pv 0) pe_int (nomark _))
              (pss_one (ps_expr (pe_callD D_widest hr (by decide) (passes_call (takes_of rfl rfl rfl rfl) (fun _ _ _ _ h => h)) (pa_cons (pv 1) (pa_cons (pv 2) (pa_cons (pv 3) pa_nil))))))
              (pss_one (ps_expr (pe_callD D_first_wide hr (by decide) (passes_call (takes_of rfl rfl rfl rfl) (fun _ _ _ _ h => h)) (pa_cons (pv 1) (pa_cons (pv 2) pa_nil))))))))))))), ?_⟩
    have cnt : ∀ {ans : Nat → List Zn → Int → Int → Int}, n < 4 → spCnt K C (E 6) (E 8) ans [v1, v2, v3] H (fun v H' => Q .non H') EX := fun h4 => ⟨v1, v2, v3, is, rfl, hk, q6, fun his => by
      obtain ⟨x, bo, zs, j2, j3, e1, R, l, r2, r3, q8, _, q0, _⟩ := ht his
      exact ⟨x, bo, zs, j2, j3, e1, R, l, r2, r3, q8 h4, q0 h4⟩⟩
    have dec : ∀ (m : Int), decide (V.int (n : Int) = V.int m) = decide ((n : Int) = m) := fun m => by
      rw [Bool.eq_iff_iff, decide_eq_true_eq, decide_eq_true_eq]
      constructor
      · intro h
        injection h
      · intro h
        rw [h]
    refine ⟨_, rfl, rfl, _, rfl, ?_⟩
    rw [dec]
    rcases (show n = 0 ∨ n = 1 ∨ n = 2 ∨ n = 3 ∨ n = 4 by omega) with rfl | rfl | rfl | rfl | rfl
    · exact iteT ⟨_, rfl, _, rfl, _, rfl, cnt (ans := roomF) (by decide)⟩
    · refine iteF ⟨_, rfl, rfl, _, rfl, ?_⟩
      rw [dec]
      exact iteT ⟨_, rfl, _, rfl, _, rfl, cnt (ans := fillF) (by decide)⟩
    · refine iteF ⟨_, rfl, rfl, _, rfl, ?_⟩
      rw [dec]
      refine iteF ⟨_, rfl, rfl, _, rfl, ?_⟩
      rw [dec]
      exact iteT ⟨_, rfl, _, rfl, _, rfl, cnt (ans := workF) (by decide)⟩
    · refine iteF ⟨_, rfl, rfl, _, rfl, ?_⟩
      rw [dec]
      refine iteF ⟨_, rfl, rfl, _, rfl, ?_⟩
      rw [dec]
      refine iteF ⟨_, rfl, rfl, _, rfl, ?_⟩
      rw [dec]
      refine iteT ⟨_, rfl, _, rfl, _, rfl, v1, v2, v3, is, rfl, hk, q6, fun his => ?_⟩
      obtain ⟨x, bo, zs, j2, j3, e1, R, l, r2, r3, q8, _, q0, _⟩ := ht his
      exact ⟨x, bo, zs, j2, j3, e1, R, l, r2, r3, q8 (by decide), fun b e g1 g2 g3 g4 g5 H' p m u S _ _ _ => q0 (by decide) b e g1 g2 g3 g4 g5 H' S⟩
    · refine iteF ⟨_, rfl, rfl, _, rfl, ?_⟩
      rw [dec]
      refine iteF ⟨_, rfl, rfl, _, rfl, ?_⟩
      rw [dec]
      refine iteF ⟨_, rfl, rfl, _, rfl, ?_⟩
      rw [dec]
      refine iteF ⟨_, rfl, _, rfl, v1, v2, is, rfl, hk, q6, fun his => ?_⟩
      obtain ⟨x, bo, zs, j2, j3, e1, R, l, r2, r3, _, q9, _, q0⟩ := ht his
      exact ⟨x, bo, zs, j2, e1, R, l, r2, q9 rfl, fun s g1 H' y S _ => q0 rfl s g1 H' S⟩
def spTold15 (K : PySem.W.Frag) (C : Cs) : Sp := fun vs H Q _ => ∃ (n : Nat) (v1 v2 v3 : V) (d2 d3 : PyData), vs = [.int (n : Int), v1, v2, v3] ∧ n < 5 ∧ PairOk K H v2 v3 d2 d3 ∧ Door K C n v1 v2 v3 H (Q (.str "fine")) (Q (.str "system")) (Q (.str "span")) (Q (.str "number"))
theorem ok_law_told {f CF : Addr} {C : Cs} {fd : FuncData} (F : Fun K "_law_told" "_law_told" s_law_told f fd) (bt : Bt mg bn) (EF : ErrF K mg E CF) (T : ErrT K mg E) (D_law_called : Def P w K mg base (L2.CX P w) 8 "_law_called" ["_law_door", "_law_one", "_law_two", "_law_three"] (spCalled15 K C (E 6) (E 8) (E 9)))
    (D_law_kind : DefG P w K mg base CX0 2 "_law_kind" ["_law_e"] (spKind K E)) : FnG P w K mg base CX0 9 f fd ["_law_door", "_law_one", "_law_two", "_law_three"] (spTold15 K C) := by
  refine fnG_of F sc_law_told (fun vs H Q E' h => ?_) (fun cdv A outer s H vs Q E' gd hr h => ?_)
  · obtain ⟨n, v1, v2, v3, d2, d3, rfl, _⟩ := h
    rfl
  · obtain ⟨n, v1, v2, v3, d2, d3, rfl, hn, hp, is, hk, q6, ht⟩ := h
    have hu : (A.deeper (envOfC "_law_told" (defScope s_law_told) s.heap.objs.size f cdv)).units + 80 < cLine := by have := hr.un; omega
    have gd' : (cxOf CX0 P w K mg base nm_law_told "_law_told" (defScope s_law_told) f cdv A outer s H E').A.guards = some [] := gd
    have g_FillError := EF.g
    refine ⟨_, (pss_cons (ps_par (i := 4) (j := 5) rfl sc_law_told.nd rfl rfl (by decide) rfl rfl (pa_cons (pe_callB (r := rReprS K) (call_reprS gd hu) (by rfl) (bt "repr" (by decide)) PyProof.Rows.boot_repr (pa_cons (pe_lst (pa_cons (pv 2) (pa_cons (pv 3) pa_nil))) pa_nil)) (pa_cons pe_non pa_nil)) (by rfl))
      (pss_cons (ps_try_trk (i := 6) (tb := fun W => tDrop (tCallS (spCalled15 K C (E 6) (E 8) (E 9)) (WE W) (tCons (tVar 0) (tCons (tVar 1) (tCons (tVar 2) (tCons (tVar 3) tNil)))))) (ts := fun a => tAsg (tVar 6) (gName 5)) (Wout := fun _ _ _ _ => False) rfl rfl rfl sc_law_told.nd rfl rfl ⟨rfl, by decide, .inl g_FillError⟩ takes0 (fun W pn xe tk _ => pss_one (ps_expr (by exact (pe_callE D_law_called hr (by decide) (fun σ => passAt tk σ) (by exact (pa_cons (pv 0) (pa_cons (pv 1) (pa_cons (pv 2) (pa_cons (pv 3) pa_nil))))))))) (fun a pn => pss_one (ps_set (i := 5) sc_law_told.nd rfl (.inl rfl) (pv 6))))
      (pss_cons (ps_if (pt_cmpR op_ne (pe_callB (r := rReprS K) (call_reprS gd hu) (by rfl) (bt "repr" (by decide)) PyProof.Rows.boot_repr (pa_cons (pe_lst (pa_cons (pv 2) (pa_cons (pv 3) pa_nil))) pa_nil)) (pv 4) (nomark _))
        (pss_one (ps_ret pe_str))
        pss_nil)
      (pss_one (ps_ret (pe_ifExp (pt_cmpR op_isN (pv 5) pe_non (nomark _)) pe_str (pe_callDG D_law_kind gd hr (by decide) pass0 (pa_cons (pv 5) pa_nil)))))))), ?_⟩
    refine ⟨_, rfl, _, rfl, by show 2 ≤ sizeLine; decide, fun p np => ?_⟩
    generalize e1 : upd _ p _ = H1
    have S1 : Same H H1 := by rw [← e1]; exact same1 np
    have kp : H1 p = some (.lst [v2, v3]) := by rw [← e1]; exact upd_same
    obtain ⟨r1, r2, r3, r4⟩ := (hp.same S1).rp kp
    refine ⟨_, _, rfl, r1, r2, r3, r4, _, _, rfl, ?_⟩
    refine ⟨_, rfl, _, rfl, _, rfl, _, rfl, n, v1, v2, v3, rfl, hn, is, sysK_same S1 hk, fun his H2 S2 => ?_, fun his => ?_⟩
    · refine ⟨true, EF.exm 6 (by decide), fun _ a na => ?_, fun q => nomatch q⟩
      generalize e3 : upd _ a _ = H3
      have S3 : Same H2 H3 := by rw [← e3]; exact same1 na
      have h3 : H3 a = some (ExT (.ref (E 6)) none a) := by rw [← e3]; exact upd_same
      refine ⟨_, rfl, ?_⟩
      refine ⟨_, rfl, _, rfl, by show 2 ≤ sizeLine; decide, fun p2 np2 => ?_⟩
      generalize e4 : upd _ p2 _ = H4
      have S4 : Same H3 H4 := by rw [← e4]; exact same1 np2
      have kp2 : H4 p2 = some (.lst [v2, v3]) := by rw [← e4]; exact upd_same
      have SS := S1.trans (S2.trans (S3.trans S4))
      obtain ⟨t1, t2, t3, t4⟩ := (hp.same SS).rp kp2
      refine ⟨_, _, rfl, t1, t2, t3, t4, _, rfl, rfl, _, rfl, ?_⟩
      rw [ne_str]
      refine iteF ?_
      refine ⟨_, rfl, rfl, _, rfl, iteF ⟨_, rfl, a, 6, .none, rfl, ⟨by decide, .inl (S4 _ _ h3), fun h => absurd h (by decide)⟩, by decide, fun H5 S5 => ?_⟩⟩
      rw [show kw 6 ++ Str.ofString "" = Str.ofString "system" from by decide +kernel]
      exact q6 his H5 (SS.trans S5)
    obtain ⟨x, bo, zs, j2, j3, ex, R, hl, k2, k3, q8, q9, q0, q4⟩ := ht his
    refine ⟨x, bo, zs, j2, j3, ex, R.same S1, hl, jr_same S1 _ k2, jr_same S1 _ k3, fun h4 hs H2 S2 => ?_, fun h4 hs H2 S2 => ?_, fun h4 b e g1 g2 g3 g4 g5 H2 S2 => ?_, fun h4 s g1 H2 S2 => ?_⟩
    · refine ⟨true, EF.exm 8 (by decide), fun _ a na => ?_, fun q => nomatch q⟩
      generalize e3 : upd _ a _ = H3
      have S3 : Same H2 H3 := by rw [← e3]; exact same1 na
      have h3 : H3 a = some (ExT (.ref (E 8)) none a) := by rw [← e3]; exact upd_same
      refine ⟨_, rfl, ?_⟩
      refine ⟨_, rfl, _, rfl, by show 2 ≤ sizeLine; decide, fun p2 np2 => ?_⟩
      generalize e4 : upd _ p2 _ = H4
      have S4 : Same H3 H4 := by rw [← e4]; exact same1 np2
      have kp2 : H4 p2 = some (.lst [v2, v3]) := by rw [← e4]; exact upd_same
      have SS := S1.trans (S2.trans (S3.trans S4))
      obtain ⟨t1, t2, t3, t4⟩ := (hp.same SS).rp kp2
      refine ⟨_, _, rfl, t1, t2, t3, t4, _, rfl, rfl, _, rfl, ?_⟩
      rw [ne_str]
      refine iteF ?_
      refine ⟨_, rfl, rfl, _, rfl, iteF ⟨_, rfl, a, 8, .none, rfl, ⟨by decide, .inl (S4 _ _ h3), fun h => absurd h (by decide)⟩, by decide, fun H5 S5 => ?_⟩⟩
      rw [show kw 8 ++ Str.ofString "" = Str.ofString "span" from by decide +kernel]
      exact q8 h4 hs H5 (SS.trans S5)
    · refine ⟨true, EF.exm 9 (by decide), fun _ a na => ?_, fun q => nomatch q⟩
      generalize e3 : upd _ a _ = H3
      have S3 : Same H2 H3 := by rw [← e3]; exact same1 na
      have h3 : H3 a = some (ExT (.ref (E 9)) none a) := by rw [← e3]; exact upd_same
      refine ⟨_, rfl, ?_⟩
      refine ⟨_, rfl, _, rfl, by show 2 ≤ sizeLine; decide, fun p2 np2 => ?_⟩
      generalize e4 : upd _ p2 _ = H4
      have S4 : Same H3 H4 := by rw [← e4]; exact same1 np2
      have kp2 : H4 p2 = some (.lst [v2, v3]) := by rw [← e4]; exact upd_same
      have SS := S1.trans (S2.trans (S3.trans S4))
      obtain ⟨t1, t2, t3, t4⟩ := (hp.same SS).rp kp2
      refine ⟨_, _, rfl, t1, t2, t3, t4, _, rfl, rfl, _, rfl, ?_⟩
      rw [ne_str]
      refine iteF ?_
      refine ⟨_, rfl, rfl, _, rfl, iteF ⟨_, rfl, a, 9, .none, rfl, ⟨by decide, .inl (S4 _ _ h3), fun h => absurd h (by decide)⟩, by decide, fun H5 S5 => ?_⟩⟩
      rw [show kw 9 ++ Str.ofString "" = Str.ofString "number" from by decide +kernel]
      exact q9 h4 hs H5 (SS.trans S5)
    · refine ⟨_, rfl, _, rfl, by show 2 ≤ sizeLine; decide, fun p2 np2 => ?_⟩
      generalize e4 : upd _ p2 _ = H4
      have S4 : Same H2 H4 := by rw [← e4]; exact same1 np2
      have kp2 : H4 p2 = some (.lst [v2, v3]) := by rw [← e4]; exact upd_same
      have SS := S1.trans (S2.trans S4)
      obtain ⟨t1, t2, t3, t4⟩ := (hp.same SS).rp kp2
      refine ⟨_, _, rfl, t1, t2, t3, t4, _, rfl, rfl, _, rfl, ?_⟩
      rw [ne_str]
      refine iteF ?_
      refine ⟨_, rfl, rfl, _, rfl, iteT ?_⟩
      exact q0 h4 b e g1 g2 g3 g4 g5 H4 SS
    · refine ⟨_, rfl, _, rfl, by show 2 ≤ sizeLine; decide, fun p2 np2 => ?_⟩
      generalize e4 : upd _ p2 _ = H4
      have S4 : Same H2 H4 := by rw [← e4]; exact same1 np2
      have kp2 : H4 p2 = some (.lst [v2, v3]) := by rw [← e4]; exact upd_same
      have SS := S1.trans (S2.trans S4)
      obtain ⟨t1, t2, t3, t4⟩ := (hp.same SS).rp kp2
      refine ⟨_, _, rfl, t1, t2, t3, t4, _, rfl, rfl, _, rfl, ?_⟩
      rw [ne_str]
      refine iteF ?_
      refine ⟨_, rfl, rfl, _, rfl, iteT ?_⟩
      exact q4 h4 s g1 H4 SS
end
end Fb
set_option maxHeartbeats 4000000
namespace Fb
open PySem PySem.Spec PyProof.Rows L2
theorem dp_newI {K : PySem.W.Frag} {H : Hp} {l : Addr} {ns : List Int} (h : H l = some (.lst (ns.map V.int))) : Dp K H (.ref l) (.list (ns.map .int)) := .lst (SqL.of h) (dpAll_ints _)
/-- turns of a walk, whatever is done at each -/
theorem turns {J : It} {n : Nat} {G : Hp → Prop} {Y : Nat → Hp → V → Hp → Prop} (w : Walk J n G Y) {body : V → Hp → (Hp → Prop) → Prop} {H0 : Hp} {Qd : Hp → Prop} (Pv : Nat → Hp → Prop) (h0 : Pv 0 H0) (hG : ∀ i H, i ≤ n → Pv i H → G H)
    (hs : ∀ i x H H', i < n → Pv i H → Y i H x H' → body x H' (Pv (i + 1))) (hd : ∀ H, Pv n H → Qd H) :
    ∃ W : Nat → Nat → Hp → Prop, (∃ m, W 0 m H0) ∧ ∀ i m H, W i m H →
      (J.stop i H ∧ Qd H) ∨ (J.go i H ∧ ∃ Nx : Hp → Prop, (∀ H', Nx H' → ∃ m', m' < m ∧ W (i + 1) m' H') ∧ ∀ x H', J.yld i H x H' → body x H' Nx) := by
  refine ⟨fun i m H => m = n - i ∧ i ≤ n ∧ Pv i H, ⟨n, by simp, Nat.zero_le _, h0⟩, ?_⟩
  rintro i m H ⟨rfl, hi, p⟩
  have q := hG i H hi p
  by_cases hlt : i < n
  · refine .inr ⟨w.goes i H hlt q, Pv (i + 1), fun H' p' => ⟨n - (i + 1), by omega, rfl, hlt, p'⟩, fun x H' y => hs i x H H' hlt p (w.yields i H x H' hlt q y)⟩
  · have e : i = n := by omega
    subst e
    exact .inl ⟨w.stops H q, hd H p⟩
section
variable {P : Program} {w : World} {K : PySem.W.Frag} {mg : Str → Option Value} {base : Heap}
theorem sc_System_touching : FnScope nm_System_touching ["self", "touch"] (defScope s_System_touching) := ⟨rfl, rfl, rfl, by decide +kernel, rfl, by decide +kernel, by decide +kernel⟩
theorem sc_System_neighbours : FnScope nm_System_neighbours ["self", "unknown"] (defScope s_System_neighbours) := ⟨rfl, rfl, rfl, by decide +kernel, rfl, by decide +kernel, by decide +kernel⟩
/-- where a border unknown is coupled: the first unknowns and the lengths -/
def spansF (told : List Zn) (n : Int) (t : Int) : List (Int × Int) := match told with
  | [] => []
  | z :: zs => if z.t.contains t = true then (n, z.c) :: spansF zs (n + z.c) t else spansF zs (n + z.c) t
def flatF (l : List (Int × Int)) : List Int := l.flatMap fun p => (List.range p.2.toNat).map fun (j : Nat) => p.1 + (j : Int)
def pd (p : Int × Int) : PyData := .tuple [.int p.1, .int p.2]
theorem imm_pds (l : List (Int × Int)) : immAll (l.map pd) = true := immAll_of fun d hd => by
  obtain ⟨p, _, rfl⟩ := List.mem_map.mp hd
  rfl
theorem spansF_snoc (t : Int) (z : Zn) : ∀ (l : List Zn) (n : Int), spansF (l ++ [z]) n t = spansF l n t ++ (if z.t.contains t = true then [(n + len l, z.c)] else [])
  | [], n => by
    show (if z.t.contains t = true then (n, z.c) :: spansF [] (n + z.c) t else spansF [] (n + z.c) t) = _
    have e : n + len [] = n := by
      show n + 0 = n
      omega
    rw [e]
    split <;> rfl
  | y :: l, n => by
    show (if y.t.contains t = true then (n, y.c) :: spansF (l ++ [z]) (n + y.c) t else spansF (l ++ [z]) (n + y.c) t) = (if y.t.contains t = true then (n, y.c) :: spansF l (n + y.c) t else spansF l (n + y.c) t) ++ _
    rw [spansF_snoc t z l (n + y.c), len_cons, Int.add_assoc]
    split <;> rfl
theorem spansF_len (t : Int) : ∀ (l : List Zn) (n : Int), (spansF l n t).length ≤ l.length
  | [], _ => Nat.le_refl _
  | y :: l, n => by
    unfold spansF
    have := spansF_len t l (n + y.c)
    split
    · rw [List.length_cons, List.length_cons]
      omega
    · rw [List.length_cons]
      omega
/-- a new list of integers -/
def givesN (H : Hp) (ns : List Int) (Q : VK) : Prop := ∀ H' p, Same H H' → H p = none → H' p = some (.lst (ns.map V.int)) → Q (.ref p) H'
theorem same_none {H H' : Hp} {p : Addr} (S : Same H H') (n : H' p = none) : H p = none := by
  cases e : H p with
  | none => rfl
  | some o => rw [S _ _ e] at n; cases n
def spTouching (K : PySem.W.Frag) (C : Cs) (CL : Addr) : Sp := fun vs H Q E => ∃ (x : Addr) (b : Nat) (zs : List Zn) (t : Int), vs = [.ref x, .int t] ∧ SysR K C H x b zs ∧
  (1000 < ((spansF (toldZ zs) 0 t).map (·.2)).sum → Err CL "limit" (.int 1000) H E) ∧ (((spansF (toldZ zs) 0 t).map (·.2)).sum ≤ 1000 → givesN H (flatF (spansF (toldZ zs) 0 t)) Q)
theorem ok_touching {f CL : Addr} {C : Cs} {fd : FuncData} (F : Fun K "_touching" "System._touching" s_System_touching f fd) (bt : Bt mg bn) (A : NoA K C) (g_MOST_LISTED : GInt mg "MOST_LISTED" 1000) (X_TooLarge : DErrF P K mg "TooLarge" "limit" CL) :
    FnOk P w K mg base (L2.CX P w) 1 f fd ["self", "touch"] (spTouching K C CL) := by
  refine F.okX sc_System_touching (fun vs H Q E h => ?_) (fun cdv AA outer s H vs Q E hr h => ?_)
  · obtain ⟨x, b, zs, t, rfl, _⟩ := h
    rfl
  · obtain ⟨x, b, zs, t, rfl, R, qe, q⟩ := h
    obtain ⟨dx, a1, a2, bg, e, g, hx, _, ht, hbg, _⟩ := R.ex
    have tok := R.ok.told (by have := R.n; omega)
    refine ⟨_, (pss_cons (ps_setLc (i := 2) (own := [("begin", 3), ("zone", 4)]) (g := (gTup K 2 (gCons (gName 3) (gCons (gName 4) gNil)))) rfl sc_System_touching.nd rfl rfl rfl (pi_zip (by rfl) (bt "zip" (by decide)) (pa_cons (pe_fld (pv 0) rfl) (pa_cons (pe_fld (pv 0) rfl) pa_nil))) (blkOk_by (N := nm_System_touching) (sc := defScope s_System_touching) (by decide +kernel)) (fun _ _ _ _ _ => (pg_tup rfl (pgs_cons (pg_name (i := 3) sc_System_touching.nd rfl (.inl rfl)) (pgs_cons (pg_name (i := 4) sc_System_touching.nd rfl (.inl rfl)) pgs_nil)))) (fun _ _ _ _ _ => (pts_one (pt_cmpR (r := rIn K false) op_in_seq (pv 1) (pe_ix (r := rIxT K) ix_tup (pv 4) pe_int (fun _ _ => rfl)) (by rfl)))) (fun _ _ _ _ _ => (pe_tup (pa_cons (pv 3) (pa_cons (pe_ix (r := rIxT K) ix_tup (pv 4) pe_int (fun _ _ => rfl)) pa_nil)))))
      (pss_cons (ps_if (pt_cmpR op_gt (pe_callB (r := rSum K) (cr_sum rfl) (by rfl) (bt "sum" (by decide)) PyProof.Rows.boot_sum (pa_cons (pe_lc (own := [("_", 7), ("count", 5)]) (tt := tYes) (g := (gTup K 2 (gCons (gName 7) (gCons (gName 5) gNil)))) rfl sc_System_touching.nd (pi_list (pv 2)) (blkOk_by (N := nm_System_touching) (sc := defScope s_System_touching) (by decide +kernel)) (fun _ _ _ _ _ => (pg_tup rfl (pgs_cons (pg_name (i := 7) sc_System_touching.nd rfl (.inl rfl)) (pgs_cons (pg_name (i := 5) sc_System_touching.nd rfl (.inl rfl)) pgs_nil)))) (fun _ _ _ _ _ => pts_nil) (fun _ _ _ _ _ => (pv 5))) pa_nil)) (pe_globI (n := (1000)) g_MOST_LISTED) (nomark _))
        (pss_one (ps_raise rfl (takes_of rfl rfl rfl rfl) (pmk_fldD X_TooLarge hr (pe_globI (n := (1000)) g_MOST_LISTED))))
        pss_nil)
      (pss_one (ps_ret (pe_lc2 (own := [("begin", 3), ("count", 5), ("unknown", 6)]) (vs1 := [6]) (tt := tYes) (tt1 := tYes) (g := (gTup K 2 (gCons (gName 3) (gCons (gName 5) gNil)))) (g1 := (gName 6)) rfl sc_System_touching.nd (pi_list (pv 2)) (blkOk_by (N := nm_System_touching) (sc := defScope s_System_touching) (by decide +kernel)) (by decide) (fun _ _ _ _ _ => (pg_tup rfl (pgs_cons (pg_name (i := 3) sc_System_touching.nd rfl (.inl rfl)) (pgs_cons (pg_name (i := 5) sc_System_touching.nd rfl (.inl rfl)) pgs_nil)))) (fun _ _ _ _ _ => pts_nil) (fun _ _ _ _ _ => (pi_range2L (by rfl) (bt "range" (by decide)) (pa_cons (pv 3) (pa_cons (pe_op op_add (pv 3) (pv 5)) pa_nil)))) (fun _ _ _ _ _ => (pg_name (i := 6) sc_System_touching.nd rfl (.inl rfl))) (fun _ _ _ _ _ => pts_nil) (fun _ _ _ _ _ => (pv 6))))))), ?_⟩
    obtain ⟨ta, xs, eta, hs, ha⟩ := dp_lst ht
    cases eta
    obtain ⟨ba, bx, eba, hbs, hba⟩ := dp_lst hbg
    cases eba
    have eb := ints_of_dpAll hba
    subst eb
    have lx := dpAll_len ha
    rw [List.length_map] at lx
    generalize hts0 : toldZ zs = ts at *
    have nl : ts.length = min ((beginsZ 0 (ts.map (·.c))).map V.int).length xs.length := by
      rw [List.length_map, beginsZ_len, List.length_map, lx]
      omega
    have tn := tok.n
    refine ⟨_, rfl, x, C.sys, dx, _, _, rfl, hx, A.c, A.n4, rfl, _, rfl, x, C.sys, dx, _, _, rfl, hx, A.c, A.n3, rfl, bg, a2, _, xs, rfl, hbs, hs, fun D nD => ?_⟩
    refine lc_it (walk_zip (K := K) (a := bg) (b := a2) (xs := (beginsZ 0 (ts.map (·.c))).map V.int) (ys := xs) nl) (fun i H' => Same H H' ∧ ∃ ys, H' D = some (.lst ys) ∧ DpAll K H' ys ((spansF (ts.take i) 0 t).map pd)) ⟨same1 nD, [], upd_same, .nil⟩ (fun i H3 _ h => ⟨h.1.seq hbs, h.1.seq hs⟩) ?_ ?_
    · rintro i v H1 H2 hi ⟨S, ys, hD, hy⟩ ⟨T, x1, y1, rfl, nT, rfl, e1, e2⟩
      obtain ⟨beg, hbeg, rfl⟩ := ints_get e1
      obtain ⟨d, hd1, hd2⟩ := dpAll_getV ha e2
      obtain ⟨z, hz, rfl⟩ := map_getV hd1
      have hbl : beg = 0 + len (ts.take i) := by
        rw [beginsZ_get _ _ _ (by rw [List.length_map]; exact hi)] at hbeg
        have := Option.some.inj hbeg
        unfold len
        rw [← this, List.map_take]
      have ST : Same H1 (upd H1 T (.tup [V.int beg, y1])) := same1 nT
      have hT : (upd H1 T (.tup [V.int beg, y1])) T = some (.tup [V.int beg, y1]) := upd_same
      generalize upd H1 T (.tup [V.int beg, y1]) = H2 at ST hT ⊢
      have S2 := S.trans ST
      obtain ⟨zb, o, tt, rfl, hzb, hzo, hzt⟩ := zdK_inv (dp_same S2 _ hd2)
      obtain ⟨tta, tts, rfl, htt, httA⟩ := dp_tup hzt
      have htt := dp_ints htt httA
      refine ⟨T, _, rfl, .inl (.inl hT), rfl, _, _, rfl, _, _, rfl, rfl, rfl, ?_⟩
      refine ⟨_, rfl, _, rfl, zb, _, 2, _, rfl, rfl, hzb, atI_nat (j := 2) rfl, tta, _, rfl, .inr htt, rfl, flat_ints _, _, rfl, ?_⟩
      rw [if_neg Bool.false_ne_true, inV_ints]
      have sn := spansF_snoc t z (ts.take i) 0
      rw [← take_snoc hz, ← hbl] at sn
      refine ite2 (fun hc => ?_) (fun hc => ?_)
      · rw [if_pos hc] at sn
        have ly := dpAll_len hy
        have l2 := spansF_len t (ts.take i) 0
        rw [List.length_map] at ly
        rw [List.length_take] at l2
        refine ⟨_, rfl, _, rfl, zb, _, 0, _, rfl, rfl, hzb, atI_nat (j := 0) rfl, by show 2 ≤ sizeLine; decide, fun p np => ?_⟩
        have S3 : Same H2 (upd H2 p (.tup [V.int beg, .int z.c])) := same1 np
        have e3 : (upd H2 p (.tup [V.int beg, .int z.c])) p = some (.tup [V.int beg, .int z.c]) := upd_same
        generalize upd H2 p (.tup [V.int beg, .int z.c]) = H3 at S3 e3 ⊢
        have hD3 := S3 _ _ (ST _ _ hD)
        refine ⟨ys, hD3, small (by omega), same_lst nD (S2.trans S3) hD3, _, upd_same, ?_⟩
        rw [sn, List.map_append]
        refine dpAll_append (dpAll_imm (ts_lst hD3) _ (imm_pds _) (dpAll_same (ST.trans S3) _ hy)) (.cons (dp_imm (ts_lst hD3) (pd (beg, z.c)) rfl ?_) .nil)
        exact .tup (.inl (.inl e3)) (.cons (.int _) (.cons (.int _) .nil))
      · rw [if_neg hc, List.append_nil] at sn
        refine ⟨S2, ys, ST _ _ hD, ?_⟩
        rw [sn]
        exact dpAll_same ST _ hy
    · rintro H1 ⟨S, ys, hD, hy⟩
      rw [List.take_length] at hy
      have ly := dpAll_len hy
      have l2 := spansF_len t ts 0
      rw [List.length_map] at ly
      generalize hsp : spansF ts 0 t = sp at *
      -- the sum
      refine ⟨_, rfl, D, rfl, ⟨_, SqL.of hD⟩, fun D2 nD2 => ?_⟩
      refine lc_list (xs := ys) (fun i H' => Same H1 H' ∧ H' D2 = some (.lst (((sp.take i).map (·.2)).map V.int))) ⟨same1 nD2, upd_same⟩ (fun i H' _ h => h.1.seq (SqL.of hD)) ?_ ?_
      · rintro i v H2 hi ⟨S2, hD2⟩
        obtain ⟨d, hd1, hd2⟩ := dpAll_getV hy hi
        rw [List.getElem?_map] at hd1
        obtain ⟨p, hp, rfl⟩ : ∃ p, sp[i]? = some p ∧ d = pd p := by
          cases e : sp[i]? with
          | none => rw [e] at hd1; cases hd1
          | some p => rw [e] at hd1; exact ⟨p, rfl, (Option.some.inj hd1).symm⟩
        obtain ⟨q0, ws, rfl, hq0, hws⟩ := dp_tup (dp_same S2 _ hd2)
        cases hws with
        | cons g1 hws =>
        cases hws with
        | cons g2 hws =>
        cases hws
        cases g1
        cases g2
        refine ⟨q0, _, rfl, hq0, rfl, _, _, rfl, _, _, rfl, rfl, rfl, ?_⟩
        refine ⟨_, rfl, _, hD2, small (by rw [List.length_map, List.length_map, List.length_take]; omega), same_lst nD2 S2 hD2, ?_⟩
        rw [upd_same, take_snoc hp, List.map_append, List.map_append]
        rfl
      · rintro H2 ⟨S2, hD2⟩
        rw [ly, List.take_length] at hD2
        refine ⟨D2, _, rfl, SqL.of hD2, _, _, rfl, rfl, _, rfl, ite2 (fun hgt => ?_) (fun hgt => ?_)⟩
        · exact ⟨.inr ⟨1000, rfl, by decide⟩, fun d nd => qe (of_decide_eq_true hgt) _ d ((S.trans S2).trans (same1 nd)) upd_same⟩
        · have hle := of_decide_eq_false (Bool.eq_false_iff.mpr hgt)
          have q := q (by omega)
          have hpos : ∀ p ∈ sp, 1 ≤ p.2 := by
            intro p hp
            have key : ∀ (l : List Zn) (n : Int), (∀ z ∈ l, 1 ≤ z.c) → ∀ p ∈ spansF l n t, 1 ≤ p.2 := by
              intro l
              induction l with
              | nil => intro n _ p hp; cases hp
              | cons y l ih =>
                intro n hl p hp
                unfold spansF at hp
                split at hp
                · rcases List.mem_cons.mp hp with e | e
                  · rw [e]
                    exact hl y (.head _)
                  · exact ih _ (fun z hz => hl z (.tail _ hz)) p e
                · exact ih _ (fun z hz => hl z (.tail _ hz)) p hp
            rw [← hsp] at hp
            exact key ts 0 tok.c p hp
          have flen : ∀ l : List (Int × Int), (∀ p ∈ l, 1 ≤ p.2) → (flatF l).length ≤ (l.map fun p : Int × Int => p.2).sum.toNat ∧ 0 ≤ (l.map fun p : Int × Int => p.2).sum := by
            intro l
            induction l with
            | nil => intro _; exact ⟨Nat.le_refl _, Int.le_refl _⟩
            | cons p l ih =>
              intro h
              obtain ⟨i1, i2⟩ := ih fun y hy => h y (.tail _ hy)
              have hp := h p (.head _)
              have e : flatF (p :: l) = ((List.range p.2.toNat).map fun (j : Nat) => p.1 + (j : Int)) ++ flatF l := rfl
              rw [e, List.length_append, List.length_map, List.length_range, List.map_cons, List.sum_cons]
              omega
          have fall := (flen sp hpos)
          refine ⟨_, rfl, D, rfl, ⟨_, SqL.of (S2 _ _ hD)⟩, fun D3 nD3 => ?_⟩
          refine turns (walk_list (K := K) (a := D) (xs := ys)) (fun i H' => Same H2 H' ∧ H' D3 = some (.lst ((flatF (sp.take i)).map V.int))) ⟨same1 nD3, upd_same⟩ (fun i H' _ h => h.1.seq (SqL.of (S2 _ _ hD))) ?_ ?_
          · rintro i v H3 H4 hi ⟨S3, hD3⟩ ⟨rfl, hv⟩
            obtain ⟨d, hd1, hd2⟩ := dpAll_getV hy hv
            rw [List.getElem?_map] at hd1
            obtain ⟨p, hp, rfl⟩ : ∃ p, sp[i]? = some p ∧ d = pd p := by
              cases e : sp[i]? with
              | none => rw [e] at hd1; cases hd1
              | some p => rw [e] at hd1; exact ⟨p, rfl, (Option.some.inj hd1).symm⟩
            obtain ⟨q0, ws, rfl, hq0, hws⟩ := dp_tup (dp_same (S2.trans S3) _ hd2)
            cases hws with
            | cons g1 hws =>
            cases hws with
            | cons g2 hws =>
            cases hws
            cases g1
            cases g2
            have ftake : flatF (sp.take (i + 1)) = flatF (sp.take i) ++ ((List.range p.2.toNat).map fun (j : Nat) => p.1 + (j : Int)) := by
              rw [take_snoc hp]
              unfold flatF
              rw [List.flatMap_append]
              show _ ++ (_ ++ []) = _
              rw [List.append_nil]
            have fle : (flatF (sp.take (i + 1))).length ≤ 1000 := by
              have h1 := flen (sp.take (i + 1)) fun y hy => hpos y (List.mem_of_mem_take hy)
              have h2 := flen (sp.drop (i + 1)) fun y hy => hpos y (List.mem_of_mem_drop hy)
              have h3 : (sp.map (·.2)).sum = ((sp.take (i + 1)).map (·.2)).sum + ((sp.drop (i + 1)).map (·.2)).sum := by
                conv => lhs; rw [← List.take_append_drop (i + 1) sp]
                rw [List.map_append, List.sum_append]
              omega
            rw [ftake, List.length_append, List.length_map, List.length_range] at fle
            refine ⟨q0, _, rfl, hq0, rfl, _, _, rfl, _, _, rfl, rfl, rfl, ?_⟩
            have en : (p.1 + p.2 - p.1).toNat = p.2.toNat := by
              congr 1
              omega
            refine ⟨_, rfl, _, rfl, _, rfl, _, _, rfl, rfl, _, _, rfl, turns (walk_range (lo := p.1) (n := (p.1 + p.2 - p.1).toNat)) (fun j H' => Same H2 H' ∧ H' D3 = some (.lst ((flatF (sp.take i) ++ ((List.range j).map fun (j : Nat) => p.1 + (j : Int))).map V.int)))
              ⟨S3, by rw [hD3]; simp⟩ (fun _ _ _ _ => trivial) ?_ ?_⟩
            · rintro j y H5 H6 hj ⟨S5, hD5⟩ ⟨rfl, rfl⟩
              refine ⟨rfl, _, rfl, _, hD5, small (by
                rw [List.length_map, List.length_append, List.length_map, List.length_range]
                rw [en] at hj
                omega), same_lst nD3 S5 hD5, ?_⟩
              rw [upd_same, List.range_succ]
              simp only [List.map_append, List.append_assoc]
              rfl
            · rintro H5 ⟨S5, hD5⟩
              rw [en, ← ftake] at hD5
              exact ⟨S5, hD5⟩
          · rintro H3 ⟨S3, hD3⟩
            rw [ly, List.take_length] at hD3
            exact q H3 _ ((S.trans S2).trans S3) (same_none (S.trans S2) nD3) hD3
end
end Fb
namespace Fb
open PySem PySem.Spec PyProof.Rows L2
section
variable {P : Program} {w : World} {K : PySem.W.Frag} {mg : Str → Option Value} {base : Heap}
def lowF (u : Int) : Int := if u - 16 > 0 then u - 16 else 0
def nearF (told : List Zn) (n u : Int) : List Int := ((List.range (u - lowF u).toNat).map fun (j : Nat) => lowF u + (j : Int)).filter fun l => coupF told n l u
def neighF (told : List Zn) (n u : Int) : List Int := nearF told n u ++ ((zoneOf told u).o.map fun d => u + d) ++ (zoneOf told u).t.map fun t => n + t
def spNeigh (K : PySem.W.Frag) (C : Cs) (CU CL : Addr) : Sp := fun vs H Q E => ∃ (x : Addr) (b : Nat) (zs : List Zn) (v : V) (j : J), vs = [.ref x, v] ∧ SysR K C H x b zs ∧ Jr K H v j ∧
  (within j 0 (len zs + (b : Int) - 1) = false → ∀ H', Same H H' → E (.ref CU) none H') ∧
  ∀ u, j = .int u → 0 ≤ u → u < len zs + (b : Int) →
    (len zs ≤ u → (1000 < ((spansF (toldZ zs) 0 (u - len zs)).map (·.2)).sum → Err CL "limit" (.int 1000) H E) ∧ (((spansF (toldZ zs) 0 (u - len zs)).map (·.2)).sum ≤ 1000 → givesN H (flatF (spansF (toldZ zs) 0 (u - len zs))) Q)) ∧
    (u < len zs → givesN H (neighF (toldZ zs) (len zs) u) Q)
theorem ok_neighbours {f CU CL : Addr} {C : Cs} {fd : FuncData} (F : Fun K "neighbours" "System.neighbours" s_System_neighbours f fd) (bt : Bt mg bn) (A : NoA K C) (g_MOST_OFFSET : GInt mg "MOST_OFFSET" 16)
    (D_check_unknown : Def P w K mg base (L2.CX P w) 3 "check_unknown" ["value", "number"] (spUnknown K CU)) (D_standing_at : Def P w K mg base CX0 1 "standing_at" ["begins", "unknown"] (spStanding K))
    (P_unknowns : DProp P w K mg base CX0 1 C.sys "unknowns" (spUnknowns K C)) (M_is_coupled : DMeth P w K mg base CX0 2 C.sys "_is_coupled" ["self", "low", "high"] (spCoupled0 K C)) (M_touching : DMeth P w K mg base (L2.CX P w) 1 C.sys "_touching" ["self", "touch"] (spTouching K C CL)) :
    FnOk P w K mg base (L2.CX P w) 4 f fd ["self", "unknown"] (spNeigh K C CU CL) := by
  refine F.okX sc_System_neighbours (fun vs H Q E h => ?_) (fun cdv AA outer s H vs Q E hr h => ?_)
  · obtain ⟨x, b, zs, v, j, rfl, _⟩ := h
    rfl
  · obtain ⟨x, b, zs, v, j, rfl, R, hj, qe, q⟩ := h
    have lg := sys_log R
    obtain ⟨dx, a1, a2, bg, e, g, hx, _, ht, hbg, _⟩ := R.ex
    refine ⟨_, (pss_cons (ps_expr (pe_callD D_check_unknown hr (by decide) (passes_call (takes_of rfl rfl rfl rfl) (fun _ _ _ _ h => h)) (pa_cons (pv 1) (pa_cons (pe_propD P_unknowns hr (by decide) pass0 (pv 0)) pa_nil))))
      (pss_cons (ps_if (pt_cmpR op_ge (pv 1) (pe_fld (pv 0) rfl) (nomark _))
        (pss_one (ps_ret (pe_methD M_touching hr (by decide) (passes_call (takes_of rfl rfl rfl rfl) (fun _ _ _ _ h => h)) (pv 0) (pa_cons (pe_op op_sub (pv 1) (pe_fld (pv 0) rfl)) pa_nil))))
        pss_nil)
      (pss_cons (ps_asg (pe_ix (r := rIxL K) ix_list (pe_fld (pv 0) rfl) (pe_callD D_standing_at hr (by decide) pass0 (pa_cons (pe_fld (pv 0) rfl) (pa_cons (pv 1) pa_nil))) (fun _ _ => rfl)) (pg_tup rfl (pgs_cons (pg_name (i := 2) sc_System_neighbours.nd rfl (.inl rfl)) (pgs_cons (pg_name (i := 3) sc_System_neighbours.nd rfl (.inl rfl)) (pgs_cons (pg_name (i := 4) sc_System_neighbours.nd rfl (.inl rfl)) pgs_nil)))))
      (pss_cons (ps_set (i := 5) sc_System_neighbours.nd rfl (.inl rfl) (pe_callTy cr_range2 (by rfl) (bt "range" (by decide)) PyProof.Rows.boot_range (pa_cons (pe_callB (call_max2 rfl) (by rfl) (bt "max" (by decide)) PyProof.Rows.boot_max (pa_cons pe_int (pa_cons (pe_op op_sub (pv 1) (pe_globI (n := (16)) g_MOST_OFFSET)) pa_nil))) (pa_cons (pv 1) pa_nil))))
      (pss_cons (ps_setLc (i := 6) (own := [("low", 8)]) (tt := tB (tMeth C.sys "_is_coupled" (spCoupled0 K C) [] E0 (tVar 0) (tCons (tVar 8) (tCons (tVar 1) tNil)))) (g := (gName 8)) rfl sc_System_neighbours.nd rfl rfl rfl (pi_rngV (pv 5)) (blkOk_by (N := nm_System_neighbours) (sc := defScope s_System_neighbours) (by decide +kernel)) (fun _ _ _ _ _ => (pg_name (i := 8) sc_System_neighbours.nd rfl (.inl rfl))) (fun _ _ _ _ _ => (pts_one (pt_val (pe_methD M_is_coupled hr (by decide) pass0 (pv 0) (pa_cons (pv 8) (pa_cons (pv 1) pa_nil)))))) (fun _ _ _ _ _ => (pv 8)))
      (pss_cons (ps_setLc (i := 7) (own := [("offset", 9)]) (tt := tYes) (g := (gName 9)) rfl sc_System_neighbours.nd rfl rfl rfl (pi_tup (pv 3)) (blkOk_by (N := nm_System_neighbours) (sc := defScope s_System_neighbours) (by decide +kernel)) (fun _ _ _ _ _ => (pg_name (i := 9) sc_System_neighbours.nd rfl (.inl rfl))) (fun _ _ _ _ _ => pts_nil) (fun _ _ _ _ _ => (pe_op op_add (pv 1) (pv 9))))
      (pss_one (ps_ret (pe_op op_cat (pe_op op_cat (pv 6) (pv 7)) (pe_lc (own := [("touch", 10)]) (tt := tYes) (te := tOp (rI0 fun i j => V.int (i + j)) (tFld K (tVar 0) "_length") (tVar 10)) (g := (gName 10)) rfl sc_System_neighbours.nd (pi_tup (pv 4)) (blkOk_by (N := nm_System_neighbours) (sc := defScope s_System_neighbours) (by decide +kernel)) (fun _ _ _ _ _ => (pg_name (i := 10) sc_System_neighbours.nd rfl (.inl rfl))) (fun _ _ _ _ _ => pts_nil) (fun _ _ _ _ _ => (pe_op op_add (pe_fld (pv 0) rfl) (pv 10))))))))))))), ?_⟩
    refine ⟨_, rfl, _, rfl, x, dx, _, rfl, hx, x, b, zs, rfl, R, v, j, _, rfl, hj, lg, fun w1 => ?_, fun w1 => qe w1⟩
    obtain ⟨u, rfl, u0, u1⟩ := within_int w1
    cases hj
    obtain ⟨qt, qn⟩ := q u rfl u0 (by omega)
    refine ⟨_, rfl, _, rfl, x, C.sys, dx, _, _, rfl, hx, A.c, A.n5, rfl, _, _, rfl, rfl, _, rfl, ite2 (fun hge => ?_) (fun hge => ?_)⟩
    · have hge := of_decide_eq_true hge
      obtain ⟨qt1, qt2⟩ := qt hge
      exact ⟨_, rfl, x, dx, _, rfl, hx, rfl, _, rfl, _, rfl, x, C.sys, dx, _, _, rfl, hx, A.c, A.n5, rfl, _, _, rfl, rfl, x, b, zs, u - len zs, rfl, R, qt1, qt2⟩
    · have hge := of_decide_eq_false (Bool.eq_false_iff.mpr hge)
      have hlt : u < len zs := by omega
      have q := qn hlt
      have tok := R.ok.told (by have := R.n; omega)
      have hne : (beginsZ 0 ((toldZ zs).map (·.c))) ≠ [] := fun z => by
        have z2 := congrArg List.length z
        rw [beginsZ_len, List.length_map] at z2
        have z3 : toldZ zs = [] := List.eq_nil_of_length_eq_zero z2
        have z4 := told_sum zs fun y hy => by have := R.ok.c y hy; omega
        rw [z3] at z4
        have z5 : len [] = 0 := rfl
        omega
      obtain ⟨ta, ts, eta, hts, hta⟩ := dp_lst ht
      cases eta
      refine ⟨_, rfl, x, C.sys, dx, _, _, rfl, hx, A.c, A.n3, rfl, _, rfl, x, C.sys, dx, _, _, rfl, hx, A.c, A.n4, rfl, _, rfl, .ref bg, _, u, rfl, hbg, hne, fun r hst => ?_⟩
      have hz := stands_zone (toldZ zs) 0 u r tok.c u0 hst
      rw [Int.sub_zero] at hz
      have hzm := List.mem_of_getElem? hz
      have lo := tok.ol _ hzm
      have lt := tok.tl _ hzm
      obtain ⟨vz, hv, hdv⟩ := dpAll_get (i := r) (d := zdK (zoneOf (toldZ zs) u)) hta (by rw [List.getElem?_map, hz]; rfl)
      obtain ⟨zb, o, t, rfl, hzb, hzo, hzt⟩ := zdK_inv hdv
      obtain ⟨oa, os, rfl, hos, hosA⟩ := dp_tup hzo
      obtain ⟨ta', ts', rfl, hts', htsA⟩ := dp_tup hzt
      have hos := dp_ints hos hosA
      have hts' := dp_ints hts' htsA
      refine ⟨a2, _, _, _, rfl, rfl, hts, atI_nat hv, zb, _, rfl, hzb, rfl, _, _, rfl, _, _, rfl, _, _, rfl, rfl, ?_⟩
      have hq : neighF (toldZ zs) (len zs) u = nearF (toldZ zs) (len zs) u ++ ((zoneOf (toldZ zs) u).o.map fun d => u + d) ++ (zoneOf (toldZ zs) u).t.map fun t => len zs + t := rfl
      rw [hq] at q
      generalize zoneOf (toldZ zs) u = zz at *
      refine ⟨_, rfl, _, _, rfl, rfl, 0, u - 16, rfl, _, rfl, lowF u, u, rfl, fun p np => ?_⟩
      have Sp : Same H (upd H p (.rng (lowF u) u)) := same1 np
      have hp : (upd H p (.rng (lowF u) u)) p = some (.rng (lowF u) u) := upd_same
      generalize upd H p (.rng (lowF u) u) = H1 at Sp hp ⊢
      -- earlier
      have lw : 0 ≤ lowF u := by
        unfold lowF
        split <;> omega
      have lw2 : (u - lowF u).toNat ≤ 16 := by
        unfold lowF
        split <;> omega
      have nlen : ∀ i, (((List.range i).map fun (j : Nat) => lowF u + (j : Int)).filter fun l => coupF (toldZ zs) (len zs) l u).length ≤ i := fun i => by
        have h1 := List.length_filter_le (fun l => coupF (toldZ zs) (len zs) l u) ((List.range i).map fun (j : Nat) => lowF u + (j : Int))
        rw [List.length_map, List.length_range] at h1
        exact h1
      refine ⟨_, rfl, p, _, _, rfl, hp, fun D nD => ?_⟩
      refine lc_range (lo := lowF u) (n := (u - lowF u).toNat) (fun i H' => Same H1 H' ∧ H' D = some (.lst ((((List.range i).map fun (j : Nat) => lowF u + (j : Int)).filter fun l => coupF (toldZ zs) (len zs) l u).map V.int))) ⟨same1 nD, upd_same⟩ ?_ ?_
      · rintro i H' hi ⟨S', hD⟩
        have rs : (List.range (i + 1)).map (fun (j : Nat) => lowF u + (j : Int)) = (List.range i).map (fun (j : Nat) => lowF u + (j : Int)) ++ [lowF u + (i : Int)] := by
          rw [List.range_succ, List.map_append]
          rfl
        refine ⟨rfl, _, rfl, x, dx, _, rfl, S' _ _ (Sp _ _ hx), rfl, _, rfl, _, rfl, x, b, zs, _, _, rfl, R.same (Sp.trans S'), by omega, _, rfl, ?_⟩
        rw [rs, List.filter_append]
        refine ite2 (fun hc => ?_) (fun hc => ?_)
        · have e1 : List.filter (fun l => coupF (toldZ zs) (len zs) l u) [lowF u + (i : Int)] = [lowF u + (i : Int)] := List.filter_cons_of_pos hc
          rw [e1, List.map_append]
          exact ⟨_, rfl, _, hD, small (by
            rw [List.length_map]
            have := nlen i
            omega), same_lst nD S' hD, upd_same⟩
        · have e1 : List.filter (fun l => coupF (toldZ zs) (len zs) l u) [lowF u + (i : Int)] = [] := List.filter_cons_of_neg hc
          rw [e1, List.append_nil]
          exact ⟨S', hD⟩
      · rintro H2 ⟨S2, hD⟩
        have ne := nlen (u - lowF u).toNat
        have hn1 : ((List.range (u - lowF u).toNat).map fun (j : Nat) => lowF u + (j : Int)).filter (fun l => coupF (toldZ zs) (len zs) l u) = nearF (toldZ zs) (len zs) u := rfl
        rw [hn1] at hD ne
        generalize nearF (toldZ zs) (len zs) u = ns at *
        have S02 := Sp.trans S2
        -- later
        refine ⟨_, rfl, oa, rfl, ⟨_, SqT.ts S02.ts hos⟩, fun D2 nD2 => ?_⟩
        refine lc_tup (xs := zz.o.map V.int) (fun i H' => Same H2 H' ∧ H' D2 = some (.lst (((zz.o.take i).map fun d => u + d).map V.int))) ⟨same1 nD2, upd_same⟩ (fun i H' _ h => SqT.ts h.1.ts (SqT.ts S02.ts hos)) ?_ ?_
        · rintro i v H' hi ⟨S', hD2⟩
          obtain ⟨d, hd, rfl⟩ := ints_get hi
          refine ⟨rfl, ?_⟩
          refine ⟨_, rfl, _, rfl, _, _, rfl, rfl, _, hD2, small (by rw [List.length_map, List.length_map, List.length_take]; omega), same_lst nD2 S' hD2, ?_⟩
          rw [upd_same, take_snoc hd, List.map_append, List.map_append]
          rfl
        · rintro H3 ⟨S3, hD2⟩
          rw [List.length_map, List.take_length] at hD2
          have hD3 := S3 _ _ hD
          refine ⟨_, rfl, _, rfl, D, D2, _, _, rfl, rfl, hD3, hD2, ?_, fun p1 np1 => ?_⟩
          · rw [List.length_map, List.length_map, List.length_map]
            exact Nat.le_of_lt (small (by omega))
          · have S4 : Same H3 (upd H3 p1 (.lst (ns.map V.int ++ (zz.o.map fun d => u + d).map V.int))) := same1 np1
            have hp1 : (upd H3 p1 (.lst (ns.map V.int ++ (zz.o.map fun d => u + d).map V.int))) p1 = some (.lst ((ns ++ zz.o.map fun d => u + d).map V.int)) := by
              rw [upd_same, List.map_append]
            generalize upd H3 p1 (.lst (ns.map V.int ++ (zz.o.map fun d => u + d).map V.int)) = H4 at S4 hp1 ⊢
            have S04 := (S02.trans S3).trans S4
            refine ⟨_, rfl, ta', rfl, ⟨_, SqT.ts S04.ts hts'⟩, fun D3 nD3 => ?_⟩
            refine lc_tup (xs := zz.t.map V.int) (fun i H' => Same H4 H' ∧ H' D3 = some (.lst (((zz.t.take i).map fun t => len zs + t).map V.int))) ⟨same1 nD3, upd_same⟩ (fun i H' _ h => SqT.ts h.1.ts (SqT.ts S04.ts hts')) ?_ ?_
            · rintro i v H' hi ⟨S', hD3⟩
              obtain ⟨d, hd, rfl⟩ := ints_get hi
              refine ⟨rfl, ?_⟩
              refine ⟨_, rfl, x, C.sys, dx, _, _, rfl, S' _ _ (S04 _ _ hx), A.c, A.n5, rfl, _, rfl, _, _, rfl, rfl, _, hD3, small (by rw [List.length_map, List.length_map, List.length_take]; omega), same_lst nD3 S' hD3, ?_⟩
              rw [upd_same, take_snoc hd, List.map_append, List.map_append]
              rfl
            · rintro H5 ⟨S5, hD3⟩
              rw [List.length_map, List.take_length] at hD3
              refine ⟨p1, D3, _, _, rfl, rfl, S5 _ _ hp1, hD3, ?_, fun p2 np2 => ?_⟩
              · rw [List.length_map, List.length_map, List.length_map, List.length_append, List.length_map, sizeLine_eq]
                omega
              · refine q _ _ ((S04.trans S5).trans (same1 np2)) (same_none (S04.trans S5) np2) ?_
                rw [upd_same, ← List.map_append]
end
end Fb
namespace Fb
open PySem PySem.Spec PyProof.Rows L2
/-! ### numbers that are drawn: reels -/
def reelO (d s t : Int) : HO := .lst [.int d, .int s, .int t]
structure RlOk (d s t : Int) (T : Nat) : Prop where
  d0 : 0 ≤ d
  s0 : 0 ≤ s
  s1 : s < 2 ^ 200
  t0 : 0 ≤ t
  t1 : t ≤ (T : Int)
  tT : T ≤ 100000000
section
variable {P : Program} {w : World} {K : PySem.W.Frag} {mg : Str → Option Value} {base : Heap}
theorem sc_law_wound : FnScope nm_law_wound ["_law_script", "_law_k"] (defScope s_law_wound) := ⟨rfl, rfl, rfl, by decide +kernel, rfl, by decide +kernel, by decide +kernel⟩
theorem sc_law_spin : FnScope nm_law_spin ["_law_reel", "_law_many"] (defScope s_law_spin) := ⟨rfl, rfl, rfl, by decide +kernel, rfl, by decide +kernel, by decide +kernel⟩
theorem sc_law_picked : FnScope nm_law_picked ["_law_reel", "_law_low", "_law_high", "_law_share"] (defScope s_law_picked) := ⟨rfl, rfl, rfl, by decide +kernel, rfl, by decide +kernel, by decide +kernel⟩
def spWound (K : PySem.W.Frag) : Sp := fun vs H Q _ => ∃ (a : Addr) (ns : List Int) (k : Nat) (B : Hp) (ds : List Cell), vs = [.ref a, .int k] ∧ SqL K H a (ns.map V.int) ∧ k ≤ 100 ∧ Own B ds H ∧ ∀ H' p d s, RlOk d s 0 0 → Own B ((p, reelO d s 0) :: ds) H' → Q (.ref p) H'
theorem ok_law_wound {f : Addr} {fd : FuncData} (F : Fun K "_law_wound" "_law_wound" s_law_wound f fd) (bt : Bt mg bn) : FnOk P w K mg base CX0 1 f fd ["_law_script", "_law_k"] (spWound K) := by
  refine F.ok sc_law_wound (fun vs H Q E h => ?_) (fun cdv A outer s H vs Q E hr h => ?_)
  · obtain ⟨a, ns, k, B, ds, rfl, _⟩ := h
    rfl
  · obtain ⟨a, ns, k, B, ds, rfl, hs, hk, W, q⟩ := h
    refine ⟨_, (pss_cons (ps_set (i := 2) sc_law_wound.nd rfl (.inl rfl) pe_int)
      (pss_cons (ps_if (pt_cmpR op_lt (pv 1) (pe_callB (r := rLenS K) call_len_seq (by rfl) (bt "len" (by decide)) PySem.boot_len (pa_cons (pv 0) pa_nil)) (nomark _))
        (pss_one (ps_set (i := 2) sc_law_wound.nd rfl (.inl rfl) (pe_ix (r := rIxL K) ix_list (pv 0) (pv 1) (fun _ _ => rfl))))
        pss_nil)
      (pss_one (ps_ret (pe_lst (pa_cons (pe_callB (call_max2 rfl) (by rfl) (bt "max" (by decide)) PyProof.Rows.boot_max (pa_cons pe_int (pa_cons (pe_op op_sub (pv 2) (pe_op op_pow pe_int pe_int)) pa_nil))) (pa_cons (pe_op op_add (pe_op op_add (pe_op op_mulW (pe_op op_mod (pe_callTy call_int1 (by rfl) (bt "int" (by decide)) PyProof.Rows.boot_int (pa_cons (pv 2) pa_nil)) (pe_op op_add (pe_op op_pow pe_int pe_int) pe_int)) pe_int) (pe_op op_mul pe_int (pv 1))) pe_int) (pa_cons pe_int pa_nil)))))))), ?_⟩
    refine ⟨_, rfl, _, rfl, a, _, rfl, .inl hs, _, _, rfl, rfl, _, rfl, ite2 (fun hlt => ?_) (fun hlt => ?_)⟩
    · have hlt' : k < (ns.map V.int).length := by
        have := of_decide_eq_true hlt
        omega
      obtain ⟨c, hc⟩ : ∃ c, ns[k]? = some c := by
        rw [List.length_map] at hlt'
        exact ⟨_, List.getElem?_eq_getElem hlt'⟩
      refine ⟨_, rfl, _, rfl, a, _, k, .int c, rfl, rfl, hs, atI_nat (by rw [List.getElem?_map, hc]; rfl), ?_⟩
      refine ⟨_, rfl, 10, 18, rfl, rfl, ⟨by decide, by decide, by decide⟩, c, 10 ^ 18, rfl, rfl, 0, c - 10 ^ 18, rfl, ?_⟩
      refine ⟨_, rfl, .inl ⟨c, rfl, 10, 38, rfl, rfl, ⟨by decide, by decide, by decide⟩, _, _, rfl, rfl, c, 10 ^ 38 + 133, rfl, rfl, (show (0 : Int) < 10 ^ 38 + 133 by decide), ?_⟩⟩
      have e1 : 0 ≤ c % (10 ^ 38 + 133) := Int.emod_nonneg _ (by decide)
      have e2 : c % (10 ^ 38 + 133) < 10 ^ 38 + 133 := Int.emod_lt_of_pos _ (by decide)
      (try dsimp only)
      generalize c % (10 ^ 38 + 133) = y at e1 e2
      refine ⟨y, 67, rfl, rfl, wide_mul (a := 127) (b := 7) (show y.natAbs < 2 ^ 127 by omega) (show (67 : Int).natAbs < 2 ^ 7 by decide) (by decide) (by decide) (by decide), ?_⟩
      refine ⟨_, rfl, _, _, rfl, rfl, .inr ⟨by omega, by omega⟩, _, _, rfl, rfl, _, _, rfl, rfl, by show 3 ≤ sizeLine; decide, fun p np => ?_⟩
      generalize e : upd _ p _ = H1
      have W1 := W.new np e
      refine q H1 p _ _ ⟨?_, ?_, ?_, by decide, by decide, by decide⟩ W1
      · split <;> omega
      · show 0 ≤ y * 67 + 141650939 * (k : Int) + 23
        omega
      · show y * 67 + 141650939 * (k : Int) + 23 < 2 ^ 200
        omega
    · refine ⟨_, rfl, 10, 18, rfl, rfl, ⟨by decide, by decide, by decide⟩, 0, 10 ^ 18, rfl, rfl, 0, 0 - 10 ^ 18, rfl, ?_⟩
      refine ⟨_, rfl, .inl ⟨0, rfl, 10, 38, rfl, rfl, ⟨by decide, by decide, by decide⟩, _, _, rfl, rfl, 0, 10 ^ 38 + 133, rfl, rfl, (show (0 : Int) < 10 ^ 38 + 133 by decide), ?_⟩⟩
      have e1 : 0 ≤ (0 : Int) % (10 ^ 38 + 133) := Int.emod_nonneg _ (by decide)
      have e2 : (0 : Int) % (10 ^ 38 + 133) < 10 ^ 38 + 133 := Int.emod_lt_of_pos _ (by decide)
      (try dsimp only)
      generalize (0 : Int) % (10 ^ 38 + 133) = y at e1 e2
      refine ⟨y, 67, rfl, rfl, wide_mul (a := 127) (b := 7) (show y.natAbs < 2 ^ 127 by omega) (show (67 : Int).natAbs < 2 ^ 7 by decide) (by decide) (by decide) (by decide), ?_⟩
      refine ⟨_, rfl, _, _, rfl, rfl, .inr ⟨by omega, by omega⟩, _, _, rfl, rfl, _, _, rfl, rfl, by show 3 ≤ sizeLine; decide, fun p np => ?_⟩
      generalize e : upd _ p _ = H1
      have W1 := W.new np e
      refine q H1 p _ _ ⟨?_, ?_, ?_, by decide, by decide, by decide⟩ W1
      · split <;> omega
      · show 0 ≤ y * 67 + 141650939 * (k : Int) + 23
        omega
      · show y * 67 + 141650939 * (k : Int) + 23 < 2 ^ 200
        omega
def spSpin : Sp := fun vs H Q _ => ∃ (a : Addr) (d s t many : Int) (T : Nat) (B : Hp) (ds : List Cell), vs = [.ref a, .int many] ∧ Own B ((a, reelO d s t) :: ds) H ∧ RlOk d s t T ∧ T ≤ 10000000 ∧ 1 ≤ many ∧ many.natAbs < 2 ^ 300 ∧
  ∀ H' n d' t', 0 ≤ n → n < many → RlOk d' s t' (T + 1) → Own B ((a, reelO d' s t') :: ds) H' → Q (.int n) H'
theorem ok_law_spin {f : Addr} {fd : FuncData} (F : Fun K "_law_spin" "_law_spin" s_law_spin f fd) (bt : Bt mg bn) : FnOk P w K mg base CX0 1 f fd ["_law_reel", "_law_many"] spSpin := by
  refine F.ok sc_law_spin (fun vs H Q E h => ?_) (fun cdv A outer s H vs Q E hr h => ?_)
  · obtain ⟨a, d, s, t, many, T, B, ds, rfl, _⟩ := h
    rfl
  · obtain ⟨a, d, c, t, many, T, B, ds, rfl, W, R, hT, hm, hm2, q⟩ := h
    have mposs : 0 < many := by omega
    have mdiv : CDivW d many := wide_div mposs hm2 (by decide) (by decide)
    obtain ⟨d0, s0, s1, t0, t1, _⟩ := R
    refine ⟨_, (pss_cons (ps_if (pt_cmpR op_gt (pe_ix (r := rIxL K) ix_list (pv 0) pe_int (fun _ _ => rfl)) pe_int (nomark _))
        (pss_cons (ps_set (i := 2) sc_law_spin.nd rfl (.inl rfl) (pe_op op_mod (pe_callTy call_int1 (by rfl) (bt "int" (by decide)) PyProof.Rows.boot_int (pa_cons (pe_ix (r := rIxL K) ix_list (pv 0) pe_int (fun _ _ => rfl)) pa_nil)) (pv 1)))
        (pss_cons (ps_asg (pe_op op_fdivW (pe_ix (r := rIxL K) ix_list (pv 0) pe_int (fun _ _ => rfl)) (pv 1)) (pg_sub (pv 0) pe_int set_list))
        (pss_one (ps_ret (pv 2)))))
        pss_nil)
      (pss_cons (ps_asg (pe_op op_add (pe_ix (r := rIxL K) ix_list (pv 0) pe_int (fun _ _ => rfl)) pe_int) (pg_sub (pv 0) pe_int set_list))
      (pss_cons (ps_set (i := 3) sc_law_spin.nd rfl (.inl rfl) (pe_op op_mod (pe_callTy call_int1 (by rfl) (bt "int" (by decide)) PyProof.Rows.boot_int (pa_cons (pe_op op_powW (pe_op op_add (pe_ix (r := rIxL K) ix_list (pv 0) pe_int (fun _ _ => rfl)) (pe_op op_mul pe_int (pe_ix (r := rIxL K) ix_list (pv 0) pe_int (fun _ _ => rfl)))) pe_int) pa_nil)) (pe_op op_add (pe_op op_pow pe_int pe_int) pe_int)))
      (pss_cons (ps_set (i := 3) sc_law_spin.nd rfl (.inl rfl) (pe_op op_mod (pe_callTy call_int1 (by rfl) (bt "int" (by decide)) PyProof.Rows.boot_int (pa_cons (pe_op op_powW (pe_op op_add (pv 3) (pe_op op_mul pe_int (pe_ix (r := rIxL K) ix_list (pv 0) pe_int (fun _ _ => rfl)))) pe_int) pa_nil)) (pe_op op_add (pe_op op_pow pe_int pe_int) pe_int)))
      (pss_one (ps_ret (pe_op op_mod (pe_callTy call_int1 (by rfl) (bt "int" (by decide)) PyProof.Rows.boot_int (pa_cons (pe_op op_fdiv (pv 3) pe_int) pa_nil)) (pv 1)))))))), ?_⟩
    refine ⟨_, rfl, a, _, 0, _, rfl, rfl, SqL.of W.g0, rfl, d, 0, rfl, rfl, _, rfl, ?_⟩
    refine ite2 (fun _ => ?_) (fun _ => ?_)
    · refine ⟨_, rfl, a, _, 0, _, rfl, rfl, SqL.of W.g0, rfl, .inl ⟨d, rfl, ?_⟩⟩
      refine ⟨_, rfl, d, many, rfl, rfl, mposs, ?_⟩
      refine ⟨_, rfl, a, _, 0, _, rfl, rfl, SqL.of W.g0, rfl, _, rfl, d, many, rfl, rfl, mdiv, _, rfl, a, _, 0, 0, rfl, rfl, W.g0, rfl, ?_⟩
      generalize e2 : upd _ a _ = H2
      have W2 : Own B ((a, reelO (d / many) c t) :: ds) H2 := W.set0 e2
      exact ⟨_, rfl, q H2 (d % many) (d / many) t (Int.emod_nonneg _ (by omega)) (Int.emod_lt_of_pos _ mposs) ⟨Int.ediv_nonneg d0 (by omega), s0, s1, t0, by omega, by omega⟩ W2⟩
    · refine ⟨_, rfl, a, _, 2, _, rfl, rfl, SqL.of W.g0, rfl, t, 1, rfl, rfl, _, rfl, a, _, 2, 2, rfl, rfl, W.g0, rfl, ?_⟩
      generalize e1 : upd _ a _ = H1
      have W1 : Own B ((a, reelO d c (t + 1)) :: ds) H1 := W.set0 e1
      refine ⟨_, rfl, a, _, 1, _, rfl, rfl, SqL.of W1.g0, rfl, _, rfl, a, _, 2, _, rfl, rfl, SqL.of W1.g0, rfl, _, _, rfl, rfl, .inr ⟨by omega, by omega⟩, _, _, rfl, rfl, ?_⟩
      refine ⟨_, 3, rfl, rfl, ⟨by decide, by decide, ?_⟩, .inl ⟨_, rfl, 10, 42, rfl, rfl, ⟨by decide, by decide, by decide⟩, _, _, rfl, rfl, _, 10 ^ 42 + 63, rfl, rfl, (show (0 : Int) < 10 ^ 42 + 63 by decide), ?_⟩⟩
      · show (c + 86028121 * (t + 1)).natAbs < 2 ^ 255
        omega
      (try dsimp only)
      generalize (c + 86028121 * (t + 1)) ^ (3 : Int).toNat = x
      have f1 : 0 ≤ x % (10 ^ 42 + 63) := Int.emod_nonneg _ (by decide)
      have f2 : x % (10 ^ 42 + 63) < 10 ^ 42 + 63 := Int.emod_lt_of_pos _ (by decide)
      generalize x % (10 ^ 42 + 63) = y at f1 f2
      refine ⟨_, rfl, _, rfl, a, _, 2, _, rfl, rfl, SqL.of W1.g0, rfl, _, _, rfl, rfl, .inr ⟨by omega, by omega⟩, _, _, rfl, rfl, ?_⟩
      refine ⟨_, 3, rfl, rfl, ⟨by decide, by decide, ?_⟩, .inl ⟨_, rfl, 10, 44, rfl, rfl, ⟨by decide, by decide, by decide⟩, _, _, rfl, rfl, _, 10 ^ 44 + 57, rfl, rfl, (show (0 : Int) < 10 ^ 44 + 57 by decide), ?_⟩⟩
      · show (y + 67867967 * (t + 1)).natAbs < 2 ^ 255
        omega
      (try dsimp only)
      generalize (y + 67867967 * (t + 1)) ^ (3 : Int).toNat = x2
      have g1 : 0 ≤ x2 % (10 ^ 44 + 57) := Int.emod_nonneg _ (by decide)
      generalize x2 % (10 ^ 44 + 57) = y2 at g1
      refine ⟨_, rfl, y2, 655331, rfl, rfl, ⟨by decide, by decide⟩, .inl ⟨_, rfl, _, rfl, _, many, rfl, rfl, mposs, ?_⟩⟩
      exact q H1 _ d (t + 1) (Int.emod_nonneg _ (by omega)) (Int.emod_lt_of_pos _ mposs) ⟨d0, s0, s1, by omega, by omega, by omega⟩ W1
def spPicked : Sp := fun vs H Q _ => ∃ (a : Addr) (d s t lo hi share : Int) (T : Nat) (B : Hp) (ds : List Cell), vs = [.ref a, .int lo, .int hi, .int share] ∧ Own B ((a, reelO d s t) :: ds) H ∧ RlOk d s t T ∧ T ≤ 1000000 ∧ hi + 1 - lo ≤ 100 ∧ 1 ≤ share ∧ share.natAbs < 2 ^ 300 ∧
  ∀ (H' : Hp) (p : Addr) (ns : List Int) (d' t' : Int), ns.Pairwise (· < ·) → (∀ x ∈ ns, lo ≤ x ∧ x ≤ hi) → ns.length ≤ 6 → RlOk d' s t' (T + 100) → Own B ((p, .lst (ns.map V.int)) :: (a, reelO d' s t') :: ds) H' → Q (.ref p) H'
theorem cutV_take' (xs : List V) (n : Nat) : cutV xs none (some (n : Int)) = xs.take n := by
  unfold cutV
  have s1 : HT.sIx xs.length 0 none = 0 := rfl
  have s2 : HT.sIx xs.length xs.length (some (n : Int)) = min n xs.length := sIx_le2
  rw [s1, s2, List.drop_zero, Nat.sub_zero]
  by_cases h : n ≤ xs.length
  · rw [show min n xs.length = n by omega]
  · rw [show min n xs.length = xs.length by omega, List.take_length, List.take_of_length_le (by omega)]
theorem ok_law_picked {f : Addr} {fd : FuncData} (F : Fun K "_law_picked" "_law_picked" s_law_picked f fd) (bt : Bt mg bn) (D_law_spin : Def P w K mg base CX0 1 "_law_spin" ["_law_reel", "_law_many"] spSpin) :
    FnOk P w K mg base CX0 2 f fd ["_law_reel", "_law_low", "_law_high", "_law_share"] spPicked := by
  refine F.ok sc_law_picked (fun vs H Q E h => ?_) (fun cdv A outer s H vs Q E hr h => ?_)
  · obtain ⟨a, d, c, t, lo, hi, share, T, B, ds, rfl, _⟩ := h
    rfl
  · obtain ⟨a, d, c, t, lo, hi, share, T, B, ds, rfl, W, R, hT, hw, h1, h2, q⟩ := h
    refine ⟨_, (pss_one (ps_ret (pe_slice (r := rSlL K) sl_list (pe_lc (own := [("_law_number", 4)]) (g := (gName 4)) rfl sc_law_picked.nd (pi_range2L (by rfl) (bt "range" (by decide)) (pa_cons (pv 1) (pa_cons (pe_op op_add (pv 2) pe_int) pa_nil))) (blkOk_by (N := nm_law_picked) (sc := defScope s_law_picked) (by decide +kernel)) (fun _ _ _ _ _ => (pg_name (i := 4) sc_law_picked.nd rfl (.inl rfl))) (fun _ _ _ _ _ => (pts_one (pt_cmpR op_eq (pe_callD D_law_spin hr (by decide) pass0 (pa_cons (pv 0) (pa_cons (pv 3) pa_nil))) pe_int (nomark _)))) (fun _ _ _ _ _ => (pv 4))) po_none (po_some pe_int)))), ?_⟩
    refine ⟨_, rfl, _, rfl, _, _, rfl, rfl, _, _, rfl, fun D nD => ?_⟩
    have key : ∀ (i : Nat) (ns : List Int), (∀ x ∈ ns, lo ≤ x ∧ x < lo + (i : Int)) → ns.Pairwise (· < ·) → (ns ++ [lo + (i : Int)]).Pairwise (· < ·) := by
      intro i ns h1 h2
      rw [List.pairwise_append]
      refine ⟨h2, List.pairwise_singleton _ _, fun x hx y hy => ?_⟩
      rw [List.mem_singleton] at hy
      have := h1 x hx
      omega
    refine lc_range (lo := lo) (n := (hi + 1 - lo).toNat) (fun i H' => ∃ (ns : List Int) (d' t' : Int), Own B ((D, .lst (ns.map V.int)) :: (a, reelO d' c t') :: ds) H' ∧ RlOk d' c t' (T + i) ∧ ns.Pairwise (· < ·) ∧ (∀ x ∈ ns, lo ≤ x ∧ x < lo + (i : Int)) ∧ ns.length ≤ i)
      ⟨[], d, t, W.new nD rfl, R, .nil, (fun x hx => nomatch hx), Nat.le_refl _⟩ ?_ ?_
    · rintro i H' hi' ⟨ns, d', t', W1, R', g1, g2, g3⟩
      refine ⟨rfl, ?_⟩
      refine ⟨_, rfl, _, rfl, a, d', c, t', share, T + i, B, _, rfl, W1.swap, R', by omega, h1, h2, fun H2 n d2 t2 n0 n1 R2 W2 => ⟨rfl, _, rfl, ?_⟩⟩
      have W3 := W2.swap
      cases hn : decide (V.int n = V.int 0) with
      | true =>
        refine iteT ⟨_, rfl, _, W3.g0, ?_, ns ++ [lo + (i : Int)], d2, t2, ?_, R2, key i ns g2 g1, ?_, ?_⟩
        · rw [List.length_map]
          exact big (by omega)
        · generalize e : upd _ D _ = H3
          rw [List.map_append]
          exact W3.set0 e
        · intro x hx
          rcases List.mem_append.mp hx with z | z
          · have := g2 x z
            omega
          · rw [List.mem_singleton] at z
            omega
        · rw [List.length_append, List.length_singleton]
          omega
      | false =>
        exact iteF ⟨ns, d2, t2, W3, R2, g1, fun x hx => by have := g2 x hx; omega, by omega⟩
    · rintro H' ⟨ns, d', t', W1, R', g1, g2, g3⟩
      refine ⟨6, rfl, D, _, rfl, SqL.of W1.g0, fun p np => ?_⟩
      generalize e : upd _ p _ = H1
      have W2 := W1.new np e
      have cut : cutV (ns.map V.int) none (some 6) = (ns.take 6).map V.int := by
        rw [show (6 : Int) = ((6 : Nat) : Int) from rfl, cutV_take', List.map_take]
      rw [cut] at W2
      have W3 := W2.sub (.cons₂ _ (.cons _ (List.Sublist.refl _)))
      obtain ⟨r1, r2, r3, r4, r5, r6⟩ := R'
      refine q H1 p (ns.take 6) d' t' (g1.sublist (List.take_sublist _ _)) (fun x hx => ?_) (List.length_take_le _ _) ⟨r1, r2, r3, r4, by omega, by omega⟩ W3
      have := g2 x (List.mem_of_mem_take hx)
      omega
end
end Fb
namespace Fb
open PySem PySem.Spec PyProof.Rows L2
section
variable {P : Program} {w : World} {K : PySem.W.Frag} {mg : Str → Option Value} {base : Heap}
theorem sc_law_zones : FnScope nm_law_zones ["_law_reel", "_law_many", "_law_most", "_law_reach", "_law_borders"] (defScope s_law_zones) := ⟨rfl, rfl, rfl, by decide +kernel, rfl, by decide +kernel, by decide +kernel⟩
def spLZones (K : PySem.W.Frag) : Sp := fun vs H Q _ => ∃ (a : Addr) (d s t many most reach : Int) (b T : Nat) (B : Hp) (ds : List Cell), vs = [.ref a, .int many, .int most, .int reach, .int b] ∧ Own B ((a, reelO d s t) :: ds) H ∧ RlOk d s t T ∧ T ≤ 900000 ∧ 1 ≤ many ∧ many ≤ 12 ∧
  1 ≤ most ∧ most.natAbs < 2 ^ 300 ∧ 0 ≤ reach ∧ reach ≤ 16 ∧ b ≤ 6 ∧
  ∀ (H' Hb : Hp) (p : Addr) (xs : List V) (zs : List Zn) (d' t' : Int), RlOk d' s t' (T + 5000) → Same B Hb → Own Hb ((p, .lst xs) :: (a, reelO d' s t') :: ds) H' → DpAll K Hb xs (zs.map zdG) → (∀ z ∈ zs, ZnOk b most z) → 1 ≤ zs.length → zs.length ≤ many.toNat → Q (.ref p) H'
theorem ok_law_zones {f : Addr} {fd : FuncData} (F : Fun K "_law_zones" "_law_zones" s_law_zones f fd) (bt : Bt mg bn) (D_law_spin : Def P w K mg base CX0 1 "_law_spin" ["_law_reel", "_law_many"] spSpin)
    (D_law_picked : Def P w K mg base CX0 2 "_law_picked" ["_law_reel", "_law_low", "_law_high", "_law_share"] spPicked) : FnOk P w K mg base CX0 3 f fd ["_law_reel", "_law_many", "_law_most", "_law_reach", "_law_borders"] (spLZones K) := by
  refine F.ok sc_law_zones (fun vs H Q E h => ?_) (fun cdv A outer s H vs Q E hr h => ?_)
  · obtain ⟨a, d, c, t, many, most, reach, b, T, B, ds, rfl, _⟩ := h
    rfl
  · obtain ⟨a, d, c, t, many, most, reach, b, T, B, ds, rfl, W, R, hT, m1, m2, o1, o2, r1, r2, hb, q⟩ := h
    refine ⟨_, (pss_cons (ps_set (i := 5) sc_law_zones.nd rfl (.inl rfl) (pe_lst pa_nil))
      (pss_cons (ps_for PassesOwn.never rfl (pi_range1L (by rfl) (bt "range" (by decide)) (pa_cons (pe_op op_add pe_int (pe_callD D_law_spin hr (by decide) pass0 (pa_cons (pv 0) (pa_cons (pv 1) pa_nil)))) pa_nil)) (pg_name (i := 6) sc_law_zones.nd rfl (.inl rfl))
        (pss_cons (ps_par (i := 7) (j := 8) rfl sc_law_zones.nd rfl rfl (by decide) rfl rfl (pa_cons (pe_callD D_law_picked hr (by decide) pass0 (pa_cons (pv 0) (pa_cons pe_int (pa_cons (pv 3) (pa_cons pe_int pa_nil))))) (pa_cons (pe_callD D_law_picked hr (by decide) pass0 (pa_cons (pv 0) (pa_cons pe_int (pa_cons (pe_op op_sub (pv 4) pe_int) (pa_cons pe_int pa_nil))))) pa_nil)) (by rfl))
        (pss_one (ps_expr (pe_bm PySem.F.plainAttrs_list PySem.F.slot_list_append PySem.F.type_list_append mt_append (pv 5) (pa_cons (pe_tup (pa_cons (pe_op op_add pe_int (pe_callD D_law_spin hr (by decide) pass0 (pa_cons (pv 0) (pa_cons (pv 2) pa_nil)))) (pa_cons (pv 7) (pa_cons (pv 8) pa_nil)))) pa_nil))))))
      (pss_one (ps_ret (pv 5))))), ?_⟩
    refine ⟨Nat.zero_le _, fun D nD => ?_⟩
    generalize e0 : upd _ D _ = H0
    have W0 := W.new nD e0
    refine ⟨_, rfl, _, rfl, a, d, c, t, many, T, B, _, rfl, W0.swap, R, by omega, m1, by omega, fun H1 n d1 t1 n0 n1 R1 W1 => ?_⟩
    refine ⟨_, _, rfl, rfl, _, rfl, for_range (lo := 0) (n := (1 + n).toNat) (fun i σ H' => ∃ (y6 y7 y8 : Option V) (Hb : Hp) (xs : List V) (zs : List Zn) (d' t' : Int), σ = [some (.ref a), some (.int many), some (.int most), some (.int reach), some (.int b), some (.ref D), y6, y7, y8] ∧ Same B Hb ∧
      Own Hb ((D, .lst xs) :: (a, reelO d' c t') :: ds) H' ∧ RlOk d' c t' (T + 1 + 201 * i) ∧ DpAll K Hb xs (zs.map zdG) ∧ (∀ z ∈ zs, ZnOk b most z) ∧ zs.length = i)
      ⟨none, none, none, B, [], [], d1, t1, rfl, Same.refl _, W1.swap, R1, .nil, (fun z hz => nomatch hz), rfl⟩ ?_ ?_⟩
    · rintro i σ H' hi ⟨y6, y7, y8, Hb, xs, zs, d', t', rfl, S, W2, R2, hv, hz, hl⟩
      refine ⟨_, rfl, _, rfl, a, d', c, t', 1, reach, 3, _, Hb, _, rfl, W2.swap, R2, by omega, by omega, by decide, by decide, fun H3 p2 o d2 t2 oa ob ol R3 W3 => ?_⟩
      refine ⟨_, rfl, _, rfl, _, _, rfl, rfl, a, d2, c, t2, 0, (b : Int) - 1, 2, _, Hb, _, rfl, W3.swap, R3, by omega, by omega, by decide, by decide, fun H4 p3 ts d3 t3 ta tb tl R4 W4 => ⟨_, _, rfl, ?_⟩⟩
      refine ⟨_, rfl, .inl ⟨rfl, _, SqL.of W4.g3⟩, _, rfl, _, rfl, a, d3, c, t3, most, _, Hb, _, rfl, W4.swap, R4, by omega, o1, o2, fun H5 k d4 t4 k0 k1 R5 W5 => ⟨_, _, rfl, rfl, _, rfl, _, rfl, by show 3 ≤ sizeLine; decide, fun r nr => ?_⟩⟩
      generalize e1 : upd _ r _ = H6
      have W6 := W5.new nr e1
      obtain ⟨B2, S2, kr, k3, k2, W7⟩ := (W6.perm ((List.perm_middle (l₁ := [(p3, HO.lst (ts.map V.int)), (p2, HO.lst (o.map V.int))])).symm.cons _)).fix3
      have lv := dpAll_len hv
      rw [List.length_map] at lv
      refine ⟨D, xs, _, rfl, rfl, W7.g1, by rw [lv, hl]; exact big (by omega), ?_⟩
      generalize e2 : upd _ D _ = H7
      have W8 := (W7.set1 e2).swap
      obtain ⟨u1, u2, u3, u4, u5, u6⟩ := R5
      refine ⟨_, _, _, B2, xs ++ [.ref r], zs ++ [⟨1 + k, o, ts⟩], d4, t4, rfl, S.trans S2, W8, ⟨u1, u2, u3, u4, by omega, by omega⟩, ?_, ?_, ?_⟩
      · rw [List.map_append]
        refine dpAll_append (dpAll_same S2 _ hv) (.cons ?_ .nil)
        exact .tup (.inl (.inl kr)) (.cons (.int _) (.cons (.lst (SqL.of k2) (dpAll_ints _)) (.cons (.lst (SqL.of k3) (dpAll_ints _)) .nil)))
      · intro y hy
        rcases List.mem_append.mp hy with h | h
        · exact hz y h
        · rw [List.mem_singleton] at h
          subst h
          exact ⟨by show 1 ≤ 1 + k; omega, by show 1 + k ≤ most; omega, fun x hx => by have := ob x hx; omega, fun x hx => by have := tb x hx; omega, oa, ta, ol, tl⟩
      · rw [List.length_append, List.length_singleton, hl]
    · rintro σ H' ⟨y6, y7, y8, Hb, xs, zs, d', t', rfl, S, W2, R2, hv, hz, hl⟩
      obtain ⟨u1, u2, u3, u4, u5, u6⟩ := R2
      exact ⟨_, rfl, q H' Hb D xs zs d' t' ⟨u1, u2, u3, u4, by omega, by omega⟩ S W2 hv hz (by omega) (by omega)⟩
end
end Fb
namespace Fb
open PySem PySem.Spec PyProof.Rows L2
section
variable {P : Program} {w : World} {K : PySem.W.Frag} {mg : Str → Option Value} {base : Heap}
theorem sc_law_far_zones : FnScope nm_law_far_zones ["_law_reel", "_law_many", "_law_reach", "_law_borders"] (defScope s_law_far_zones) := ⟨rfl, rfl, rfl, by decide +kernel, rfl, by decide +kernel, by decide +kernel⟩
def spFZones (K : PySem.W.Frag) : Sp := fun vs H Q _ => ∃ (a : Addr) (d s t many reach : Int) (b T : Nat) (B : Hp) (ds : List Cell), vs = [.ref a, .int many, .int reach, .int b] ∧ Own B ((a, reelO d s t) :: ds) H ∧ RlOk d s t T ∧ T ≤ 900000 ∧ 1 ≤ many ∧ many ≤ 12 ∧
  0 ≤ reach ∧ reach ≤ 16 ∧ b ≤ 6 ∧
  ∀ (H' Hb : Hp) (p : Addr) (xs : List V) (zs : List Zn) (d' t' : Int), RlOk d' s t' (T + 5000) → Same B Hb → Own Hb ((p, .lst xs) :: (a, reelO d' s t') :: ds) H' → DpAll K Hb xs (zs.map zdG) → (∀ z ∈ zs, ZnOk b 200000000000000000000000000000 z) → 1 ≤ zs.length → zs.length ≤ many.toNat → Q (.ref p) H'
theorem ok_law_far_zones {f : Addr} {fd : FuncData} (F : Fun K "_law_far_zones" "_law_far_zones" s_law_far_zones f fd) (bt : Bt mg bn) (D_law_spin : Def P w K mg base CX0 1 "_law_spin" ["_law_reel", "_law_many"] spSpin)
    (D_law_picked : Def P w K mg base CX0 2 "_law_picked" ["_law_reel", "_law_low", "_law_high", "_law_share"] spPicked) : FnOk P w K mg base CX0 3 f fd ["_law_reel", "_law_many", "_law_reach", "_law_borders"] (spFZones K) := by
  refine F.ok sc_law_far_zones (fun vs H Q E h => ?_) (fun cdv A outer s H vs Q E hr h => ?_)
  · obtain ⟨a, d, c, t, many, reach, b, T, B, ds, rfl, _⟩ := h
    rfl
  · obtain ⟨a, d, c, t, many, reach, b, T, B, ds, rfl, W, R, hT, m1, m2, r1, r2, hb, q⟩ := h
    refine ⟨_, (pss_cons (ps_set (i := 4) sc_law_far_zones.nd rfl (.inl rfl) (pe_lst pa_nil))
      (pss_cons (ps_for PassesOwn.never rfl (pi_range1L (by rfl) (bt "range" (by decide)) (pa_cons (pe_op op_add pe_int (pe_callD D_law_spin hr (by decide) pass0 (pa_cons (pv 0) (pa_cons (pv 1) pa_nil)))) pa_nil)) (pg_name (i := 5) sc_law_far_zones.nd rfl (.inl rfl))
        (pss_cons (ps_par (i := 6) (j := 7) rfl sc_law_far_zones.nd rfl rfl (by decide) rfl rfl (pa_cons (pe_callD D_law_picked hr (by decide) pass0 (pa_cons (pv 0) (pa_cons pe_int (pa_cons (pv 2) (pa_cons pe_int pa_nil))))) (pa_cons (pe_callD D_law_picked hr (by decide) pass0 (pa_cons (pv 0) (pa_cons pe_int (pa_cons (pe_op op_sub (pv 3) pe_int) (pa_cons pe_int pa_nil))))) pa_nil)) (by rfl))
        (pss_cons (ps_set (i := 8) sc_law_far_zones.nd rfl (.inl rfl) (pe_op op_add pe_int (pe_callD D_law_spin hr (by decide) pass0 (pa_cons (pv 0) (pa_cons (pe_ix (r := rIxL K) ix_list (pe_lst (pa_cons pe_int (pa_cons pe_int (pa_cons (pe_op op_pow pe_int pe_int) (pa_cons (pe_op op_mul pe_int (pe_op op_pow pe_int pe_int)) pa_nil))))) (pe_callD D_law_spin hr (by decide) pass0 (pa_cons (pv 0) (pa_cons pe_int pa_nil))) (fun _ _ => rfl)) pa_nil)))))
        (pss_one (ps_expr (pe_bm PySem.F.plainAttrs_list PySem.F.slot_list_append PySem.F.type_list_append mt_append (pv 4) (pa_cons (pe_tup (pa_cons (pv 8) (pa_cons (pv 6) (pa_cons (pv 7) pa_nil)))) pa_nil)))))))
      (pss_one (ps_ret (pv 4))))), ?_⟩
    refine ⟨Nat.zero_le _, fun D nD => ?_⟩
    generalize e0 : upd _ D _ = H0
    have W0 := W.new nD e0
    refine ⟨_, rfl, _, rfl, a, d, c, t, many, T, B, _, rfl, W0.swap, R, by omega, m1, by omega, fun H1 n d1 t1 n0 n1 R1 W1 => ?_⟩
    refine ⟨_, _, rfl, rfl, _, rfl, for_range (lo := 0) (n := (1 + n).toNat) (fun i σ H' => ∃ (y5 y6 y7 y8 : Option V) (Hb : Hp) (xs : List V) (zs : List Zn) (d' t' : Int), σ = [some (.ref a), some (.int many), some (.int reach), some (.int b), some (.ref D), y5, y6, y7, y8] ∧ Same B Hb ∧
      Own Hb ((D, .lst xs) :: (a, reelO d' c t') :: ds) H' ∧ RlOk d' c t' (T + 1 + 202 * i) ∧ DpAll K Hb xs (zs.map zdG) ∧ (∀ z ∈ zs, ZnOk b 200000000000000000000000000000 z) ∧ zs.length = i)
      ⟨none, none, none, none, B, [], [], d1, t1, rfl, Same.refl _, W1.swap, R1, .nil, (fun z hz => nomatch hz), rfl⟩ ?_ ?_⟩
    · rintro i σ H' hi ⟨y5, y6, y7, y8, Hb, xs, zs, d', t', rfl, S, W2, R2, hv, hz, hl⟩
      refine ⟨_, rfl, _, rfl, a, d', c, t', 1, reach, 3, _, Hb, _, rfl, W2.swap, R2, by omega, by omega, by decide, by decide, fun H3 p2 o d2 t2 oa ob ol R3 W3 => ?_⟩
      refine ⟨_, rfl, _, rfl, _, _, rfl, rfl, a, d2, c, t2, 0, (b : Int) - 1, 2, _, Hb, _, rfl, W3.swap, R3, by omega, by omega, by decide, by decide, fun H4 p3 ts d3 t3 ta tb tl R4 W4 => ⟨_, _, rfl, ?_⟩⟩
      refine ⟨_, rfl, 10, 12, rfl, rfl, ⟨by decide, by decide, by decide⟩, 10, 29, rfl, rfl, ⟨by decide, by decide, by decide⟩, _, _, rfl, rfl, .inl ⟨by decide, by decide⟩, by show 4 ≤ sizeLine; decide, fun pl nl => ?_⟩
      generalize el : upd _ pl _ = H5
      have W5 := W4.new nl el
      -- [pl, ts, o, reel?]
      have W5 := W5.perm (show ((pl, HO.lst [V.int 9, V.int 400, V.int (10 ^ 12), V.int (2 * 10 ^ 29)]) :: (p3, HO.lst (ts.map V.int)) :: (a, reelO d3 c t3) :: (p2, HO.lst (o.map V.int)) :: (D, HO.lst xs) :: ds).Perm ((a, reelO d3 c t3) :: (pl, HO.lst [V.int 9, V.int 400, V.int (10 ^ 12), V.int (2 * 10 ^ 29)]) :: (p3, HO.lst (ts.map V.int)) :: (p2, HO.lst (o.map V.int)) :: (D, HO.lst xs) :: ds) from ((List.Perm.swap _ _ _).cons _).trans (List.Perm.swap _ _ _))
      refine ⟨_, rfl, a, d3, c, t3, 4, _, Hb, _, rfl, W5, R4, by omega, by decide, by decide, fun H6 k d4 t4 k0 k1 R5 W6 => ?_⟩
      have hat : ∃ r : Int, atI [V.int 9, V.int 400, V.int (10 ^ 12), V.int (2 * 10 ^ 29)] k = some (.int r) ∧ 1 ≤ r ∧ r ≤ 200000000000000000000000000000 := by
        rcases (show k = 0 ∨ k = 1 ∨ k = 2 ∨ k = 3 by omega) with rfl | rfl | rfl | rfl <;> exact ⟨_, rfl, by decide, by decide⟩
      obtain ⟨r, hat, r0, r1'⟩ := hat
      refine ⟨pl, _, k, .int r, rfl, rfl, SqL.of W6.g1, hat, ?_⟩
      have W6 := W6.sub (.cons₂ _ (.cons _ (List.Sublist.refl _)))
      refine ⟨a, d4, c, t4, r, _, Hb, _, rfl, W6, R5, by omega, r0, by omega, fun H7 u d5 t5 u0 u1 R6 W7 => ⟨_, _, rfl, rfl, ?_⟩⟩
      refine ⟨_, rfl, .inl ⟨rfl, _, SqL.of W7.g3⟩, _, rfl, _, rfl, _, rfl, by show 3 ≤ sizeLine; decide, fun r nr => ?_⟩
      generalize e1 : upd _ r _ = H8
      have W8 := W7.new nr e1
      obtain ⟨B2, S2, kr, k3, k2, W9⟩ := (W8.perm ((List.perm_middle (l₁ := [(p3, HO.lst (ts.map V.int)), (p2, HO.lst (o.map V.int))])).symm.cons _)).fix3
      have lv := dpAll_len hv
      rw [List.length_map] at lv
      refine ⟨D, xs, _, rfl, rfl, W9.g1, by rw [lv, hl]; exact big (by omega), ?_⟩
      generalize e2 : upd _ D _ = H9
      have W10 := (W9.set1 e2).swap
      obtain ⟨u1', u2', u3', u4', u5', u6'⟩ := R6
      refine ⟨_, _, _, _, B2, xs ++ [.ref r], zs ++ [⟨1 + u, o, ts⟩], d5, t5, rfl, S.trans S2, W10, ⟨u1', u2', u3', u4', by omega, by omega⟩, ?_, ?_, ?_⟩
      · rw [List.map_append]
        refine dpAll_append (dpAll_same S2 _ hv) (.cons ?_ .nil)
        exact .tup (.inl (.inl kr)) (.cons (.int _) (.cons (.lst (SqL.of k2) (dpAll_ints _)) (.cons (.lst (SqL.of k3) (dpAll_ints _)) .nil)))
      · intro y hy
        rcases List.mem_append.mp hy with h | h
        · exact hz y h
        · rw [List.mem_singleton] at h
          subst h
          exact ⟨by show 1 ≤ 1 + u; omega, by show 1 + u ≤ 200000000000000000000000000000; omega, fun x hx => by have := ob x hx; omega, fun x hx => by have := tb x hx; omega, oa, ta, ol, tl⟩
      · rw [List.length_append, List.length_singleton, hl]
    · rintro σ H' ⟨y5, y6, y7, y8, Hb, xs, zs, d', t', rfl, S, W2, R2, hv, hz, hl⟩
      obtain ⟨u1, u2, u3, u4, u5, u6⟩ := R2
      exact ⟨_, rfl, q H' Hb D xs zs d' t' ⟨u1, u2, u3, u4, by omega, by omega⟩ S W2 hv hz (by omega) (by omega)⟩
end
end Fb
set_option maxHeartbeats 1000000
namespace Fb
open PySem PySem.Spec PyProof.Rows L2
theorem spanJ_b {j j3 : J} {n : Int} (h : within j 0 (n - 1) = false) : spanJ j j3 n = false := by
  unfold spanJ
  rw [h]
  rfl
theorem spanJ_e {b n : Int} {j : J} (h : within j (b + 1) n = false) : spanJ (.int b) j n = false := by
  unfold spanJ
  show (within (.int b) 0 (n - 1) && within j (b + 1) n) = false
  rw [h, Bool.and_false]
theorem within_no {i lo hi : Int} (h : i < lo ∨ hi < i) : within (.int i) lo hi = false := by
  show (decide (lo ≤ i) && decide (i ≤ hi)) = false
  rcases h with h | h
  · rw [decide_eq_false (show ¬ lo ≤ i by omega)]
    rfl
  · rw [decide_eq_false (show ¬ i ≤ hi by omega), Bool.and_false]
/-- a value that is passed, as data and by its kind -/
structure Val (K : PySem.W.Frag) (H : Hp) (v : V) (d : PyData) (j : J) : Prop where
  rd : (Dp K H v d ∧ d.canLay0 = true) ∨ Sc H v d
  s : d.showable = true
  h : d.depth ≤ 20
  l : szS d ≤ 20000
  jr : Jr K H v j
theorem Val.same {K : PySem.W.Frag} {H H' : Hp} {v : V} {d : PyData} {j : J} (h : Val K H v d j) (S : Same H H') : Val K H' v d j :=
  ⟨h.rd.elim (fun g => .inl ⟨dp_same S _ g.1, g.2⟩) (fun g => .inr (g.same S)), h.s, h.h, h.l, jr_same S _ h.jr⟩
/-- a plain number, text, truth value or None: both ways -/
structure Pln (K : PySem.W.Frag) (H : Hp) (v : V) (d : PyData) (j : J) : Prop where
  dp : Dp K H v d
  sc : Sc H v d
  lay : d.canLay0 = true
  s : d.showable = true
  h : d.depth ≤ 20
  l : szS d ≤ 20000
  jr : Jr K H v j
section
variable {K : PySem.W.Frag} {H : Hp} {v u : V} {d e : PyData} {j k : J}
theorem Pln.same {H' : Hp} (h : Pln K H v d j) (S : Same H H') : Pln K H' v d j := ⟨dp_same S _ h.dp, h.sc.same S, h.lay, h.s, h.h, h.l, jr_same S _ h.jr⟩
theorem Pln.val (h : Pln K H v d j) : Val K H v d j := ⟨.inl ⟨h.dp, h.lay⟩, h.s, h.h, h.l, h.jr⟩
theorem pair_vp (a : Val K H v d j) (b : Pln K H u e k) : PairOk K H v u d e := ⟨a.rd.elim (fun g => .inl ⟨g.1, b.dp, g.2, b.lay⟩) (fun g => .inr ⟨g, b.sc⟩), a.s, b.s, a.h, b.h, a.l, b.l⟩
theorem pair_pv (b : Pln K H u e k) (a : Val K H v d j) : PairOk K H u v e d := ⟨a.rd.elim (fun g => .inl ⟨b.dp, g.1, b.lay, g.2⟩) (fun g => .inr ⟨b.sc, g⟩), b.s, a.s, b.h, a.h, b.l, a.l⟩
theorem pair_vv (a : Val K H v d j) : PairOk K H v v d d := ⟨a.rd.elim (fun g => .inl ⟨g.1, g.1, g.2, g.2⟩) (fun g => .inr ⟨g, g⟩), a.s, a.s, a.h, a.h, a.l, a.l⟩
theorem pln_int {i : Int} (h : i.natAbs.log2 < 1920) : Pln K H (.int i) (.int i) (.int i) := ⟨.int i, .int i, rfl, decide_eq_true h, by simp only [PyData.depth]; omega, by show 1921 ≤ 20000; decide, .int i⟩
theorem pln_non : Pln K H .non .none .odd := ⟨.non, .non, rfl, rfl, by simp only [PyData.depth]; omega, by show 1921 ≤ 20000; decide, dp_jr _ .non⟩
theorem pln_bl {b : Bool} : Pln K H (.bl b) (.bool b) .odd := ⟨.bl b, .bl b, rfl, rfl, by simp only [PyData.depth]; omega, by show 1921 ≤ 20000; decide, dp_jr _ (.bl b)⟩
theorem pln_str {s : Str} (hl : (PyData.str s).canLay0 = true) (h : szS (.str s) ≤ 20000) : Pln K H (.str s) (.str s) .odd := ⟨.str s, .str s, hl, rfl, by simp only [PyData.depth]; omega, h, dp_jr _ (.str s)⟩
theorem odd_dict : OddKind K (.type "dict") := ⟨false, false, kit_ty (show kitB "dict" "int" = some false by decide +kernel), kit_ty (show kitB "dict" "bool" = some false by decide +kernel), kit_ty (show kitB "dict" "list" = some false by decide +kernel), kit_ty (show kitB "dict" "tuple" = some false by decide +kernel), fun h => nomatch h⟩
theorem val_emp {a : Addr} (e : H a = some (.dT [])) : Val K H (.ref a) (.dict []) .odd := ⟨.inr (.emp e), rfl, by simp only [PyData.depth, PyData.depthKv]; omega, by show szS (.dict []) ≤ 20000; decide +kernel, .odd (.base (.dT e)) odd_dict (fun i h => nomatch h)⟩
theorem val_l0 {a : Addr} (e : H a = some (.lst [.int 0])) : Val K H (.ref a) (.list [.int 0]) (.list [.int 0]) := ⟨.inl ⟨.lst (SqL.of e) (.cons (.int 0) .nil), rfl⟩, rfl, by simp only [PyData.depth, PyData.depthAll]; omega, by decide +kernel, dp_jr _ (.lst (SqL.of e) (.cons (.int 0) .nil))⟩
theorem val_t0 {a : Addr} (e : H a = some (.tup [.int 0])) : Val K H (.ref a) (.tuple [.int 0]) (.tup [.int 0]) := ⟨.inl ⟨.tup (SqT.of e) (.cons (.int 0) .nil), rfl⟩, rfl, by simp only [PyData.depth, PyData.depthAll]; omega, by decide +kernel, dp_jr _ (.tup (SqT.of e) (.cons (.int 0) .nil))⟩
/-- what is no system is told so at every door -/
theorem door_not {C : Cs} {n : Nat} {v1 v2 v3 : V} {q0 q6 q8 q9 : Hp → Prop} (h : SysK K C H v1 false) (q : ∀ H', Same H H' → q6 H') : Door K C n v1 v2 v3 H q0 q6 q8 q9 := ⟨false, h, fun _ => q, fun h => nomatch h⟩
theorem door_span {C : Cs} {n : Nat} {x : Addr} {b : Nat} {zs : List Zn} {v2 v3 : V} {q0 q6 q8 q9 : Hp → Prop} (ks : KindSys K C) (R : SysR K C H x b zs) (hz : zs.length ≤ 100) (hn : n < 4) (r2 : Jr K H v2 j) (r3 : Jr K H v3 k) (hs : spanJ j k (len zs + (b : Int)) = false) (q : ∀ H', Same H H' → q8 H') : Door K C n (.ref x) v2 v3 H q0 q6 q8 q9 :=
  ⟨true, ks.sysK R, (fun h => nomatch h), fun _ => ⟨x, b, zs, j, k, rfl, R, hz, r2, r3, fun _ _ => q, fun h => absurd h (by omega), fun _ b' e' g1 g2 g3 g4 g5 => (by rw [g1, g2, span_ok g3 g4 g5] at hs; cases hs), fun h => absurd h (by omega)⟩⟩
theorem door_num {C : Cs} {x : Addr} {b : Nat} {zs : List Zn} {v2 v3 : V} {q0 q6 q8 q9 : Hp → Prop} (ks : KindSys K C) (R : SysR K C H x b zs) (hz : zs.length ≤ 100) (r2 : Jr K H v2 j) (r3 : Jr K H v3 k) (hs : isIJ j = false) (q : ∀ H', Same H H' → q9 H') : Door K C 4 (.ref x) v2 v3 H q0 q6 q8 q9 :=
  ⟨true, ks.sysK R, (fun h => nomatch h), fun _ => ⟨x, b, zs, j, k, rfl, R, hz, r2, r3, fun h => absurd h (by decide), fun _ _ => q, fun h => absurd h (by decide), fun _ s g => (by rw [g] at hs; cases hs)⟩⟩
theorem door_fine {C : Cs} {n : Nat} {x : Addr} {b : Nat} {zs : List Zn} {i m : Int} {q0 q6 q8 q9 : Hp → Prop} (ks : KindSys K C) (R : SysR K C H x b zs) (hz : zs.length ≤ 100) (hn : n < 4) (h0 : 0 ≤ i) (h1 : i < m) (h2 : m ≤ len zs + (b : Int)) (q : ∀ H', Same H H' → q0 H') : Door K C n (.ref x) (.int i) (.int m) H q0 q6 q8 q9 :=
  ⟨true, ks.sysK R, (fun h => nomatch h), fun _ => ⟨x, b, zs, .int i, .int m, rfl, R, hz, .int i, .int m, fun _ hs => (by rw [span_ok h0 h1 h2] at hs; cases hs), fun h => absurd h (by omega), fun _ _ _ _ _ _ _ _ => q, fun h => absurd h (by omega)⟩⟩
theorem door_fine4 {C : Cs} {x : Addr} {b : Nat} {zs : List Zn} {i : Int} {v3 : V} {q0 q6 q8 q9 : Hp → Prop} (ks : KindSys K C) (R : SysR K C H x b zs) (hz : zs.length ≤ 100) (r3 : Jr K H v3 k) (q : ∀ H', Same H H' → q0 H') : Door K C 4 (.ref x) (.int i) v3 H q0 q6 q8 q9 :=
  ⟨true, ks.sysK R, (fun h => nomatch h), fun _ => ⟨x, b, zs, .int i, k, rfl, R, hz, .int i, r3, fun h => absurd h (by decide), (fun _ h => by cases h), fun h => absurd h (by decide), fun _ _ _ => q⟩⟩
end
theorem normSt {G : L2.St → Hp → Prop} {σ : L2.St} {H : Hp} (σ1 : L2.St) (e : σ = σ1) (h : G σ1 H) : G σ H := by
  rw [e]
  exact h
theorem rep_one {α : Type} (x : α) : ∀ k : Nat, (List.replicate k [x]).flatten = List.replicate k x
  | 0 => rfl
  | k + 1 => by
    rw [List.replicate_succ, List.replicate_succ, List.flatten_cons, rep_one x k]
    rfl
theorem rep_snoc (s : Str) (i : Nat) : (List.replicate i s).map V.str ++ [.str s] = (List.replicate (i + 1) s).map V.str := by
  rw [List.replicate_succ', List.map_append]
  rfl
theorem neS_go {K : PySem.W.Frag} {H : Hp} {Q : VK} {v u : V} {ls ms : List Str} (h1 : Dp K H v (.list (ls.map .str))) (h2 : Dp K H u (.list (ms.map .str))) (e : ls = ms) (hl : (PyData.list (ms.map .str)).canLay0 = true) (hs : SeqAt.shaped (PyData.list (ms.map .str)) = true) (q : Q (.bl false) H) : rNeD K v u H Q := by
  subst e
  refine ⟨_, _, h1, h2, hs, hs, ?_⟩
  rw [PySem.SeqAt.eqv_refl _ hl]
  exact q
theorem dpAll_strs {K : PySem.W.Frag} {H : Hp} : ∀ ls : List Str, DpAll K H (ls.map V.str) (ls.map .str)
  | [] => .nil
  | s :: ls => .cons (.str s) (dpAll_strs ls)
end Fb
namespace Fb
open PySem PySem.Spec PyProof.Rows L2
section
variable {P : Program} {w : World} {K : PySem.W.Frag} {mg : Str → Option Value} {base : Heap} {E : Nat → Addr}
theorem sc_law_right : FnScope nm_law_right ["_law_reel", "_law_borders", "_law_zones_here"] (defScope s_law_right) := ⟨rfl, rfl, rfl, by decide +kernel, rfl, by decide +kernel, by decide +kernel⟩
def spR15 (K : PySem.W.Frag) : Sp := fun vs H Q _ => ∃ (a : Addr) (d s t m : Int) (b T : Nat) (v : V) (zs : List Zn) (B : Hp), vs = [.ref a, .int (b : Int), v] ∧ Own B [(a, reelO d s t)] H ∧ RlOk d s t T ∧ T ≤ 900000 ∧ b ≤ 6 ∧ Dp K B v (.list (zs.map zdG)) ∧ (∀ z ∈ zs, ZnOk b m z) ∧ m ≤ 200000000000000000000000000000 ∧ 1 ≤ zs.length ∧ zs.length ≤ 4 ∧
  ∀ H' Hb d' t', RlOk d' s t' (T + 1) → Same B Hb → Own Hb [(a, reelO d' s t')] H' → Q (.bl true) H'
theorem ok_law_right {f : Addr} {C : Cs} {fd : FuncData} (F : Fun K "_law_right" "_law_right" s_law_right f fd) (bt : Bt mg bn) (ks : KindSys K C) (kn : KindNot K C) (D_law_spin : Def P w K mg base CX0 1 "_law_spin" ["_law_reel", "_law_many"] spSpin)
    (K_System : DMake P w K mg base (L2.CX P w) 10 "System" C.sys ["self", "borders", "zones"] (spSysInit K C (E 5) (E 0))) (P_unknowns : DProp P w K mg base CX0 1 C.sys "unknowns" (spUnknowns K C))
    (D_law_told : DefG P w K mg base CX0 9 "_law_told" ["_law_door", "_law_one", "_law_two", "_law_three"] (spTold15 K C)) : FnG P w K mg base CX0 12 f fd ["_law_reel", "_law_borders", "_law_zones_here"] (spR15 K) := by
  refine fnG_of F sc_law_right (fun vs H Q E' h => ?_) (fun cdv A outer s H vs Q E' gd hr h => ?_)
  · obtain ⟨a, d, s, t, m, b, T, v, zs, B, rfl, _⟩ := h
    rfl
  · obtain ⟨a, d, s0, t, m, b, T, v, zs, B, rfl, W, RL, hT, hb, hv, hz, hm, hl1, hl2, q⟩ := h
    have hu64 : (A.deeper (envOfC "_law_right" (defScope s_law_right) s.heap.objs.size f cdv)).units + 64 < cLine := by have := hr.un; omega
    refine ⟨_, (pss_cons (ps_asg (pe_tup (pa_cons (pe_makeD K_System hr (by decide) (passes_call takes0 (fun _ _ _ _ h => h)) (pa_cons (pv 1) (pa_cons (pv 2) pa_nil))) (pa_cons (pe_lst (pa_cons pe_non (pa_cons pe_bl (pa_cons pe_bl (pa_cons pe_str (pa_cons (pe_lst (pa_cons pe_int pa_nil)) (pa_cons (pe_tup (pa_cons pe_int pa_nil)) (pa_cons pe_dnewT pa_nil)))))))) pa_nil))) (pg_tup rfl (pgs_cons (pg_name (i := 3) sc_law_right.nd rfl (.inr rfl)) (pgs_cons (pg_name (i := 4) sc_law_right.nd rfl (.inl rfl)) pgs_nil))))
      (pss_cons (ps_set (i := 5) sc_law_right.nd rfl (.inr rfl) (pe_propD P_unknowns hr (by decide) pass0 (pv 3)))
      (pss_cons (ps_for (passes_of rfl) rfl (pi_list (pe_lst (pa_cons pe_non (pa_cons pe_int (pa_cons pe_bl (pa_cons pe_str (pa_cons (pv 2) (pa_cons (pe_tup (pa_cons (pv 1) (pa_cons (pv 2) pa_nil))) (pa_cons (pe_lst (pa_cons (pv 3) pa_nil)) (pa_cons (pe_tup (pa_cons (pv 3) pa_nil)) (pa_cons pe_dnewT pa_nil))))))))))) (pg_name (i := 6) sc_law_right.nd rfl (.inr rfl))
        (pss_one (ps_for (passes_of rfl) rfl (pi_tup (pe_tup (pa_cons (pe_tup (pa_cons pe_int (pa_cons pe_int pa_nil))) (pa_cons (pe_tup (pa_cons pe_non (pa_cons pe_non pa_nil))) pa_nil)))) (pg_tup rfl (pgs_cons (pg_name (i := 7) sc_law_right.nd rfl (.inr rfl)) (pgs_cons (pg_name (i := 8) sc_law_right.nd rfl (.inr rfl)) pgs_nil)))
          (pss_one (ps_if (pt_cmpR (op_neD hu64) (pe_lc (own := [("_law_door", 11)]) (tt := tYes) (g := (gName 11)) rfl sc_law_right.nd (pi_range1L (by rfl) (bt "range" (by decide)) (pa_cons pe_int pa_nil)) (blkOk_by (N := nm_law_right) (sc := defScope s_law_right) (by decide +kernel)) (fun _ _ _ _ _ => (pg_name (i := 11) sc_law_right.nd rfl (.inl rfl))) (fun _ _ _ _ _ => pts_nil) (fun _ _ _ _ _ => (pe_callDG D_law_told gd hr (by decide) pass0 (pa_cons (pv 11) (pa_cons (pv 6) (pa_cons (pv 7) (pa_cons (pv 8) pa_nil))))))) (pe_op op_rep (pe_lst (pa_cons pe_str pa_nil)) pe_int) (nomark _))
            (pss_one (ps_ret pe_bl))
            pss_nil)))))
      (pss_cons (ps_for (passes_of rfl) rfl (pi_list (pe_op op_catR (pv 4) (pe_lst (pa_cons (pe_un un_neg pe_int) (pa_cons (pv 5) (pa_cons (pe_op op_pow pe_int pe_int) pa_nil)))))) (pg_name (i := 6) sc_law_right.nd rfl (.inr rfl))
        (pss_one (ps_for (passes_of rfl) rfl (pi_tup (pe_tup (pa_cons (pv 5) (pa_cons pe_non (pa_cons (pv 6) pa_nil))))) (pg_name (i := 8) sc_law_right.nd rfl (.inr rfl))
          (pss_one (ps_if (pt_cmpR (op_neD hu64) (pe_lc (own := [("_law_door", 11)]) (tt := tYes) (g := (gName 11)) rfl sc_law_right.nd (pi_range1L (by rfl) (bt "range" (by decide)) (pa_cons pe_int pa_nil)) (blkOk_by (N := nm_law_right) (sc := defScope s_law_right) (by decide +kernel)) (fun _ _ _ _ _ => (pg_name (i := 11) sc_law_right.nd rfl (.inl rfl))) (fun _ _ _ _ _ => pts_nil) (fun _ _ _ _ _ => (pe_callDG D_law_told gd hr (by decide) pass0 (pa_cons (pv 11) (pa_cons (pv 3) (pa_cons (pv 6) (pa_cons (pv 8) pa_nil))))))) (pe_op op_rep (pe_lst (pa_cons pe_str pa_nil)) pe_int) (nomark _))
            (pss_one (ps_ret pe_bl))
            pss_nil)))))
      (pss_cons (ps_set (i := 9) sc_law_right.nd rfl (.inr rfl) (pe_callD D_law_spin hr (by decide) pass0 (pa_cons (pv 0) (pa_cons (pv 5) pa_nil))))
      (pss_cons (ps_for (passes_of rfl) rfl (pi_list (pe_op op_catR (pv 4) (pe_lst (pa_cons (pe_un un_neg pe_int) (pa_cons pe_int (pa_cons (pv 9) (pa_cons (pe_op op_add (pv 5) pe_int) (pa_cons (pe_op op_pow pe_int pe_int) pa_nil)))))))) (pg_name (i := 6) sc_law_right.nd rfl (.inr rfl))
        (pss_one (ps_if (pt_cmpR (op_neD hu64) (pe_lc (own := [("_law_door", 11)]) (tt := tYes) (g := (gName 11)) rfl sc_law_right.nd (pi_range1L (by rfl) (bt "range" (by decide)) (pa_cons pe_int pa_nil)) (blkOk_by (N := nm_law_right) (sc := defScope s_law_right) (by decide +kernel)) (fun _ _ _ _ _ => (pg_name (i := 11) sc_law_right.nd rfl (.inl rfl))) (fun _ _ _ _ _ => pts_nil) (fun _ _ _ _ _ => (pe_callDG D_law_told gd hr (by decide) pass0 (pa_cons (pv 11) (pa_cons (pv 3) (pa_cons (pv 9) (pa_cons (pv 6) pa_nil))))))) (pe_op op_rep (pe_lst (pa_cons pe_str pa_nil)) pe_int) (nomark _))
          (pss_one (ps_ret pe_bl))
          pss_nil)))
      (pss_cons (ps_for (passes_of rfl) rfl (pi_list (pe_lst (pa_cons pe_non (pa_cons pe_bl (pa_cons pe_bl (pa_cons pe_str (pa_cons (pe_lst (pa_cons pe_int pa_nil)) (pa_cons (pe_tup (pa_cons pe_int pa_nil)) (pa_cons pe_dnewT pa_nil))))))))) (pg_name (i := 6) sc_law_right.nd rfl (.inr rfl))
        (pss_one (ps_if (pt_cmpR op_ne (pe_callDG D_law_told gd hr (by decide) pass0 (pa_cons pe_int (pa_cons (pv 3) (pa_cons (pv 6) (pa_cons pe_non pa_nil))))) pe_str (nomark _))
          (pss_one (ps_ret pe_bl))
          pss_nil)))
      (pss_cons (ps_setLc (i := 10) (own := [("_law_door", 11)]) (tt := tYes) (g := (gName 11)) rfl sc_law_right.nd rfl rfl rfl (pi_range1L (by rfl) (bt "range" (by decide)) (pa_cons pe_int pa_nil)) (blkOk_by (N := nm_law_right) (sc := defScope s_law_right) (by decide +kernel)) (fun _ _ _ _ _ => (pg_name (i := 11) sc_law_right.nd rfl (.inl rfl))) (fun _ _ _ _ _ => pts_nil) (fun _ _ _ _ _ => (pe_callDG D_law_told gd hr (by decide) pass0 (pa_cons (pv 11) (pa_cons (pv 3) (pa_cons pe_int (pa_cons (pv 5) pa_nil)))))))
      (pss_cons (ps_set (i := 10) sc_law_right.nd rfl (.inl rfl) (pe_op op_catR (pv 10) (pe_lc (own := [("_law_door", 11)]) (tt := tYes) (g := (gName 11)) rfl sc_law_right.nd (pi_range1L (by rfl) (bt "range" (by decide)) (pa_cons pe_int pa_nil)) (blkOk_by (N := nm_law_right) (sc := defScope s_law_right) (by decide +kernel)) (fun _ _ _ _ _ => (pg_name (i := 11) sc_law_right.nd rfl (.inl rfl))) (fun _ _ _ _ _ => pts_nil) (fun _ _ _ _ _ => (pe_callDG D_law_told gd hr (by decide) pass0 (pa_cons (pv 11) (pa_cons (pv 3) (pa_cons (pe_op op_sub (pv 5) pe_int) (pa_cons (pv 5) pa_nil)))))))))
      (pss_one (ps_ret (pe_cmpR (op_eqD hu64) (pe_op op_catR (pv 10) (pe_lc (own := [("_law_size", 12)]) (tt := tYes) (g := (gName 12)) rfl sc_law_right.nd (pi_tup (pe_tup (pa_cons pe_int (pa_cons (pe_un un_neg (pe_op op_pow pe_int pe_int)) (pa_cons (pe_op op_pow pe_int pe_int) pa_nil))))) (blkOk_by (N := nm_law_right) (sc := defScope s_law_right) (by decide +kernel)) (fun _ _ _ _ _ => (pg_name (i := 12) sc_law_right.nd rfl (.inl rfl))) (fun _ _ _ _ _ => pts_nil) (fun _ _ _ _ _ => (pe_callDG D_law_told gd hr (by decide) pass0 (pa_cons pe_int (pa_cons (pv 3) (pa_cons (pv 12) (pa_cons pe_non pa_nil)))))))) (pe_op op_rep (pe_lst (pa_cons pe_str pa_nil)) pe_int) (nomark _))))))))))))), ?_⟩
    -- the system
    have n1 := len_le (m := m) zs fun z hz' => (hz z hz').c2
    have lz : len zs ≤ 1000000000000000000000000000000 - 10 := by
      have : ((zs.length : Nat) : Int) * m ≤ 4 * 200000000000000000000000000000 := Int.mul_le_mul (by omega) hm (by
        cases zs with
        | nil => exact absurd hl1 (by decide)
        | cons z l =>
          have := (hz z (.head _)).c1
          have := (hz z (.head _)).c2
          omega) (by decide)
      omega
    refine ⟨_, rfl, _, rfl, fun x dx nx nd nex => sys_new (m := m) nx nd nex (dp_same W.s _ hv) hb hz (by omega) hl1 (by omega) (by omega) (fun HI S0 SI SS ap RS => ⟨rfl, ?_⟩)⟩
    obtain ⟨B1, W1, S1, S01⟩ := own_apart W SI SS ap (fun cc hc => by rw [List.mem_singleton.mp hc]; exact ⟨_, rfl⟩)
    have R := RS.same S01
    have hv := dp_same S1 _ hv
    clear W SI SS ap RS S01 nx nd nex
    -- the odd values
    refine ⟨by show 1 ≤ sizeLine; decide, fun l0 nl0 => ?_⟩
    generalize el0 : upd _ l0 _ = H1
    have U1 := W1.new nl0 el0
    refine ⟨by show 1 ≤ sizeLine; decide, fun t0 nt0 => ?_⟩
    generalize et0 : upd _ t0 _ = H2
    have U2 := U1.new nt0 et0
    refine fun e0 ne0 => ?_
    generalize ee0 : upd _ e0 _ = H3
    have U3 := U2.new ne0 ee0
    refine ⟨by show 7 ≤ sizeLine; decide, fun po npo => ?_⟩
    generalize epo : upd _ po _ = H4
    have U4 := U3.new npo epo
    refine ⟨by show 2 ≤ sizeLine; decide, fun pt npt => ?_⟩
    generalize ept : upd _ pt _ = H5
    have U5 := U4.new npt ept
    refine ⟨pt, _, rfl, SqT.of U5.g0, rfl, _, _, rfl, _, _, rfl, rfl, ?_⟩
    obtain ⟨B2, S2, _, kpo, U6⟩ := U5.fix2
    obtain ⟨B3, S3, ke0, kt0, kl0, W2⟩ := U6.fix3
    have kpo := S3 _ _ kpo
    have S23 := S2.trans S3
    have R := R.same S23
    have hv := dp_same S23 _ hv
    have SB := S1.trans S23
    clear U1 U2 U3 U4 U5 U6 el0 et0 ee0 epo ept nl0 nt0 ne0 npo npt W1 S1 S2 S3 S23
    obtain ⟨dr, _, _, _, _, _, hdr, _⟩ := (R.same W2.s).ex
    refine ⟨_, rfl, x, dr, _, rfl, hdr, x, b, zs, rfl, R.same W2.s, ?_⟩
    generalize hN : len zs + (b : Int) = N at *
    have N1 : 1 ≤ N := by have := zs_one R; omega
    have N2 : N ≤ 1000000000000000000000000000000 := by omega
    show tSeq _ _ _ _ _
    refine normSt [some (.ref a), some (.int (b : Int)), some v, some (.ref x), some (.ref po), some (.int N), none, none, none, none, none, none, none] rfl ?_
    -- what is no system
    obtain ⟨az, xz, rfl, hsz, hAz⟩ := dp_lst hv
    refine ⟨_, rfl, _, rfl, _, rfl, by show 2 ≤ sizeLine; decide, fun p1 np1 => ?_⟩
    generalize e1 : upd _ p1 _ = G1
    have V1 := W2.new np1 e1
    refine ⟨_, rfl, by show 1 ≤ sizeLine; decide, fun p2 np2 => ?_⟩
    generalize e2 : upd _ p2 _ = G2
    have V2 := V1.new np2 e2
    refine ⟨_, rfl, by show 1 ≤ sizeLine; decide, fun p3 np3 => ?_⟩
    generalize e3 : upd _ p3 _ = G3
    have V3 := V2.new np3 e3
    refine fun p4 np4 => ?_
    generalize e4 : upd _ p4 _ = G4
    have V4 := V3.new np4 e4
    refine ⟨by show 9 ≤ sizeLine; decide, fun p5 np5 => ?_⟩
    generalize e5 : upd _ p5 _ = G5
    have V5 := V4.new np5 e5
    have h5 : G5 p5 = some (.lst [V.non, .int 0, .bl true, .str "", .ref az, .ref p1, .ref p2, .ref p3, .ref p4]) := V5.g0
    have kinds : ∀ v ∈ [V.non, .int 0, .bl true, .str "", .ref az, .ref p1, .ref p2, .ref p3, .ref p4], SysK K C G5 v false := by
      intro v hv
      simp only [List.mem_cons, List.not_mem_nil, or_false] at hv
      rcases hv with rfl | rfl | rfl | rfl | rfl | rfl | rfl | rfl | rfl
      · exact ⟨_, .base .non, kn _ (by decide)⟩
      · exact ⟨_, .base (.int 0), kn _ (by decide)⟩
      · exact ⟨_, .base (.bl true), kn _ (by decide)⟩
      · exact ⟨_, .base (.str _), kn _ (by decide)⟩
      · exact ⟨_, sql_ty (V5.s.seq hsz), kn _ (by decide)⟩
      · exact ⟨_, .base (.tup V5.g4), kn _ (by decide)⟩
      · exact ⟨_, .base (.lst V5.g3), kn _ (by decide)⟩
      · exact ⟨_, .base (.tup V5.g2), kn _ (by decide)⟩
      · exact ⟨_, .base (.dT V5.g1), kn _ (by decide)⟩
    generalize [V.non, .int 0, .bl true, .str "", .ref az, .ref p1, .ref p2, .ref p3, .ref p4] = bads at kinds h5
    obtain ⟨B4, S4, kp5, V6⟩ := V5.fix
    have V6 : Own B4 [(p4, .dT []), (p3, _), (p2, _), (p1, _), (a, reelO d s0 t)] G5 := V6
    have W5 : Own B4 [(a, reelO d s0 t)] G5 := V6.sub ((((List.Sublist.refl _).cons _).cons _).cons _ |>.cons _)
    have R := R.same S4
    have SB := SB.trans S4
    have kpo := S4 _ _ kpo
    have ke0 := S4 _ _ ke0
    have kt0 := S4 _ _ kt0
    have kl0 := S4 _ _ kl0
    clear V1 V2 V3 V4 V5 V6 W2 e1 e2 e3 e4 e5 np1 np2 np3 np4 np5 S4
    refine ⟨p5, rfl, ⟨_, SqL.of h5⟩, for_list (K := K) (a := p5) (xs := bads) (fun i σ H' => ∃ y6 y7 y8, σ = [some (.ref a), some (.int (b : Int)), some (.ref az), some (.ref x), some (.ref po), some (.int N), y6, y7, y8, none, none, none, none] ∧ Same G5 H') ⟨_, _, _, rfl, Same.refl _⟩ (fun i σ H' _ ⟨_, _, _, _, S⟩ => SqL.of (S _ _ h5)) ?_ ?_⟩
    · rintro j v σ H6 hj ⟨y6, y7, y8, rfl, S6⟩
      have hk := sysK_same S6 (kinds v (List.mem_of_getElem? hj))
      refine ⟨by show 2 ≤ sizeLine; decide, fun q1 nq1 => ?_⟩
      generalize e1 : upd _ q1 _ = H7
      have V1 := (Own.nil (H := H6)).new nq1 e1
      refine ⟨by show 2 ≤ sizeLine; decide, fun q2 nq2 => ?_⟩
      generalize e2 : upd _ q2 _ = H8
      have V2 := V1.new nq2 e2
      refine ⟨by show 2 ≤ sizeLine; decide, fun q3 nq3 => ?_⟩
      generalize e3 : upd _ q3 _ = H9
      have V3 := V2.new nq3 e3
      have k1 := V3.g2
      have k2 := V3.g1
      have k3 := V3.g0
      have S69 := V3.s
      clear V1 V2 V3 e1 e2 e3
      refine ⟨q3, rfl, ⟨_, SqT.of k3⟩, for_tup (K := K) (a := q3) (xs := [V.ref q1, .ref q2]) (fun i σ H' => ∃ y7 y8, σ = [some (.ref a), some (.int (b : Int)), some (.ref az), some (.ref x), some (.ref po), some (.int N), some v, y7, y8, none, none, none, none] ∧ Same H9 H') ⟨_, _, rfl, Same.refl _⟩ (fun i σ H' _ ⟨_, _, _, S⟩ => SqT.of (S _ _ k3)) ?_ ?_⟩
      · rintro i2 u σ H10 hi2 ⟨y7, y8, rfl, S10⟩
        have hl2 : i2 < 2 := (List.getElem?_eq_some_iff.mp hi2).1
        obtain ⟨p, w2, w3, d2, d3, rfl, kp, hp⟩ : ∃ p w2 w3 d2 d3, u = V.ref p ∧ H9 p = some (.tup [w2, w3]) ∧ PairOk K H10 w2 w3 d2 d3 := by
          rcases (show i2 = 0 ∨ i2 = 1 by omega) with rfl | rfl
          · cases hi2
            exact ⟨q1, _, _, _, _, rfl, k1, pair_vp (pln_int (i := 0) (by decide)).val (pln_int (i := 1) (by decide))⟩
          · cases hi2
            exact ⟨q2, _, _, _, _, rfl, k2, pair_vp pln_non.val pln_non⟩
        refine ⟨p, _, rfl, SqT.of (S10 _ _ kp), rfl, _, _, rfl, _, _, rfl, rfl, ?_⟩
        have hk := sysK_same (S69.trans S10) hk
        refine ⟨_, rfl, fun D nD => ?_⟩
        refine lc_range (lo := 0) (n := 5) (fun i H' => Own H10 [(D, .lst ((List.replicate i (Str.ofString "system")).map V.str))] H') ((Own.nil (H := H10)).new nD rfl) ?_ ?_
        · rintro i H' hi WD
          have hiN : i < 5 := hi
          refine ⟨rfl, ?_⟩
          refine ⟨_, rfl, _, rfl, _, rfl, _, rfl, i, _, _, _, _, _, by rw [Int.zero_add]; rfl, by omega, PairOk.same (hp) WD.s, door_not (sysK_same WD.s hk) fun H'' S'' => ?_⟩
          have WE := WD.mono S''
          refine ⟨_, WE.g0, by rw [List.length_map, List.length_replicate]; exact big (by omega), ?_⟩
          generalize eD : upd _ D _ = H3
          rw [← rep_snoc]
          exact WE.set0 eD
        rintro HC WD
        refine ⟨by show 1 ≤ sizeLine; decide, fun r1 nr1 => ?_⟩
        generalize er1 : upd _ r1 _ = HC1
        have WC1 := WD.new nr1 er1
        refine ⟨r1, 5, _, rfl, rfl, WC1.g0, by decide, by decide, by show 1 * 5 ≤ sizeLine; decide, fun r2 nr2 => ?_⟩
        rw [rep_one]
        generalize er2 : upd _ r2 _ = HC2
        have WC2 := WC1.new nr2 er2
        refine neS_go (ls := List.replicate 5 (Str.ofString "system")) (ms := List.replicate 5 (Str.ofString "system")) (.lst (SqL.of WC2.g2) (dpAll_strs _)) (.lst (SqL.of (show HC2 r2 = some (.lst ((List.replicate 5 (Str.ofString "system")).map V.str)) from WC2.g0)) (dpAll_strs _)) rfl (by decide +kernel) (by decide +kernel) ⟨_, rfl, iteF ?_⟩
        have SC := WC2.s
        exact ⟨_, _, rfl, S10.trans SC⟩
      · rintro σ H10 ⟨y7, y8, rfl, S10⟩
        exact ⟨_, _, _, rfl, S6.trans (S69.trans S10)⟩
    rintro σ H6 ⟨y6, y7, y8, rfl, S6⟩
    have W6 := W5.mono S6
    -- begins that are none
    have hz100 : zs.length ≤ 100 := by omega
    have big0 : ((10 : Int) ^ (60 : Int).toNat).natAbs.log2 < 1920 := by decide +kernel
    have big1 : (1000000000000000000000000000000 : Int) + 1 < (10 : Int) ^ (60 : Int).toNat := by decide +kernel
    have N3 : N.natAbs.log2 < 1920 := num_log (by omega)
    have N4 : (N + 1).natAbs.log2 < 1920 := num_log (by omega)
    have odds : ∀ {Gx : Hp}, Same B4 Gx → ∀ v ∈ [V.non, .bl true, .bl false, .str "0", .ref l0, .ref t0, .ref e0], ∃ d j, Val K Gx v d j ∧ (∀ lo hi, within j lo hi = false) ∧ isIJ j = false := by
      intro Gx SG v hv
      simp only [List.mem_cons, List.not_mem_nil, or_false] at hv
      rcases hv with rfl | rfl | rfl | rfl | rfl | rfl | rfl
      · exact ⟨_, _, pln_non.val, fun _ _ => rfl, rfl⟩
      · exact ⟨_, _, pln_bl.val, fun _ _ => rfl, rfl⟩
      · exact ⟨_, _, pln_bl.val, fun _ _ => rfl, rfl⟩
      · exact ⟨_, _, (pln_str (by decide +kernel) (by decide +kernel)).val, fun _ _ => rfl, rfl⟩
      · exact ⟨_, _, val_l0 (SG _ _ kl0), fun _ _ => rfl, rfl⟩
      · exact ⟨_, _, val_t0 (SG _ _ kt0), fun _ _ => rfl, rfl⟩
      · exact ⟨_, _, val_emp (SG _ _ ke0), fun _ _ => rfl, rfl⟩
    refine ⟨_, rfl, 1, rfl, _, rfl, 10, 60, rfl, rfl, ⟨by decide, by decide, by decide⟩, by show 3 ≤ sizeLine; decide, fun m1 nm1 => ?_⟩
    generalize em1 : upd _ m1 _ = G1
    have V1 := W6.new nm1 em1
    refine ⟨po, m1, _, _, rfl, rfl, SqL.of (V1.s _ _ kpo), SqL.of V1.g0, by show 7 + 3 ≤ sizeLine; decide, fun m2 nm2 => ?_⟩
    generalize em2 : upd _ m2 _ = G2
    have V2 := V1.new nm2 em2
    have h2 : G2 m2 = some (.lst ([V.non, .bl true, .bl false, .str "0", .ref l0, .ref t0, .ref e0] ++ [V.int (-1), .int N, .int ((10 : Int) ^ (60 : Int).toNat)])) := V2.g0
    have vals : ∀ v ∈ [V.non, .bl true, .bl false, .str "0", .ref l0, .ref t0, .ref e0] ++ [V.int (-1), .int N, .int ((10 : Int) ^ (60 : Int).toNat)], ∃ d j, Val K G2 v d j ∧ within j 0 (N - 1) = false := by
      intro v hv
      rcases List.mem_append.mp hv with h | h
      · obtain ⟨d, j, h1, h2, _⟩ := odds V2.s v h
        exact ⟨d, j, h1, h2 _ _⟩
      · simp only [List.mem_cons, List.not_mem_nil, or_false] at h
        rcases h with rfl | rfl | rfl
        · exact ⟨_, _, (pln_int (by decide)).val, within_no (by omega)⟩
        · exact ⟨_, _, (pln_int N3).val, within_no (by omega)⟩
        · exact ⟨_, _, (pln_int big0).val, within_no (by omega)⟩
    generalize [V.non, .bl true, .bl false, .str "0", .ref l0, .ref t0, .ref e0] ++ [V.int (-1), .int N, .int ((10 : Int) ^ (60 : Int).toNat)] = bads2 at vals h2
    have W7 : Own B4 [(a, reelO d s0 t)] G2 := V2.tl.tl
    clear V1 V2 em1 em2 nm1 nm2 W6 kinds h5
    refine ⟨m2, rfl, ⟨_, SqL.of h2⟩, for_list (K := K) (a := m2) (xs := bads2) (fun i σ H' => ∃ y6 y7 y8, σ = [some (.ref a), some (.int (b : Int)), some (.ref az), some (.ref x), some (.ref po), some (.int N), y6, y7, y8, none, none, none, none] ∧ Same G2 H') ⟨_, _, _, rfl, Same.refl _⟩ (fun i σ H' _ ⟨_, _, _, _, S⟩ => SqL.of (S _ _ h2)) ?_ ?_⟩
    · rintro j v σ H7 hj ⟨y6, y7, y8, rfl, S7⟩
      obtain ⟨dv, jv, hv0, hw⟩ := vals v (List.mem_of_getElem? hj)
      have hv0 := hv0.same S7
      refine ⟨_, rfl, _, rfl, by show 3 ≤ sizeLine; decide, fun q3 nq3 => ?_⟩
      generalize e3 : upd _ q3 _ = H9
      have V3 := (Own.nil (H := H7)).new nq3 e3
      have k3 := V3.g0
      have S79 := V3.s
      clear V3 e3
      refine ⟨q3, rfl, ⟨_, SqT.of k3⟩, for_tup (K := K) (a := q3) (xs := [V.int N, .non, v]) (fun i σ H' => ∃ y8, σ = [some (.ref a), some (.int (b : Int)), some (.ref az), some (.ref x), some (.ref po), some (.int N), some v, y7, y8, none, none, none, none] ∧ Same H9 H') ⟨_, rfl, Same.refl _⟩ (fun i σ H' _ ⟨_, _, S⟩ => SqT.of (S _ _ k3)) ?_ ?_⟩
      · rintro i2 u σ H10 hi2 ⟨y8, rfl, S10⟩
        have hl2 : i2 < 3 := (List.getElem?_eq_some_iff.mp hi2).1
        have hv0 := hv0.same (S79.trans S10)
        obtain ⟨du, ju, hp, hju⟩ : ∃ du ju, PairOk K H10 v u dv du ∧ Jr K H10 u ju := by
          rcases (show i2 = 0 ∨ i2 = 1 ∨ i2 = 2 by omega) with rfl | rfl | rfl
          · cases hi2
            exact ⟨_, _, pair_vp hv0 (pln_int N3), .int _⟩
          · cases hi2
            exact ⟨_, _, pair_vp hv0 pln_non, (pln_non (K := K)).jr⟩
          · cases hi2
            exact ⟨_, _, pair_vv hv0, hv0.jr⟩
        have RR := R.same ((W7.s.trans S7).trans (S79.trans S10))
        have hs : spanJ jv ju (len zs + (b : Int)) = false := by rw [hN]; exact spanJ_b hw
        refine ⟨_, rfl, fun D nD => ?_⟩
        refine lc_range (lo := 0) (n := 4) (fun i H' => Own H10 [(D, .lst ((List.replicate i (Str.ofString "span")).map V.str))] H') ((Own.nil (H := H10)).new nD rfl) ?_ ?_
        · rintro i H' hi WD
          have hiN : i < 4 := hi
          refine ⟨rfl, ?_⟩
          refine ⟨_, rfl, _, rfl, _, rfl, _, rfl, i, _, _, _, _, _, by rw [Int.zero_add]; rfl, by omega, PairOk.same (hp) WD.s, door_span ks (RR.same WD.s) hz100 hiN (jr_same WD.s _ hv0.jr) (jr_same WD.s _ hju) hs fun H'' S'' => ?_⟩
          have WE := WD.mono S''
          refine ⟨_, WE.g0, by rw [List.length_map, List.length_replicate]; exact big (by omega), ?_⟩
          generalize eD : upd _ D _ = H3
          rw [← rep_snoc]
          exact WE.set0 eD
        rintro HC WD
        refine ⟨by show 1 ≤ sizeLine; decide, fun r1 nr1 => ?_⟩
        generalize er1 : upd _ r1 _ = HC1
        have WC1 := WD.new nr1 er1
        refine ⟨r1, 4, _, rfl, rfl, WC1.g0, by decide, by decide, by show 1 * 4 ≤ sizeLine; decide, fun r2 nr2 => ?_⟩
        rw [rep_one]
        generalize er2 : upd _ r2 _ = HC2
        have WC2 := WC1.new nr2 er2
        refine neS_go (ls := List.replicate 4 (Str.ofString "span")) (ms := List.replicate 4 (Str.ofString "span")) (.lst (SqL.of WC2.g2) (dpAll_strs _)) (.lst (SqL.of (show HC2 r2 = some (.lst ((List.replicate 4 (Str.ofString "span")).map V.str)) from WC2.g0)) (dpAll_strs _)) rfl (by decide +kernel) (by decide +kernel) ⟨_, rfl, iteF ?_⟩
        have SC := WC2.s
        exact ⟨_, rfl, S10.trans SC⟩
      · rintro σ H10 ⟨y8, rfl, S10⟩
        exact ⟨_, _, _, rfl, S7.trans (S79.trans S10)⟩
    rintro σ H7 ⟨y6, y7, y8, rfl, S7⟩
    have W8 := W7.mono S7
    clear W7 S7 vals h2
    -- ends that are none
    refine ⟨_, rfl, _, rfl, a, d, s0, t, N, T, B4, [], rfl, W8, RL, by omega, N1, by omega, fun H8 n dn tn n0 nN RL2 W9 => ?_⟩
    refine ⟨_, rfl, 1, rfl, _, rfl, _, rfl, _, _, rfl, rfl, 10, 60, rfl, rfl, ⟨by decide, by decide, by decide⟩, by show 5 ≤ sizeLine; decide, fun m1 nm1 => ?_⟩
    generalize em1 : upd _ m1 _ = G1
    have V1 := W9.new nm1 em1
    refine ⟨po, m1, _, _, rfl, rfl, SqL.of (V1.s _ _ kpo), SqL.of V1.g0, by show 7 + 5 ≤ sizeLine; decide, fun m2 nm2 => ?_⟩
    generalize em2 : upd _ m2 _ = G2
    have V2 := V1.new nm2 em2
    have h2 : G2 m2 = some (.lst ([V.non, .bl true, .bl false, .str "0", .ref l0, .ref t0, .ref e0] ++ [V.int (-1), .int 0, .int n, .int (N + 1), .int ((10 : Int) ^ (60 : Int).toNat)])) := V2.g0
    have n3 : n.natAbs.log2 < 1920 := num_log (by omega)
    have vals : ∀ v ∈ [V.non, .bl true, .bl false, .str "0", .ref l0, .ref t0, .ref e0] ++ [V.int (-1), .int 0, .int n, .int (N + 1), .int ((10 : Int) ^ (60 : Int).toNat)], ∃ d j, Val K G2 v d j ∧ within j (n + 1) N = false := by
      intro v hv
      rcases List.mem_append.mp hv with h | h
      · obtain ⟨d, j, h1, h2, _⟩ := odds V2.s v h
        exact ⟨d, j, h1, h2 _ _⟩
      · simp only [List.mem_cons, List.not_mem_nil, or_false] at h
        rcases h with rfl | rfl | rfl | rfl | rfl
        · exact ⟨_, _, (pln_int (by decide)).val, within_no (by omega)⟩
        · exact ⟨_, _, (pln_int (by decide)).val, within_no (by omega)⟩
        · exact ⟨_, _, (pln_int n3).val, within_no (by omega)⟩
        · exact ⟨_, _, (pln_int N4).val, within_no (by omega)⟩
        · exact ⟨_, _, (pln_int big0).val, within_no (by omega)⟩
    generalize [V.non, .bl true, .bl false, .str "0", .ref l0, .ref t0, .ref e0] ++ [V.int (-1), .int 0, .int n, .int (N + 1), .int ((10 : Int) ^ (60 : Int).toNat)] = bads3 at vals h2
    have W10 : Own B4 [(a, reelO dn s0 tn)] G2 := V2.tl.tl
    clear V1 V2 em1 em2 nm1 nm2 W8 W9
    refine ⟨m2, rfl, ⟨_, SqL.of h2⟩, for_list (K := K) (a := m2) (xs := bads3) (fun i σ H' => ∃ y6, σ = [some (.ref a), some (.int (b : Int)), some (.ref az), some (.ref x), some (.ref po), some (.int N), y6, y7, y8, some (.int n), none, none, none] ∧ Same G2 H') ⟨_, rfl, Same.refl _⟩ (fun i σ H' _ ⟨_, _, S⟩ => SqL.of (S _ _ h2)) ?_ ?_⟩
    · rintro j v σ H10 hj ⟨y6, rfl, S7⟩
      obtain ⟨dv, jv, hv0, hw⟩ := vals v (List.mem_of_getElem? hj)
      have hv0 := hv0.same S7
      have RR := R.same (W10.s.trans S7)
      have hs : spanJ (.int n) jv (len zs + (b : Int)) = false := by rw [hN]; exact spanJ_e hw
      refine ⟨_, rfl, fun D nD => ?_⟩
      refine lc_range (lo := 0) (n := 4) (fun i H' => Own H10 [(D, .lst ((List.replicate i (Str.ofString "span")).map V.str))] H') ((Own.nil (H := H10)).new nD rfl) ?_ ?_
      · rintro i H' hi WD
        have hiN : i < 4 := hi
        refine ⟨rfl, ?_⟩
        refine ⟨_, rfl, _, rfl, _, rfl, _, rfl, i, _, _, _, _, _, by rw [Int.zero_add]; rfl, by omega, PairOk.same (pair_pv (pln_int n3) hv0) WD.s, door_span ks (RR.same WD.s) hz100 hiN (.int n) (jr_same WD.s _ hv0.jr) hs fun H'' S'' => ?_⟩
        have WE := WD.mono S''
        refine ⟨_, WE.g0, by rw [List.length_map, List.length_replicate]; exact big (by omega), ?_⟩
        generalize eD : upd _ D _ = H3
        rw [← rep_snoc]
        exact WE.set0 eD
      rintro HC WD
      refine ⟨by show 1 ≤ sizeLine; decide, fun r1 nr1 => ?_⟩
      generalize er1 : upd _ r1 _ = HC1
      have WC1 := WD.new nr1 er1
      refine ⟨r1, 4, _, rfl, rfl, WC1.g0, by decide, by decide, by show 1 * 4 ≤ sizeLine; decide, fun r2 nr2 => ?_⟩
      rw [rep_one]
      generalize er2 : upd _ r2 _ = HC2
      have WC2 := WC1.new nr2 er2
      refine neS_go (ls := List.replicate 4 (Str.ofString "span")) (ms := List.replicate 4 (Str.ofString "span")) (.lst (SqL.of WC2.g2) (dpAll_strs _)) (.lst (SqL.of (show HC2 r2 = some (.lst ((List.replicate 4 (Str.ofString "span")).map V.str)) from WC2.g0)) (dpAll_strs _)) rfl (by decide +kernel) (by decide +kernel) ⟨_, rfl, iteF ?_⟩
      have SC := WC2.s
      exact ⟨_, rfl, S7.trans SC⟩
    rintro σ H7 ⟨y6, rfl, S7⟩
    have W11 := W10.mono S7
    clear W10 S7 vals h2
    -- sizes that are none
    refine ⟨by show 1 ≤ sizeLine; decide, fun l1 nl1 => ?_⟩
    generalize el1 : upd _ l1 _ = G1
    have V1 := W11.new nl1 el1
    refine ⟨by show 1 ≤ sizeLine; decide, fun t1 nt1 => ?_⟩
    generalize et1 : upd _ t1 _ = G2
    have V2 := V1.new nt1 et1
    refine fun d1 nd1 => ?_
    generalize ed1 : upd _ d1 _ = G3
    have V3 := V2.new nd1 ed1
    refine ⟨by show 7 ≤ sizeLine; decide, fun m2 nm2 => ?_⟩
    generalize em2 : upd _ m2 _ = G4
    have V4 := V3.new nm2 em2
    have h2 : G4 m2 = some (.lst [V.non, .bl true, .bl false, .str "0", .ref l1, .ref t1, .ref d1]) := V4.g0
    have vals : ∀ v ∈ [V.non, .bl true, .bl false, .str "0", .ref l1, .ref t1, .ref d1], ∃ d j, Val K G4 v d j ∧ isIJ j = false := by
      intro v hv
      simp only [List.mem_cons, List.not_mem_nil, or_false] at hv
      rcases hv with rfl | rfl | rfl | rfl | rfl | rfl | rfl
      · exact ⟨_, _, pln_non.val, rfl⟩
      · exact ⟨_, _, pln_bl.val, rfl⟩
      · exact ⟨_, _, pln_bl.val, rfl⟩
      · exact ⟨_, _, (pln_str (by decide +kernel) (by decide +kernel)).val, rfl⟩
      · exact ⟨_, _, val_l0 V4.g3, rfl⟩
      · exact ⟨_, _, val_t0 V4.g2, rfl⟩
      · exact ⟨_, _, val_emp V4.g1, rfl⟩
    generalize [V.non, .bl true, .bl false, .str "0", .ref l1, .ref t1, .ref d1] = bads4 at vals h2
    have W12 : Own B4 [(a, reelO dn s0 tn)] G4 := V4.tl.tl.tl.tl
    clear V1 V2 V3 V4 el1 et1 ed1 em2 nl1 nt1 nd1 nm2 W11
    refine ⟨m2, rfl, ⟨_, SqL.of h2⟩, for_list (K := K) (a := m2) (xs := bads4) (fun i σ H' => ∃ y6, σ = [some (.ref a), some (.int (b : Int)), some (.ref az), some (.ref x), some (.ref po), some (.int N), y6, y7, y8, some (.int n), none, none, none] ∧ Same G4 H') ⟨_, rfl, Same.refl _⟩ (fun i σ H' _ ⟨_, _, S⟩ => SqL.of (S _ _ h2)) ?_ ?_⟩
    · rintro j v σ H10 hj ⟨y6, rfl, S7⟩
      obtain ⟨dv, jv, hv0, hw⟩ := vals v (List.mem_of_getElem? hj)
      have hv0 := hv0.same S7
      have RR := R.same (W12.s.trans S7)
      refine ⟨_, rfl, _, rfl, 4, _, _, _, _, _, rfl, by decide, pair_vp hv0 pln_non, door_num ks RR hz100 hv0.jr (pln_non (K := K)).jr hw fun H'' S'' => ?_⟩
      refine ⟨rfl, _, rfl, ?_⟩
      rw [ne_str]
      exact iteF ⟨_, rfl, S7.trans S''⟩
    rintro σ H7 ⟨y6, rfl, S7⟩
    have W13 := W12.mono S7
    clear W12 S7 vals h2
    -- what is taken
    have RE := R.same W13.s
    refine ⟨_, rfl, fun D nD => ?_⟩
    refine lc_range (lo := 0) (n := 4) (fun i H' => Own H7 [(D, .lst ((List.replicate i (Str.ofString "fine")).map V.str))] H') ((Own.nil (H := H7)).new nD rfl) ?_ ?_
    · rintro i H' hi WD
      have hiN : i < 4 := hi
      refine ⟨rfl, ?_⟩
      refine ⟨_, rfl, _, rfl, _, rfl, i, _, _, _, _, _, by rw [Int.zero_add]; rfl, by omega, pair_vp (pln_int (i := 0) (by decide)).val (pln_int N3), door_fine ks (RE.same WD.s) hz100 hiN (by omega) N1 (by omega) fun H'' S'' => ?_⟩
      have WE := WD.mono S''
      refine ⟨_, WE.g0, by rw [List.length_map, List.length_replicate]; exact big (by omega), ?_⟩
      generalize eD : upd _ D _ = H3
      rw [← rep_snoc]
      exact WE.set0 eD
    rintro HC WD
    have kD := WD.g0
    have SD := WD.s
    refine ⟨_, rfl, _, rfl, fun D2 nD2 => ?_⟩
    refine lc_range (lo := 0) (n := 4) (fun i H' => Own HC [(D2, .lst ((List.replicate i (Str.ofString "fine")).map V.str))] H') ((Own.nil (H := HC)).new nD2 rfl) ?_ ?_
    · rintro i H' hi WD
      have hiN : i < 4 := hi
      refine ⟨rfl, ?_⟩
      refine ⟨_, rfl, _, rfl, _, rfl, _, _, rfl, rfl, _, rfl, i, _, _, _, _, _, by rw [Int.zero_add]; rfl, by omega, pair_vp (pln_int (i := N - 1) (num_log (by omega))).val (pln_int N3), door_fine ks (RE.same (SD.trans WD.s)) hz100 hiN (by omega) (by omega) (by omega) fun H'' S'' => ?_⟩
      have WE := WD.mono S''
      refine ⟨_, WE.g0, by rw [List.length_map, List.length_replicate]; exact big (by omega), ?_⟩
      generalize eD : upd _ D2 _ = H3
      rw [← rep_snoc]
      exact WE.set0 eD
    rintro HE WD2
    refine ⟨D, D2, _, _, rfl, rfl, SqL.of (WD2.s _ _ kD), SqL.of WD2.g0, by show 4 + 4 ≤ sizeLine; decide, fun c1 nc1 => ?_⟩
    generalize ec1 : upd _ c1 _ = HE1
    have V1 := WD2.new nc1 ec1
    have kc1 : HE1 c1 = some (.lst ((List.replicate 8 (Str.ofString "fine")).map V.str)) := V1.g0
    have SE := SD.trans V1.s
    clear V1 WD WD2 ec1
    refine ⟨_, rfl, 10, 60, rfl, rfl, ⟨by decide, by decide, by decide⟩, _, rfl, 10, 60, rfl, rfl, ⟨by decide, by decide, by decide⟩, by show 3 ≤ sizeLine; decide, fun q4 nq4 => ?_⟩
    generalize eq4 : upd _ q4 _ = HE2
    have V2 := (Own.nil (H := HE1)).new nq4 eq4
    have kq4 := V2.g0
    have SE2 := SE.trans V2.s
    have kc1 := V2.s _ _ kc1
    clear V2 eq4
    refine ⟨q4, rfl, ⟨_, SqT.of kq4⟩, fun D3 nD3 => ?_⟩
    refine lc_tup (K := K) (a := q4) (xs := [V.int 0, .int (-((10 : Int) ^ (60 : Int).toNat)), .int ((10 : Int) ^ (60 : Int).toNat)]) (fun i H' => Own HE2 [(D3, .lst ((List.replicate i (Str.ofString "fine")).map V.str))] H') ((Own.nil (H := HE2)).new nD3 rfl) (fun i H' _ WD => SqT.of (WD.s _ _ kq4)) ?_ ?_
    · rintro i v H' hv WD
      have hi3 : i < 3 := (List.getElem?_eq_some_iff.mp hv).1
      obtain ⟨sz, rfl, hsz⟩ : ∃ sz : Int, v = .int sz ∧ sz.natAbs.log2 < 1920 := by
        rcases (show i = 0 ∨ i = 1 ∨ i = 2 by omega) with rfl | rfl | rfl
        · cases hv
          exact ⟨_, rfl, by decide⟩
        · cases hv
          exact ⟨_, rfl, by rw [Int.natAbs_neg]; exact big0⟩
        · cases hv
          exact ⟨_, rfl, big0⟩
      refine ⟨rfl, ?_⟩
      refine ⟨_, rfl, _, rfl, 4, _, _, _, _, _, rfl, by decide, pair_vp (pln_int hsz).val pln_non, door_fine4 ks (RE.same (SE2.trans WD.s)) hz100 (pln_non (K := K)).jr fun H'' S'' => ?_⟩
      have WE := WD.mono S''
      refine ⟨_, WE.g0, by rw [List.length_map, List.length_replicate]; exact big (by omega), ?_⟩
      generalize eD : upd _ D3 _ = H3
      rw [← rep_snoc]
      exact WE.set0 eD
    rintro HF WD3
    refine ⟨c1, D3, _, _, rfl, rfl, SqL.of (WD3.s _ _ kc1), SqL.of WD3.g0, by show 8 + 3 ≤ sizeLine; decide, fun c2 nc2 => ?_⟩
    generalize ec2 : upd _ c2 _ = HF1
    have V1 := WD3.new nc2 ec2
    have kc2 : HF1 c2 = some (.lst ((List.replicate 11 (Str.ofString "fine")).map V.str)) := V1.g0
    have SF := SE2.trans V1.s
    clear V1 WD3 ec2
    refine ⟨by show 1 ≤ sizeLine; decide, fun r1 nr1 => ?_⟩
    generalize er1 : upd _ r1 _ = HC1
    have WC1 := (Own.nil (H := HF1)).new nr1 er1
    refine ⟨r1, 11, _, rfl, rfl, WC1.g0, by decide, by decide, by show 1 * 11 ≤ sizeLine; decide, fun r2 nr2 => ?_⟩
    rw [rep_one]
    generalize er2 : upd _ r2 _ = HC2
    have WC2 := WC1.new nr2 er2
    have f1 : Dp K HC2 (.ref c2) (.list ((List.replicate 11 (Str.ofString "fine")).map .str)) := .lst (SqL.of (WC2.s _ _ kc2)) (dpAll_strs _)
    have f2 : Dp K HC2 (.ref r2) (.list ((List.replicate 11 (Str.ofString "fine")).map .str)) := .lst (SqL.of (show HC2 r2 = some (.lst ((List.replicate 11 (Str.ofString "fine")).map V.str)) from WC2.g0)) (dpAll_strs _)
    refine ⟨_, _, f1, f2, by decide +kernel, by decide +kernel, ?_⟩
    rw [PySem.SeqAt.eqv_refl _ (by decide +kernel)]
    exact q HC2 B4 dn tn RL2 SB (W13.mono (SF.trans WC2.s))
end
end Fb
namespace Fb
open PySem PySem.Spec PyProof.Rows L2
section
variable {P : Program} {w : World} {K : PySem.W.Frag} {mg : Str → Option Value} {base : Heap} {E : Nat → Addr}
theorem sc_law : FnScope nm_law ["_law_script"] (defScope s_law) := ⟨rfl, rfl, rfl, by decide +kernel, rfl, by decide +kernel, by decide +kernel⟩
theorem ok_law {f : Addr} {C : Cs} {fd : FuncData} (F : Fun K "law" "law" s_law f fd) (bt : Bt mg bn) (D_law_wound : Def P w K mg base CX0 1 "_law_wound" ["_law_script", "_law_k"] (spWound K)) (D_law_spin : Def P w K mg base CX0 1 "_law_spin" ["_law_reel", "_law_many"] spSpin)
    (D_law_zones : Def P w K mg base CX0 3 "_law_zones" ["_law_reel", "_law_many", "_law_most", "_law_reach", "_law_borders"] (spLZones K)) (D_law_far_zones : Def P w K mg base CX0 3 "_law_far_zones" ["_law_reel", "_law_many", "_law_reach", "_law_borders"] (spFZones K))
    (D_law_right : DefG P w K mg base CX0 12 "_law_right" ["_law_reel", "_law_borders", "_law_zones_here"] (spR15 K)) : FnG P w K mg base CX0 13 f fd ["_law_script"] (spLaw K) := by
  refine fnG_of F sc_law (fun vs H Q E' h => ?_) (fun cdv A outer s H vs Q E' gd hr h => ?_)
  · obtain ⟨a, ns, rfl, _⟩ := h
    rfl
  · obtain ⟨a, ns, rfl, hs, q⟩ := h
    refine ⟨_, (pss_cons (ps_for (passes_of rfl) rfl (pi_range1L (by rfl) (bt "range" (by decide)) (pa_cons (pe_callB (call_max2 rfl) (by rfl) (bt "max" (by decide)) PyProof.Rows.boot_max (pa_cons pe_int (pa_cons (pe_callB (call_min2 rfl) (by rfl) (bt "min" (by decide)) PyProof.Rows.boot_min (pa_cons pe_int (pa_cons (pe_callB call_len_seq (by rfl) (bt "len" (by decide)) PySem.boot_len (pa_cons (pv 0) pa_nil)) pa_nil))) pa_nil))) pa_nil)) (pg_name (i := 1) sc_law.nd rfl (.inl rfl))
        (pss_cons (ps_set (i := 2) sc_law.nd rfl (.inl rfl) (pe_callD D_law_wound hr (by decide) pass0 (pa_cons (pv 0) (pa_cons (pv 1) pa_nil))))
        (pss_cons (ps_set (i := 3) sc_law.nd rfl (.inl rfl) (pe_callD D_law_spin hr (by decide) pass0 (pa_cons (pv 2) (pa_cons pe_int pa_nil))))
        (pss_cons (ps_if (pt_not (pt_val (pe_callDG D_law_right gd hr (by decide) pass0 (pa_cons (pv 2) (pa_cons (pv 3) (pa_cons (pe_callD D_law_zones hr (by decide) pass0 (pa_cons (pv 2) (pa_cons pe_int (pa_cons pe_int (pa_cons pe_int (pa_cons (pv 3) pa_nil)))))) pa_nil))))))
          (pss_one (ps_ret pe_bl))
          pss_nil)
        (pss_one (ps_if (pt_not (pt_val (pe_callDG D_law_right gd hr (by decide) pass0 (pa_cons (pv 2) (pa_cons (pv 3) (pa_cons (pe_callD D_law_far_zones hr (by decide) pass0 (pa_cons (pv 2) (pa_cons pe_int (pa_cons pe_int (pa_cons (pv 3) pa_nil))))) pa_nil))))))
          (pss_one (ps_ret pe_bl))
          pss_nil))))))
      (pss_one (ps_ret pe_bl))), ?_⟩
    refine ⟨_, rfl, a, _, rfl, .inl hs, _, _, rfl, _, _, rfl, _, rfl, ?_⟩
    generalize hm : (if (if ((ns.map V.int).length : Int) < 6 then ((ns.map V.int).length : Int) else 6) > 1 then (if ((ns.map V.int).length : Int) < 6 then ((ns.map V.int).length : Int) else 6) else 1) = m
    have hm6 : m ≤ 6 := by
      rw [← hm]
      split
      · split <;> omega
      · omega
    refine for_range (lo := 0) (n := m.toNat) (fun i σ H' => ∃ y1 y2 y3, σ = [some (.ref a), y1, y2, y3] ∧ Same H H') ⟨none, none, none, rfl, Same.refl _⟩ ?_ (fun σ H' _ => q H')
    rintro i σ H' hi ⟨y1, y2, y3, rfl, S⟩
    refine ⟨_, rfl, _, rfl, a, ns, i, H', [], by rw [Int.zero_add]; rfl, S.seq hs, by omega, Own.nil, fun H2 p d s0 R W => ?_⟩
    refine ⟨_, rfl, p, d, s0, 0, 5, 0, H', [], rfl, W, R, by decide, by decide, by decide, fun H3 n d3 t3 n0 n5 R3 W3 => ?_⟩
    obtain ⟨b, rfl⟩ := Int.eq_ofNat_of_zero_le n0
    refine ⟨_, rfl, _, rfl, _, rfl, _, rfl, p, d3, s0, t3, 3, 6, 6, b, 0 + 1, H', [], rfl, W3, R3, by decide, by decide, by decide, by decide, by decide, by decide, by decide, by omega, fun H4 B4 pz xs zs d4 t4 R4 S4 W4 hx hz h1 h2 => ?_⟩
    obtain ⟨B5, S5, kz, W5⟩ := W4.fix
    refine ⟨p, d4, s0, t4, 6, b, 0 + 1 + 5000, .ref pz, zs, B5, rfl, W5, R4, by decide, by omega, .lst (SqL.of kz) (dpAll_same S5 _ hx), hz, by decide, h1, Nat.le_trans h2 (by decide), fun H6 B6 d6 t6 R6 S6 W6 => ⟨true, rfl, iteF ?_⟩⟩
    refine ⟨_, rfl, _, rfl, _, rfl, _, rfl, p, d6, s0, t6, 3, 6, b, 0 + 1 + 5000 + 1, B6, [], rfl, W6, R6, by decide, by decide, by decide, by decide, by decide, by omega, fun H7 B7 pz2 xs2 zs2 d7 t7 R7 S7 W7 hx2 hz2 g1 g2 => ?_⟩
    obtain ⟨B8, S8, kz2, W8⟩ := W7.fix
    refine ⟨p, d7, s0, t7, 200000000000000000000000000000, b, 0 + 1 + 5000 + 1 + 5000, .ref pz2, zs2, B8, rfl, W8, R7, by decide, by omega, .lst (SqL.of kz2) (dpAll_same S8 _ hx2), hz2, by decide, g1, Nat.le_trans g2 (by decide), fun H9 B9 d9 t9 R9 S9 W9 => ⟨true, rfl, iteF ?_⟩⟩
    exact ⟨_, _, _, rfl, S.trans (S4.trans (S5.trans (S6.trans (S7.trans (S8.trans (S9.trans W9.s))))))⟩
end
end Fb
set_option maxHeartbeats 4000000
namespace Fe
open PySem PySem.Spec PyProof.Rows L2 He Hx Fb
section
variable {P : Program} {w : World} {K : PySem.W.Frag} {mg : Str → Option Value} {base : Heap} {CX : CXT} {lv : Nat} {f C p : Addr} {fd : FuncData} {ps : List Str} {sp : Sp} {x m : Str}
theorem def_mk (h : FnOk P w K mg base CX lv f fd ps sp) (g : mg x = some (.ref f)) (k : PySem.W.keepIn K (.ref f) = true) (b : Binds K fd ps []) : Def P w K mg base CX lv x ps sp := ⟨⟨_, _, h, g, k, b⟩⟩
theorem defG_mk (h : FnG P w K mg base CX lv f fd ps sp) (g : mg x = some (.ref f)) (k : PySem.W.keepIn K (.ref f) = true) (b : Binds K fd ps []) : DefG P w K mg base CX lv x ps sp := ⟨⟨_, _, h, g, k, b⟩⟩
theorem make_mk (g : mg x = some (.ref C)) (M : Mk K C f) (h : FnOk P w K mg base CX lv f fd ps sp) (b : Binds K fd ps []) : DMake P w K mg base CX lv x C ps sp := ⟨g, _, _, M, h, b⟩
theorem meth_mk (c : Cls K C) (M : Meth K C m f) (h : FnOk P w K mg base CX lv f fd ps sp) (b : Binds K fd ps []) : DMeth P w K mg base CX lv C m ps sp := ⟨c, _, _, M, h, b⟩
theorem prop_mk (c : Cls K C) (M : PropOf K C m p f) (h : FnOk P w K mg base CX lv f fd ["self"] sp) (b : Binds K fd ["self"] []) : DProp P w K mg base CX lv C m sp := ⟨c, _, _, _, M, h, b⟩
theorem prOk_ok {p : Str × Str} (h : prOk K p = true) : PropOf K (ga K p.1) p.2 (ma K (ga K p.1) p.2) (gt K (ma K (ga K p.1) p.2)) := by
  unfold prOk at h
  obtain ⟨h1, h⟩ := ba h
  obtain ⟨h2, h⟩ := ba h
  obtain ⟨h3, h4⟩ := ba h
  refine ⟨eqO_ok h1, eqO_ok h2, of_decide_eq_true h3, ?_⟩
  generalize ma K (ga K p.1) p.2 = q at *
  split at h4
  · rename_i g r e
    have := of_decide_eq_true h4
    subst this
    exact ⟨_, e⟩
  · cases h4
theorem law_binds (F : Fun K "law" "law" s_law f fd) : ∀ (s : Shared) (v : Value), BindsTo s fd ⟨[v], []⟩ [("_law_script", v)] := by
  obtain ⟨oc, od, kV, doc, pm, an, cdv, ct, osl, rfl, lk, hcd⟩ := F.ex
  exact fun s v => .of_eq rfl
end
theorem facts {w : World} {K : PySem.W.Frag} {h : Heap} {mg : Str → Option Value} {f : Addr} (X : K.In h) (G : h.Ns mainGlobals mg) (hfa : mg ("law" : Str) = some (.ref f)) (c : SaysX fa fn fx file K) (top : (PP.main.scope.names.lookup ("super" : Str)).isSome = false) :
    ∃ fd : FuncData, (∀ (s : Shared) (v : Value), BindsTo s fd ⟨[v], []⟩ [("_law_script", v)]) ∧ ∀ base : Heap, K.In base → base.Ns mainGlobals mg → FnG PP w K mg base CX0 13 f fd ["_law_script"] (spLaw K) := by
  have bt : Bt mg bn := bt_of X G (c.fact 0)
  have gl : ∀ x ∈ gloL, mg x = some (.ref (ga K x)) := fun x hx => glo_ok X G (List.all_eq_true.mp (c.fact 1) x hx)
  have cl : ∀ x ∈ clsL, Cls K (ga K x) := fun x hx => cls_ok (List.all_eq_true.mp (c.fact 2) x hx)
  have mk : ∀ x ∈ mkrL, Mk K (ga K x) (ma K (ga K x) "__init__") := fun x hx => mkr_ok (List.all_eq_true.mp (c.fact 3) x hx)
  have na : ∀ p ∈ noatL, NoAttr K (ga K p.1) p.2 := fun p hp => noat_ok (List.all_eq_true.mp (c.fact 4) p hp)
  have mt : ∀ p ∈ methL, Meth K (ga K p.1) p.2 (ma K (ga K p.1) p.2) := fun p hp => meth_ok (List.all_eq_true.mp (c.fact 5) p hp)
  have pr : ∀ p ∈ propL, PropOf K (ga K p.1) p.2 (ma K (ga K p.1) p.2) (gt K (ma K (ga K p.1) p.2)) := fun p hp => prOk_ok (List.all_eq_true.mp (c.fact 6) p hp)
  have gi : ∀ p ∈ intL, GInt mg p.1 p.2 := fun p hp => ⟨by
    obtain ⟨t, e⟩ := int_ok X G (List.all_eq_true.mp (c.fact 7) p hp)
    exact ⟨_, e, t, rfl⟩⟩
  have gf : ∀ p ∈ gfunL, GFun mg p.1 p.2 := fun p hp => ⟨PySem.W.mg_of X G (eqO_ok (List.all_eq_true.mp (c.fact 8) p hp))⟩
  have sup : mg "super" = none := free_ok X G (c.fact 14)
  have et := List.all_eq_true.mp (show (i17.all _) = true from c.fact 10)
  have ex17 : ∀ i, i < 17 → ExcC K (EA K i) := fun i hi => exOk_ok (ba (et i (List.mem_range.mpr hi))).1
  have kv17 : ∀ i, i < 17 → PySem.W.kitOne K (.ref (EA K i)) (.type "ValueError") = some true := fun i hi => of_decide_eq_true (ba (ba (et i (List.mem_range.mpr hi))).2).1
  have exm17 : ∀ i, i < 17 → PySem.W.exmOne K (.ref (EA K i)) (.ref (ga K "FillError")) = some true := fun i hi => of_decide_eq_true (ba (ba (ba (et i (List.mem_range.mpr hi))).2).2).1
  have kt17 : ∀ i j, i < 17 → j < 17 → PySem.W.kitOne K (.ref (EA K i)) (.ref (EA K j)) = some (decide (i = j)) := fun i j hi hj => of_decide_eq_true (List.all_eq_true.mp (ba (ba (ba (et i (List.mem_range.mpr hi))).2).2).2 j (List.mem_range.mpr hj))
  have nmg : ∀ i, i < 17 → nm i ∈ gloL := by decide +kernel
  have ET : ErrT K mg (EA K) := ⟨fun i hi => gl _ (nmg i hi), ex17, kt17, kv17, fun i hi => eqO_ok (List.all_eq_true.mp (show ((List.range 5).all _) = true from c.fact 11) i (List.mem_range.mpr hi))⟩
  have EF : ErrF K mg (EA K) (ga K "FillError") := ⟨gl "FillError" (by decide), exm17⟩
  have KS : KindSys K (csOf K) := by
    obtain ⟨h1, h⟩ := ba (show (_ && _) = true from c.fact 12)
    obtain ⟨h2, h⟩ := ba h
    obtain ⟨h3, h⟩ := ba h
    obtain ⟨h4, h5⟩ := ba h
    exact ⟨cl "System" (by decide), eqO_ok h1, eqO_ok h2, of_decide_eq_true h3, of_decide_eq_true h4, of_decide_eq_true h5⟩
  have KN : KindNot K (csOf K) := fun n hn => of_decide_eq_true (List.all_eq_true.mp (c.fact 13) n hn)
  have NA : NoA K (csOf K) := ⟨cl "System" (by decide), na ("System", "_borders") (by decide), na ("System", "_zones") (by decide), na ("System", "_told") (by decide), na ("System", "_begins") (by decide), na ("System", "_length") (by decide), na ("System", "elimination") (by decide), na ("System", "growth") (by decide)⟩
  have gi_INNER : GInt mg "INNER" 65535 := gi ("INNER", 65535) (by decide)
  have gi_MOST_BORDERS : GInt mg "MOST_BORDERS" 6 := gi ("MOST_BORDERS", 6) (by decide)
  have gi_MOST_ITEMS : GInt mg "MOST_ITEMS" 6 := gi ("MOST_ITEMS", 6) (by decide)
  have gi_MOST_OFFSET : GInt mg "MOST_OFFSET" 16 := gi ("MOST_OFFSET", 16) (by decide)
  have gi_MOST_UNKNOWNS : GInt mg "MOST_UNKNOWNS" 1000000000000000000000000000000 := gi ("MOST_UNKNOWNS", 1000000000000000000000000000000) (by decide)
  have gi_MOST_ZONES : GInt mg "MOST_ZONES" 12 := gi ("MOST_ZONES", 12) (by decide)
  have gf_gcd : GFun mg "gcd" "math.gcd" := gf ("gcd", "math.gcd") (by decide)
  have gf_lcm : GFun mg "lcm" "math.lcm" := gf ("lcm", "math.lcm") (by decide)
  have X_InvalidBorders : DErrM K mg "InvalidBorders" (EA K 5) := by
    obtain ⟨h1, h2, h3, h4⟩ := exc_ok (List.all_eq_true.mp (show (excL.all _) = true from c.fact 9) "InvalidBorders" (by decide))
    exact ⟨h1, gl "InvalidBorders" (by decide), h2, h3, h4⟩
  have X_InvalidNumber : DErrM K mg "InvalidNumber" (EA K 9) := by
    obtain ⟨h1, h2, h3, h4⟩ := exc_ok (List.all_eq_true.mp (show (excL.all _) = true from c.fact 9) "InvalidNumber" (by decide))
    exact ⟨h1, gl "InvalidNumber" (by decide), h2, h3, h4⟩
  have X_InvalidSpan : DErrM K mg "InvalidSpan" (EA K 8) := by
    obtain ⟨h1, h2, h3, h4⟩ := exc_ok (List.all_eq_true.mp (show (excL.all _) = true from c.fact 9) "InvalidSpan" (by decide))
    exact ⟨h1, gl "InvalidSpan" (by decide), h2, h3, h4⟩
  have X_InvalidSystem : DErrM K mg "InvalidSystem" (EA K 6) := by
    obtain ⟨h1, h2, h3, h4⟩ := exc_ok (List.all_eq_true.mp (show (excL.all _) = true from c.fact 9) "InvalidSystem" (by decide))
    exact ⟨h1, gl "InvalidSystem" (by decide), h2, h3, h4⟩
  have X_InvalidZones : DErrF PP K mg "InvalidZones" "item" (EA K 0) := FxD.fld_ X G (d := ⟨"InvalidZones", "item", "no valid zones, wrong item: ", [], "InvalidZones.__init__", ⟨10, 17, 10, 21⟩, ⟨10, 23, 10, 27⟩, ⟨11, 8, 11, 13⟩, ⟨11, 8, 11, 15⟩, ⟨11, 8, 11, 24⟩, ⟨11, 25, 11, 62⟩, ⟨11, 8, 11, 63⟩, ⟨11, 8, 11, 63⟩, ⟨11, 27, 11, 55⟩, ⟨11, 56, 11, 60⟩, ⟨11, 55, 11, 61⟩, ⟨12, 8, 12, 12⟩, ⟨12, 8, 12, 17⟩, ⟨12, 20, 12, 24⟩, ⟨12, 8, 12, 24⟩, 0⟩) PySem.FX.fld_item sup .nil (by decide) top (fun cda cc L f => ⟨_, rfl⟩) (c.fx_ 0).1 (c.fx_ 0).2
  obtain ⟨fd_is_integer, F_is_integer⟩ := c.def_ 0 (d := ⟨fun K => ga K "is_integer", "is_integer", "is_integer", s_is_integer⟩)
  obtain ⟨fd_is_within, F_is_within⟩ := c.def_ 1 (d := ⟨fun K => ga K "is_within", "is_within", "is_within", s_is_within⟩)
  obtain ⟨fd_length_of, F_length_of⟩ := c.def_ 2 (d := ⟨fun K => ga K "length_of", "length_of", "length_of", s_length_of⟩)
  obtain ⟨fd_kept_zones, F_kept_zones⟩ := c.def_ 3 (d := ⟨fun K => ga K "kept_zones", "kept_zones", "kept_zones", s_kept_zones⟩)
  obtain ⟨fd_begins_of, F_begins_of⟩ := c.def_ 4 (d := ⟨fun K => ga K "begins_of", "begins_of", "begins_of", s_begins_of⟩)
  obtain ⟨fd_merged, F_merged⟩ := c.def_ 5 (d := ⟨fun K => ga K "merged", "merged", "merged", s_merged⟩)
  obtain ⟨fd_trimmed, F_trimmed⟩ := c.def_ 6 (d := ⟨fun K => ga K "trimmed", "trimmed", "trimmed", s_trimmed⟩)
  obtain ⟨fd_standing_at, F_standing_at⟩ := c.def_ 7 (d := ⟨fun K => ga K "standing_at", "standing_at", "standing_at", s_standing_at⟩)
  obtain ⟨fd_mask_of, F_mask_of⟩ := c.def_ 8 (d := ⟨fun K => ga K "mask_of", "mask_of", "mask_of", s_mask_of⟩)
  obtain ⟨fd_lowest, F_lowest⟩ := c.def_ 9 (d := ⟨fun K => ga K "lowest", "lowest", "lowest", s_lowest⟩)
  obtain ⟨fd_hand_on, F_hand_on⟩ := c.def_ 10 (d := ⟨fun K => ga K "hand_on", "hand_on", "hand_on", s_hand_on⟩)
  obtain ⟨fd_Stretch_init, F_Stretch_init⟩ := c.def_ 11 (d := ⟨fun K => ma K (ga K "Stretch") "__init__", "__init__", "Stretch.__init__", s_Stretch_init⟩)
  obtain ⟨fd_lap_of, F_lap_of⟩ := c.def_ 12 (d := ⟨fun K => ga K "lap_of", "lap_of", "lap_of", s_lap_of⟩)
  obtain ⟨fd_walked, F_walked⟩ := c.def_ 13 (d := ⟨fun K => ga K "walked", "walked", "walked", s_walked⟩)
  obtain ⟨fd_hand_on_at_border, F_hand_on_at_border⟩ := c.def_ 14 (d := ⟨fun K => ga K "hand_on_at_border", "hand_on_at_border", "hand_on_at_border", s_hand_on_at_border⟩)
  obtain ⟨fd_Elimination_eliminated_borders, F_Elimination_eliminated_borders⟩ := c.def_ 15 (d := ⟨fun K => ma K (ga K "Elimination") "_eliminated_borders", "_eliminated_borders", "Elimination._eliminated_borders", s_Elimination_eliminated_borders⟩)
  obtain ⟨fd_Elimination_init, F_Elimination_init⟩ := c.def_ 16 (d := ⟨fun K => ma K (ga K "Elimination") "__init__", "__init__", "Elimination.__init__", s_Elimination_init⟩)
  obtain ⟨fd_Stretch_mask_at, F_Stretch_mask_at⟩ := c.def_ 17 (d := ⟨fun K => ma K (ga K "Stretch") "mask_at", "mask_at", "Stretch.mask_at", s_Stretch_mask_at⟩)
  obtain ⟨fd_Stretch_masks_between, F_Stretch_masks_between⟩ := c.def_ 18 (d := ⟨fun K => ma K (ga K "Stretch") "masks_between", "masks_between", "Stretch.masks_between", s_Stretch_masks_between⟩)
  obtain ⟨fd_Handed_init, F_Handed_init⟩ := c.def_ 19 (d := ⟨fun K => ma K (ga K "Handed") "__init__", "__init__", "Handed.__init__", s_Handed_init⟩)
  obtain ⟨fd_Handed_hand_on, F_Handed_hand_on⟩ := c.def_ 20 (d := ⟨fun K => ma K (ga K "Handed") "_hand_on", "_hand_on", "Handed._hand_on", s_Handed_hand_on⟩)
  obtain ⟨fd_Handed_take_inner, F_Handed_take_inner⟩ := c.def_ 21 (d := ⟨fun K => ma K (ga K "Handed") "take_inner", "take_inner", "Handed.take_inner", s_Handed_take_inner⟩)
  obtain ⟨fd_Handed_take_border, F_Handed_take_border⟩ := c.def_ 22 (d := ⟨fun K => ma K (ga K "Handed") "take_border", "take_border", "Handed.take_border", s_Handed_take_border⟩)
  obtain ⟨fd_Handed_take_all, F_Handed_take_all⟩ := c.def_ 23 (d := ⟨fun K => ma K (ga K "Handed") "take_all", "take_all", "Handed.take_all", s_Handed_take_all⟩)
  obtain ⟨fd_gone_on, F_gone_on⟩ := c.def_ 24 (d := ⟨fun K => ga K "gone_on", "gone_on", "gone_on", s_gone_on⟩)
  obtain ⟨fd_Handed_take_laps, F_Handed_take_laps⟩ := c.def_ 25 (d := ⟨fun K => ma K (ga K "Handed") "take_laps", "take_laps", "Handed.take_laps", s_Handed_take_laps⟩)
  obtain ⟨fd_Course_init, F_Course_init⟩ := c.def_ 26 (d := ⟨fun K => ma K (ga K "Course") "__init__", "__init__", "Course.__init__", s_Course_init⟩)
  obtain ⟨fd_Rise_init, F_Rise_init⟩ := c.def_ 27 (d := ⟨fun K => ma K (ga K "Rise") "__init__", "__init__", "Rise.__init__", s_Rise_init⟩)
  obtain ⟨fd_rise_of, F_rise_of⟩ := c.def_ 28 (d := ⟨fun K => ga K "rise_of", "rise_of", "rise_of", s_rise_of⟩)
  obtain ⟨fd_risen, F_risen⟩ := c.def_ 29 (d := ⟨fun K => ga K "risen", "risen", "risen", s_risen⟩)
  obtain ⟨fd_Growth_init, F_Growth_init⟩ := c.def_ 30 (d := ⟨fun K => ma K (ga K "Growth") "__init__", "__init__", "Growth.__init__", s_Growth_init⟩)
  obtain ⟨fd_System_take, F_System_take⟩ := c.def_ 31 (d := ⟨fun K => ma K (ga K "System") "_take", "_take", "System._take", s_System_take⟩)
  obtain ⟨fd_is_ascending, F_is_ascending⟩ := c.def_ 32 (d := ⟨fun K => ga K "is_ascending", "is_ascending", "is_ascending", s_is_ascending⟩)
  obtain ⟨fd_is_zone, F_is_zone⟩ := c.def_ 33 (d := ⟨fun K => ga K "is_zone", "is_zone", "is_zone", s_is_zone⟩)
  obtain ⟨fd_check_length, F_check_length⟩ := c.def_ 34 (d := ⟨fun K => ga K "check_length", "check_length", "check_length", s_check_length⟩)
  obtain ⟨fd_check_zones, F_check_zones⟩ := c.def_ 35 (d := ⟨fun K => ga K "check_zones", "check_zones", "check_zones", s_check_zones⟩)
  obtain ⟨fd_System_init, F_System_init⟩ := c.def_ 36 (d := ⟨fun K => ma K (ga K "System") "__init__", "__init__", "System.__init__", s_System_init⟩)
  obtain ⟨fd_law_kinds, F_law_kinds⟩ := c.def_ 37 (d := ⟨fun K => ga K "_law_kinds", "_law_kinds", "_law_kinds", s_law_kinds⟩)
  obtain ⟨fd_System_unknowns, F_System_unknowns⟩ := c.def_ 38 (d := ⟨fun K => gt K (ma K (ga K "System") "unknowns"), "unknowns", "System.unknowns", s_System_unknowns⟩)
  obtain ⟨fd_cut_zones, F_cut_zones⟩ := c.def_ 39 (d := ⟨fun K => ga K "cut_zones", "cut_zones", "cut_zones", s_cut_zones⟩)
  obtain ⟨fd_law_kind, F_law_kind⟩ := c.def_ 40 (d := ⟨fun K => ga K "_law_kind", "_law_kind", "_law_kind", s_law_kind⟩)
  obtain ⟨fd_size_of, F_size_of⟩ := c.def_ 41 (d := ⟨fun K => ga K "size_of", "size_of", "size_of", s_size_of⟩)
  obtain ⟨fd_Stretch_kinds_among, F_Stretch_kinds_among⟩ := c.def_ 42 (d := ⟨fun K => ma K (ga K "Stretch") "_kinds_among", "_kinds_among", "Stretch._kinds_among", s_Stretch_kinds_among⟩)
  obtain ⟨fd_Elimination_stretch, F_Elimination_stretch⟩ := c.def_ 43 (d := ⟨fun K => ma K (ga K "Elimination") "stretch", "stretch", "Elimination.stretch", s_Elimination_stretch⟩)
  obtain ⟨fd_Elimination_mask, F_Elimination_mask⟩ := c.def_ 44 (d := ⟨fun K => ma K (ga K "Elimination") "mask", "mask", "Elimination.mask", s_Elimination_mask⟩)
  obtain ⟨fd_Stretch_kinds, F_Stretch_kinds⟩ := c.def_ 45 (d := ⟨fun K => ma K (ga K "Stretch") "kinds", "kinds", "Stretch.kinds", s_Stretch_kinds⟩)
  obtain ⟨fd_Elimination_kinds, F_Elimination_kinds⟩ := c.def_ 46 (d := ⟨fun K => ma K (ga K "Elimination") "kinds", "kinds", "Elimination.kinds", s_Elimination_kinds⟩)
  obtain ⟨fd_sizes_of, F_sizes_of⟩ := c.def_ 47 (d := ⟨fun K => ga K "sizes_of", "sizes_of", "sizes_of", s_sizes_of⟩)
  obtain ⟨fd_check_system, F_check_system⟩ := c.def_ 48 (d := ⟨fun K => ga K "check_system", "check_system", "check_system", s_check_system⟩)
  obtain ⟨fd_check_span, F_check_span⟩ := c.def_ 49 (d := ⟨fun K => ga K "check_span", "check_span", "check_span", s_check_span⟩)
  obtain ⟨fd_check_part, F_check_part⟩ := c.def_ 50 (d := ⟨fun K => ga K "check_part", "check_part", "check_part", s_check_part⟩)
  obtain ⟨fd_room_of, F_room_of⟩ := c.def_ 51 (d := ⟨fun K => ga K "room_of", "room_of", "room_of", s_room_of⟩)
  obtain ⟨fd_room, F_room⟩ := c.def_ 52 (d := ⟨fun K => ga K "room", "room", "room", s_room⟩)
  obtain ⟨fd_System_couplings_from, F_System_couplings_from⟩ := c.def_ 53 (d := ⟨fun K => ma K (ga K "System") "couplings_from", "couplings_from", "System.couplings_from", s_System_couplings_from⟩)
  obtain ⟨fd_fill, F_fill⟩ := c.def_ 54 (d := ⟨fun K => ga K "fill", "fill", "fill", s_fill⟩)
  obtain ⟨fd_check_integer, F_check_integer⟩ := c.def_ 55 (d := ⟨fun K => ga K "check_integer", "check_integer", "check_integer", s_check_integer⟩)
  obtain ⟨fd_work, F_work⟩ := c.def_ 56 (d := ⟨fun K => ga K "work", "work", "work", s_work⟩)
  obtain ⟨fd_widest, F_widest⟩ := c.def_ 57 (d := ⟨fun K => ga K "widest", "widest", "widest", s_widest⟩)
  obtain ⟨fd_first_wide, F_first_wide⟩ := c.def_ 58 (d := ⟨fun K => ga K "first_wide", "first_wide", "first_wide", s_first_wide⟩)
  obtain ⟨fd_law_called, F_law_called⟩ := c.def_ 59 (d := ⟨fun K => ga K "_law_called", "_law_called", "_law_called", s_law_called⟩)
  obtain ⟨fd_law_told, F_law_told⟩ := c.def_ 60 (d := ⟨fun K => ga K "_law_told", "_law_told", "_law_told", s_law_told⟩)
  obtain ⟨fd_law_wound, F_law_wound⟩ := c.def_ 61 (d := ⟨fun K => ga K "_law_wound", "_law_wound", "_law_wound", s_law_wound⟩)
  obtain ⟨fd_law_spin, F_law_spin⟩ := c.def_ 62 (d := ⟨fun K => ga K "_law_spin", "_law_spin", "_law_spin", s_law_spin⟩)
  obtain ⟨fd_law_picked, F_law_picked⟩ := c.def_ 63 (d := ⟨fun K => ga K "_law_picked", "_law_picked", "_law_picked", s_law_picked⟩)
  obtain ⟨fd_law_zones, F_law_zones⟩ := c.def_ 64 (d := ⟨fun K => ga K "_law_zones", "_law_zones", "_law_zones", s_law_zones⟩)
  obtain ⟨fd_law_far_zones, F_law_far_zones⟩ := c.def_ 65 (d := ⟨fun K => ga K "_law_far_zones", "_law_far_zones", "_law_far_zones", s_law_far_zones⟩)
  obtain ⟨fd_law_right, F_law_right⟩ := c.def_ 66 (d := ⟨fun K => ga K "_law_right", "_law_right", "_law_right", s_law_right⟩)
  obtain ⟨fd_law, F_law⟩ := c.def_ 67 (d := ⟨fun K => ga K "law", "law", "law", s_law⟩)
  have e := hfa.symm.trans (gl "law" (by decide))
  cases e
  refine ⟨fd_law, law_binds F_law, fun base KB GB => ?_⟩
  have D_is_integer := def_mk (ok_is_integer (P := PP) (w := w) (K := K) (mg := mg) (base := base)  (F := F_is_integer) (bt := bt)) (gl "is_integer" (by decide)) F_is_integer.kp (F_is_integer.binds (ps := ["value"]) fun _ _ _ _ _ _ us hl => match us, hl with | [_], _ => rfl)
  have D_is_within := def_mk (ok_is_within (P := PP) (w := w) (K := K) (mg := mg) (base := base)  (F := F_is_within) (D_is_integer := D_is_integer)) (gl "is_within" (by decide)) F_is_within.kp (F_is_within.binds (ps := ["value", "low", "high"]) fun _ _ _ _ _ _ us hl => match us, hl with | [_, _, _], _ => rfl)
  have D_length_of := def_mk (ok_length_of (P := PP) (w := w) (K := K) (mg := mg) (base := base)  (F := F_length_of) (bt := bt)) (gl "length_of" (by decide)) F_length_of.kp (F_length_of.binds (ps := ["zones"]) fun _ _ _ _ _ _ us hl => match us, hl with | [_], _ => rfl)
  have D_kept_zones := def_mk (ok_kept_zones (P := PP) (w := w) (K := K) (mg := mg) (base := base)  (F := F_kept_zones) (bt := bt)) (gl "kept_zones" (by decide)) F_kept_zones.kp (F_kept_zones.binds (ps := ["zones"]) fun _ _ _ _ _ _ us hl => match us, hl with | [_], _ => rfl)
  have D_begins_of := def_mk (ok_begins_of (P := PP) (w := w) (K := K) (mg := mg) (base := base)  (F := F_begins_of) (bt := bt)) (gl "begins_of" (by decide)) F_begins_of.kp (F_begins_of.binds (ps := ["zones"]) fun _ _ _ _ _ _ us hl => match us, hl with | [_], _ => rfl)
  have D_merged := def_mk (ok_merged (P := PP) (w := w) (K := K) (mg := mg) (base := base)  (F := F_merged) (bt := bt)) (gl "merged" (by decide)) F_merged.kp (F_merged.binds (ps := ["zones"]) fun _ _ _ _ _ _ us hl => match us, hl with | [_], _ => rfl)
  have D_trimmed := def_mk (ok_trimmed (P := PP) (w := w) (K := K) (mg := mg) (base := base)  (F := F_trimmed) (bt := bt) (g_MOST_OFFSET := gi_MOST_OFFSET) (D_length_of := D_length_of)) (gl "trimmed" (by decide)) F_trimmed.kp (F_trimmed.binds (ps := ["zones"]) fun _ _ _ _ _ _ us hl => match us, hl with | [_], _ => rfl)
  have D_standing_at := def_mk (ok_standing_at (P := PP) (w := w) (K := K) (mg := mg) (base := base)  (F := F_standing_at) (bt := bt)) (gl "standing_at" (by decide)) F_standing_at.kp (F_standing_at.binds (ps := ["begins", "unknown"]) fun _ _ _ _ _ _ us hl => match us, hl with | [_, _], _ => rfl)
  have D_mask_of := def_mk (ok_mask_of (P := PP) (w := w) (K := K) (mg := mg) (base := base)  (F := F_mask_of) (bt := bt) (g_MOST_OFFSET := gi_MOST_OFFSET)) (gl "mask_of" (by decide)) F_mask_of.kp (F_mask_of.binds (ps := ["offsets", "touches"]) fun _ _ _ _ _ _ us hl => match us, hl with | [_, _], _ => rfl)
  have D_lowest := def_mk (ok_lowest (P := PP) (w := w) (K := K) (mg := mg) (base := base)  (F := F_lowest)) (gl "lowest" (by decide)) F_lowest.kp (F_lowest.binds (ps := ["mask"]) fun _ _ _ _ _ _ us hl => match us, hl with | [_], _ => rfl)
  have D_hand_on := def_mk (ok_hand_on (P := PP) (w := w) (K := K) (mg := mg) (base := base)  (F := F_hand_on) (bt := bt) (g_INNER := gi_INNER) (D_lowest := D_lowest)) (gl "hand_on" (by decide)) F_hand_on.kp (F_hand_on.binds (ps := ["pending", "mask"]) fun _ _ _ _ _ _ us hl => match us, hl with | [_, _], _ => rfl)
  have K_Stretch := make_mk (gl "Stretch" (by decide)) (mk "Stretch" (by decide)) (ok_Stretch_init (P := PP) (w := w) (K := K) (mg := mg) (base := base) (C := ga K "Stretch") (F := F_Stretch_init) (c := (cl "Stretch" (by decide))) (n1 := (na ("Stretch", "begin") (by decide))) (n2 := (na ("Stretch", "end") (by decide))) (n3 := (na ("Stretch", "masks") (by decide))) (n4 := (na ("Stretch", "needless") (by decide))) (n5 := (na ("Stretch", "tail") (by decide))) (n6 := (na ("Stretch", "lap") (by decide)))) (F_Stretch_init.binds (ps := ["self", "begin", "end", "masks", "needless", "tail", "lap"]) fun _ _ _ _ _ _ us hl => match us, hl with | [_, _, _, _, _, _, _], _ => rfl)
  have D_lap_of := def_mk (ok_lap_of (P := PP) (w := w) (K := K) (mg := mg) (base := base)  (F := F_lap_of) (bt := bt) (g_gcd := gf_gcd) (g_lcm := gf_lcm)) (gl "lap_of" (by decide)) F_lap_of.kp (F_lap_of.binds (ps := ["offsets", "period"]) fun _ _ _ _ _ _ us hl => match us, hl with | [_, _], _ => rfl)
  have D_walked := def_mk (ok_walked (P := PP) (w := w) (K := K) (mg := mg) (base := base) (C := ga K "Stretch") (F := F_walked) (bt := bt) (D_mask_of := D_mask_of) (D_hand_on := D_hand_on) (D_lap_of := D_lap_of) (K_Stretch := K_Stretch)) (gl "walked" (by decide)) F_walked.kp (F_walked.binds (ps := ["begin", "zone", "pending"]) fun _ _ _ _ _ _ us hl => match us, hl with | [_, _, _], _ => rfl)
  have D_hand_on_at_border := def_mk (ok_hand_on_at_border (P := PP) (w := w) (K := K) (mg := mg) (base := base)  (F := F_hand_on_at_border) (g_INNER := gi_INNER) (g_MOST_OFFSET := gi_MOST_OFFSET) (D_lowest := D_lowest)) (gl "hand_on_at_border" (by decide)) F_hand_on_at_border.kp (F_hand_on_at_border.binds (ps := ["last", "mask"]) fun _ _ _ _ _ _ us hl => match us, hl with | [_, _], _ => rfl)
  have M_eliminated_borders := meth_mk (cl "Elimination" (by decide)) (mt ("Elimination", "_eliminated_borders") (by decide)) (ok_eliminated_borders (P := PP) (w := w) (K := K) (mg := mg) (base := base) (CE := ga K "Elimination") (CS := ga K "Stretch") (F := F_Elimination_eliminated_borders) (bt := bt) (ce := (cl "Elimination" (by decide))) (cs := (cl "Stretch" (by decide))) (n1 := (na ("Elimination", "stretches") (by decide))) (n2 := (na ("Stretch", "masks") (by decide))) (D_hand_on_at_border := D_hand_on_at_border)) (F_Elimination_eliminated_borders.binds (ps := ["self", "borders"]) fun _ _ _ _ _ _ us hl => match us, hl with | [_, _], _ => rfl)
  have K_Elimination := make_mk (gl "Elimination" (by decide)) (mk "Elimination" (by decide)) (ok_Elimination_init (P := PP) (w := w) (K := K) (mg := mg) (base := base) (CE := ga K "Elimination") (CS := ga K "Stretch") (F := F_Elimination_init) (bt := bt) (ce := (cl "Elimination" (by decide))) (n1 := (na ("Elimination", "_begins") (by decide))) (n2 := (na ("Elimination", "_inner") (by decide))) (n3 := (na ("Elimination", "stretches") (by decide))) (n4 := (na ("Elimination", "last_masks") (by decide))) (g_MOST_OFFSET := gi_MOST_OFFSET) (D_begins_of := D_begins_of) (D_length_of := D_length_of) (D_walked := D_walked) (M_eliminated_borders := M_eliminated_borders)) (F_Elimination_init.binds (ps := ["self", "borders", "told"]) fun _ _ _ _ _ _ us hl => match us, hl with | [_, _, _], _ => rfl)
  have M_mask_at := meth_mk (cl "Stretch" (by decide)) (mt ("Stretch", "mask_at") (by decide)) (ok_mask_at (P := PP) (w := w) (K := K) (mg := mg) (base := base) (C := ga K "Stretch") (F := F_Stretch_mask_at) (bt := bt) (c := (cl "Stretch" (by decide))) (n1 := (na ("Stretch", "begin") (by decide))) (n2 := (na ("Stretch", "masks") (by decide))) (n3 := (na ("Stretch", "tail") (by decide)))) (F_Stretch_mask_at.binds (ps := ["self", "unknown"]) fun _ _ _ _ _ _ us hl => match us, hl with | [_, _], _ => rfl)
  have M_masks_between := meth_mk (cl "Stretch" (by decide)) (mt ("Stretch", "masks_between") (by decide)) (ok_masks_between (P := PP) (w := w) (K := K) (mg := mg) (base := base) (C := ga K "Stretch") (F := F_Stretch_masks_between) (bt := bt) (c := (cl "Stretch" (by decide))) (n1 := (na ("Stretch", "begin") (by decide))) (n2 := (na ("Stretch", "masks") (by decide))) (M_mask_at := M_mask_at)) (F_Stretch_masks_between.binds (ps := ["self", "begin", "end"]) fun _ _ _ _ _ _ us hl => match us, hl with | [_, _, _], _ => rfl)
  have K_Handed := make_mk (gl "Handed" (by decide)) (mk "Handed" (by decide)) (ok_Handed_init (P := PP) (w := w) (K := K) (mg := mg) (base := base) (C := ga K "Handed") (F := F_Handed_init) (c := (cl "Handed" (by decide))) (n1 := (na ("Handed", "levels") (by decide))) (n2 := (na ("Handed", "weights") (by decide))) (g_MOST_OFFSET := gi_MOST_OFFSET)) (F_Handed_init.binds (ps := ["self", "borders"]) fun _ _ _ _ _ _ us hl => match us, hl with | [_, _], _ => rfl)
  have M_hand_on := meth_mk (cl "Handed" (by decide)) (mt ("Handed", "_hand_on") (by decide)) (ok_handed_hand_on (P := PP) (w := w) (K := K) (mg := mg) (base := base) (C := ga K "Handed") (F := F_Handed_hand_on) (bt := bt) (c := (cl "Handed" (by decide))) (n1 := (na ("Handed", "levels") (by decide))) (n2 := (na ("Handed", "weights") (by decide))) (D_lowest := D_lowest)) (F_Handed_hand_on.binds (ps := ["self", "mask", "level", "weight"]) fun _ _ _ _ _ _ us hl => match us, hl with | [_, _, _, _], _ => rfl)
  have M_take_inner := meth_mk (cl "Handed" (by decide)) (mt ("Handed", "take_inner") (by decide)) (ok_take_inner (P := PP) (w := w) (K := K) (mg := mg) (base := base) (C := ga K "Handed") (F := F_Handed_take_inner) (bt := bt) (c := (cl "Handed" (by decide))) (n1 := (na ("Handed", "levels") (by decide))) (n2 := (na ("Handed", "weights") (by decide))) (g_MOST_OFFSET := gi_MOST_OFFSET) (M_hand_on := M_hand_on)) (F_Handed_take_inner.binds (ps := ["self", "mask"]) fun _ _ _ _ _ _ us hl => match us, hl with | [_, _], _ => rfl)
  have M_take_border := meth_mk (cl "Handed" (by decide)) (mt ("Handed", "take_border") (by decide)) (ok_take_border (P := PP) (w := w) (K := K) (mg := mg) (base := base) (C := ga K "Handed") (F := F_Handed_take_border) (bt := bt) (c := (cl "Handed" (by decide))) (n1 := (na ("Handed", "levels") (by decide))) (n2 := (na ("Handed", "weights") (by decide))) (g_MOST_OFFSET := gi_MOST_OFFSET) (M_hand_on := M_hand_on)) (F_Handed_take_border.binds (ps := ["self", "touch", "mask"]) fun _ _ _ _ _ _ us hl => match us, hl with | [_, _, _], _ => rfl)
  have M_take_all := meth_mk (cl "Handed" (by decide)) (mt ("Handed", "take_all") (by decide)) (ok_take_all (P := PP) (w := w) (K := K) (mg := mg) (base := base) (C := ga K "Handed") (CS := ga K "Stretch") (F := F_Handed_take_all) (bt := bt) (M_take_inner := M_take_inner) (M_masks_between := M_masks_between)) (F_Handed_take_all.binds (ps := ["self", "stretch", "begin", "end"]) fun _ _ _ _ _ _ us hl => match us, hl with | [_, _, _, _], _ => rfl)
  have D_gone_on := def_mk (ok_gone_on (P := PP) (w := w) (K := K) (mg := mg) (base := base)  (F := F_gone_on) (bt := bt)) (gl "gone_on" (by decide)) F_gone_on.kp (F_gone_on.binds (ps := ["before", "now", "laps"]) fun _ _ _ _ _ _ us hl => match us, hl with | [_, _, _], _ => rfl)
  have M_take_laps := meth_mk (cl "Handed" (by decide)) (mt ("Handed", "take_laps") (by decide)) (ok_take_laps (P := PP) (w := w) (K := K) (mg := mg) (base := base) (C := ga K "Handed") (CS := ga K "Stretch") (F := F_Handed_take_laps) (bt := bt) (c := (cl "Handed" (by decide))) (n1 := (na ("Handed", "levels") (by decide))) (n2 := (na ("Handed", "weights") (by decide))) (cs := (cl "Stretch" (by decide))) (n3 := (na ("Stretch", "lap") (by decide))) (M_take_all := M_take_all) (D_gone_on := D_gone_on)) (F_Handed_take_laps.binds (ps := ["self", "stretch", "begin", "laps"]) fun _ _ _ _ _ _ us hl => match us, hl with | [_, _, _, _], _ => rfl)
  have K_Course := make_mk (gl "Course" (by decide)) (mk "Course" (by decide)) (ok_Course_init (P := PP) (w := w) (K := K) (mg := mg) (base := base) (C := ga K "Course") (F := F_Course_init) (c := (cl "Course" (by decide))) (n1 := (na ("Course", "told") (by decide))) (n2 := (na ("Course", "count") (by decide))) (n3 := (na ("Course", "lap") (by decide)))) (F_Course_init.binds (ps := ["self", "told", "count", "lap"]) fun _ _ _ _ _ _ us hl => match us, hl with | [_, _, _, _], _ => rfl)
  have K_Rise := make_mk (gl "Rise" (by decide)) (mk "Rise" (by decide)) (ok_Rise_init (P := PP) (w := w) (K := K) (mg := mg) (base := base) (C := ga K "Rise") (F := F_Rise_init) (c := (cl "Rise" (by decide))) (n1 := (na ("Rise", "begin") (by decide))) (n2 := (na ("Rise", "levels") (by decide))) (n3 := (na ("Rise", "weights") (by decide)))) (F_Rise_init.binds (ps := ["self", "begin", "levels", "weights"]) fun _ _ _ _ _ _ us hl => match us, hl with | [_, _, _, _], _ => rfl)
  have D_rise_of := def_mk (ok_rise_of (P := PP) (w := w) (K := K) (mg := mg) (base := base) (CR := ga K "Rise") (CC := ga K "Course") (F := F_rise_of) (bt := bt) (K_Course := K_Course) (K_Rise := K_Rise)) (gl "rise_of" (by decide)) F_rise_of.kp (F_rise_of.binds (ps := ["begin", "taken", "count", "lap"]) fun _ _ _ _ _ _ us hl => match us, hl with | [_, _, _, _], _ => rfl)
  have D_risen := def_mk (ok_risen (P := PP) (w := w) (K := K) (mg := mg) (base := base) (CH := ga K "Handed") (CS := ga K "Stretch") (CR := ga K "Rise") (CC := ga K "Course") (F := F_risen) (bt := bt) (g_MOST_OFFSET := gi_MOST_OFFSET) (cs := (cl "Stretch" (by decide))) (n1 := (na ("Stretch", "begin") (by decide))) (n2 := (na ("Stretch", "end") (by decide))) (n3 := (na ("Stretch", "tail") (by decide))) (n4 := (na ("Stretch", "lap") (by decide))) (M_take_all := M_take_all) (M_take_laps := M_take_laps) (D_rise_of := D_rise_of)) (gl "risen" (by decide)) F_risen.kp (F_risen.binds (ps := ["stretch", "handed"]) fun _ _ _ _ _ _ us hl => match us, hl with | [_, _], _ => rfl)
  have K_Growth := make_mk (gl "Growth" (by decide)) (mk "Growth" (by decide)) (ok_Growth_init (P := PP) (w := w) (K := K) (mg := mg) (base := base) (CE := ga K "Elimination") (CS := ga K "Stretch") (CG := ga K "Growth") (CH := ga K "Handed") (CR := ga K "Rise") (CC := ga K "Course") (F := F_Growth_init) (bt := bt) (ce := (cl "Elimination" (by decide))) (n1 := (na ("Elimination", "last_masks") (by decide))) (n2 := (na ("Elimination", "stretches") (by decide))) (cs := (cl "Stretch" (by decide))) (n3 := (na ("Stretch", "end") (by decide))) (cg := (cl "Growth" (by decide))) (g1 := (na ("Growth", "_rises") (by decide))) (g2 := (na ("Growth", "_begins") (by decide))) (g3 := (na ("Growth", "_inner") (by decide))) (g4 := (na ("Growth", "_last") (by decide))) (cr := (cl "Rise" (by decide))) (r1 := (na ("Rise", "begin") (by decide))) (K_Handed := K_Handed) (D_risen := D_risen) (M_take_border := M_take_border) (D_rise_of := D_rise_of)) (F_Growth_init.binds (ps := ["self", "elimination"]) fun _ _ _ _ _ _ us hl => match us, hl with | [_, _], _ => rfl)
  have M_take := meth_mk (cl "System" (by decide)) (mt ("System", "_take") (by decide)) (ok_take (P := PP) (w := w) (K := K) (mg := mg) (base := base) (C := csOf K) (F := F_System_take) (c := (cl "System" (by decide))) (n1 := (na ("System", "_borders") (by decide))) (n2 := (na ("System", "_zones") (by decide))) (n3 := (na ("System", "_told") (by decide))) (n4 := (na ("System", "_begins") (by decide))) (n5 := (na ("System", "_length") (by decide))) (n6 := (na ("System", "elimination") (by decide))) (n7 := (na ("System", "growth") (by decide))) (D_merged := D_merged) (D_trimmed := D_trimmed) (D_begins_of := D_begins_of) (D_length_of := D_length_of) (K_Elimination := K_Elimination) (K_Growth := K_Growth)) (F_System_take.binds (ps := ["self", "borders", "zones"]) fun _ _ _ _ _ _ us hl => match us, hl with | [_, _, _], _ => rfl)
  have D_is_ascending := def_mk (ok_is_ascending (P := PP) (w := w) (K := K) (mg := mg) (base := base)  (F := F_is_ascending) (bt := bt) (g_MOST_ITEMS := gi_MOST_ITEMS) (D_is_within := D_is_within)) (gl "is_ascending" (by decide)) F_is_ascending.kp (F_is_ascending.binds (ps := ["value", "low", "high"]) fun _ _ _ _ _ _ us hl => match us, hl with | [_, _, _], _ => rfl)
  have D_is_zone := def_mk (ok_is_zone (P := PP) (w := w) (K := K) (mg := mg) (base := base)  (F := F_is_zone) (bt := bt) (g_MOST_UNKNOWNS := gi_MOST_UNKNOWNS) (g_MOST_OFFSET := gi_MOST_OFFSET) (D_is_within := D_is_within) (D_is_ascending := D_is_ascending)) (gl "is_zone" (by decide)) F_is_zone.kp (F_is_zone.binds (ps := ["value", "borders"]) fun _ _ _ _ _ _ us hl => match us, hl with | [_, _], _ => rfl)
  have D_check_length := def_mk (ok_check_length (P := PP) (w := w) (K := K) (mg := mg) (base := base) (CZ := EA K 0) (F := F_check_length) (g_MOST_UNKNOWNS := gi_MOST_UNKNOWNS) (X_InvalidZones := X_InvalidZones) (D_length_of := D_length_of)) (gl "check_length" (by decide)) F_check_length.kp (F_check_length.binds (ps := ["zones"]) fun _ _ _ _ _ _ us hl => match us, hl with | [_], _ => rfl)
  have D_check_zones := def_mk (ok_check_zones (P := PP) (w := w) (K := K) (mg := mg) (base := base) (CZ := EA K 0) (F := F_check_zones) (bt := bt) (g_MOST_ZONES := gi_MOST_ZONES) (X_InvalidZones := X_InvalidZones) (D_is_zone := D_is_zone) (D_check_length := D_check_length)) (gl "check_zones" (by decide)) F_check_zones.kp (F_check_zones.binds (ps := ["value", "borders"]) fun _ _ _ _ _ _ us hl => match us, hl with | [_, _], _ => rfl)
  have K_System := make_mk (gl "System" (by decide)) (mk "System" (by decide)) (ok_System_init (P := PP) (w := w) (K := K) (mg := mg) (base := base) (CB := EA K 5) (CZ := EA K 0) (C := csOf K) (F := F_System_init) (bt := bt) (g_MOST_BORDERS := gi_MOST_BORDERS) (X_InvalidBorders := X_InvalidBorders) (D_is_within := D_is_within) (D_check_zones := D_check_zones) (D_kept_zones := D_kept_zones) (M_take := M_take)) (F_System_init.binds (ps := ["self", "borders", "zones"]) fun _ _ _ _ _ _ us hl => match us, hl with | [_, _, _], _ => rfl)
  have D_law_kinds := def_mk (ok_law_kinds (P := PP) (w := w) (K := K) (mg := mg) (base := base) (E := EA K) (F := F_law_kinds) (bt := bt) (T := ET)) (gl "_law_kinds" (by decide)) F_law_kinds.kp (F_law_kinds.binds (ps := ["_law_e"]) fun _ _ _ _ _ _ us hl => match us, hl with | [_], _ => rfl)
  have P_unknowns := prop_mk (C := ga K "System") (m := "unknowns") (cl "System" (by decide)) (pr ("System", "unknowns") (by decide)) (ok_unknowns (P := PP) (w := w) (K := K) (mg := mg) (base := base) (C := csOf K) (F := F_System_unknowns) (A := NA)) (F_System_unknowns.binds (ps := ["self"]) fun _ _ _ _ _ _ us hl => match us, hl with | [_], _ => rfl)
  have D_cut_zones := def_mk (ok_cut_zones (P := PP) (w := w) (K := K) (mg := mg) (base := base)  (F := F_cut_zones) (bt := bt)) (gl "cut_zones" (by decide)) F_cut_zones.kp (F_cut_zones.binds (ps := ["zones", "begin", "end"]) fun _ _ _ _ _ _ us hl => match us, hl with | [_, _, _], _ => rfl)
  have D_law_kind := defG_mk (ok_law_kind (P := PP) (w := w) (K := K) (mg := mg) (base := base) (E := EA K) (F := F_law_kind) (bt := bt) (T := ET) (D_law_kinds := D_law_kinds)) (gl "_law_kind" (by decide)) F_law_kind.kp (F_law_kind.binds (ps := ["_law_e"]) fun _ _ _ _ _ _ us hl => match us, hl with | [_], _ => rfl)
  have D_size_of := def_mk (ok_size_of (P := PP) (w := w) (K := K) (mg := mg) (base := base)  (F := F_size_of) (bt := bt)) (gl "size_of" (by decide)) F_size_of.kp (F_size_of.binds (ps := ["mask"]) fun _ _ _ _ _ _ us hl => match us, hl with | [_], _ => rfl)
  have M_kinds_among := meth_mk (cl "Stretch" (by decide)) (mt ("Stretch", "_kinds_among") (by decide)) (ok_kinds_among (P := PP) (w := w) (K := K) (mg := mg) (base := base) (C := ga K "Stretch") (F := F_Stretch_kinds_among) (bt := bt) (cs := (cl "Stretch" (by decide))) (n1 := (na ("Stretch", "begin") (by decide))) (n2 := (na ("Stretch", "end") (by decide))) (n3 := (na ("Stretch", "tail") (by decide)))) (F_Stretch_kinds_among.binds (ps := ["self", "masks", "begin", "end"]) fun _ _ _ _ _ _ us hl => match us, hl with | [_, _, _, _], _ => rfl)
  have M_stretch := meth_mk (cl "Elimination" (by decide)) (mt ("Elimination", "stretch") (by decide)) (ok_stretchE (P := PP) (w := w) (K := K) (mg := mg) (base := base) (CE := ga K "Elimination") (CS := ga K "Stretch") (F := F_Elimination_stretch) (bt := bt) (c := (cl "Elimination" (by decide))) (n1 := (na ("Elimination", "_begins") (by decide))) (n2 := (na ("Elimination", "_inner") (by decide))) (n3 := (na ("Elimination", "stretches") (by decide))) (D_standing_at := D_standing_at)) (F_Elimination_stretch.binds (ps := ["self", "unknown"]) fun _ _ _ _ _ _ us hl => match us, hl with | [_, _], _ => rfl)
  have M_mask := meth_mk (cl "Elimination" (by decide)) (mt ("Elimination", "mask") (by decide)) (ok_maskE (P := PP) (w := w) (K := K) (mg := mg) (base := base) (CE := ga K "Elimination") (CS := ga K "Stretch") (F := F_Elimination_mask) (bt := bt) (c := (cl "Elimination" (by decide))) (cs := (cl "Stretch" (by decide))) (n2 := (na ("Elimination", "_inner") (by decide))) (n4 := (na ("Elimination", "last_masks") (by decide))) (M_stretch := M_stretch) (M_mask_at := M_mask_at)) (F_Elimination_mask.binds (ps := ["self", "unknown"]) fun _ _ _ _ _ _ us hl => match us, hl with | [_, _], _ => rfl)
  have M_kinds := meth_mk (cl "Stretch" (by decide)) (mt ("Stretch", "kinds") (by decide)) (ok_kinds (P := PP) (w := w) (K := K) (mg := mg) (base := base) (C := ga K "Stretch") (F := F_Stretch_kinds) (cs := (cl "Stretch" (by decide))) (n4 := (na ("Stretch", "masks") (by decide))) (M_kinds_among := M_kinds_among)) (F_Stretch_kinds.binds (ps := ["self", "begin", "end"]) fun _ _ _ _ _ _ us hl => match us, hl with | [_, _, _], _ => rfl)
  have M_kinds := meth_mk (cl "Elimination" (by decide)) (mt ("Elimination", "kinds") (by decide)) (ok_E_kinds (P := PP) (w := w) (K := K) (mg := mg) (base := base) (CE := ga K "Elimination") (CS := ga K "Stretch") (F := F_Elimination_kinds) (bt := bt) (c := (cl "Elimination" (by decide))) (n3 := (na ("Elimination", "stretches") (by decide))) (n2 := (na ("Elimination", "_inner") (by decide))) (M_kinds := M_kinds) (M_mask := M_mask)) (F_Elimination_kinds.binds (ps := ["self", "begin", "end"]) fun _ _ _ _ _ _ us hl => match us, hl with | [_, _, _], _ => rfl)
  have D_sizes_of := def_mk (ok_sizes_of (P := PP) (w := w) (K := K) (mg := mg) (base := base) (C := csOf K) (F := F_sizes_of) (A := NA) (M_kinds := M_kinds) (D_size_of := D_size_of)) (gl "sizes_of" (by decide)) F_sizes_of.kp (F_sizes_of.binds (ps := ["system", "begin", "end"]) fun _ _ _ _ _ _ us hl => match us, hl with | [_, _, _], _ => rfl)
  have D_check_system := def_mk (ok_check_system (P := PP) (w := w) (K := K) (mg := mg) (base := base) (CI := EA K 6) (C := csOf K) (F := F_check_system) (bt := bt) (g_System := (gl "System" (by decide))) (X_InvalidSystem := X_InvalidSystem)) (gl "check_system" (by decide)) F_check_system.kp (F_check_system.binds (ps := ["value"]) fun _ _ _ _ _ _ us hl => match us, hl with | [_], _ => rfl)
  have D_check_span := def_mk (ok_check_span (P := PP) (w := w) (K := K) (mg := mg) (base := base) (CSp := EA K 8) (F := F_check_span) (X_InvalidSpan := X_InvalidSpan) (D_is_within := D_is_within)) (gl "check_span" (by decide)) F_check_span.kp (F_check_span.binds (ps := ["begin", "end", "number"]) fun _ _ _ _ _ _ us hl => match us, hl with | [_, _, _], _ => rfl)
  have D_check_part := def_mk (ok_check_part (P := PP) (w := w) (K := K) (mg := mg) (base := base) (CI := EA K 6) (CSp := EA K 8) (C := csOf K) (F := F_check_part) (D_check_system := D_check_system) (D_check_span := D_check_span) (P_unknowns := P_unknowns)) (gl "check_part" (by decide)) F_check_part.kp (F_check_part.binds (ps := ["system", "begin", "end"]) fun _ _ _ _ _ _ us hl => match us, hl with | [_, _, _], _ => rfl)
  have D_room_of := def_mk (ok_room_of (P := PP) (w := w) (K := K) (mg := mg) (base := base) (C := csOf K) (F := F_room_of) (bt := bt) (D_sizes_of := D_sizes_of)) (gl "room_of" (by decide)) F_room_of.kp (F_room_of.binds (ps := ["system", "begin", "end"]) fun _ _ _ _ _ _ us hl => match us, hl with | [_, _, _], _ => rfl)
  have D_room := def_mk (ok_room (P := PP) (w := w) (K := K) (mg := mg) (base := base) (CI := EA K 6) (CSp := EA K 8) (C := csOf K) (F := F_room) (D_check_part := D_check_part) (D_room_of := D_room_of)) (gl "room" (by decide)) F_room.kp (F_room.binds (ps := ["system", "begin", "end"]) fun _ _ _ _ _ _ us hl => match us, hl with | [_, _, _], _ => rfl)
  have M_couplings_from := meth_mk (cl "System" (by decide)) (mt ("System", "couplings_from") (by decide)) (ok_couplings_from (P := PP) (w := w) (K := K) (mg := mg) (base := base) (C := csOf K) (F := F_System_couplings_from) (bt := bt) (A := NA) (D_cut_zones := D_cut_zones)) (F_System_couplings_from.binds (ps := ["self", "begin", "end"]) fun _ _ _ _ _ _ us hl => match us, hl with | [_, _, _], _ => rfl)
  have D_fill := def_mk (ok_fill (P := PP) (w := w) (K := K) (mg := mg) (base := base) (CI := EA K 6) (CSp := EA K 8) (C := csOf K) (F := F_fill) (D_check_part := D_check_part) (D_room_of := D_room_of) (M_couplings_from := M_couplings_from)) (gl "fill" (by decide)) F_fill.kp (F_fill.binds (ps := ["system", "begin", "end"]) fun _ _ _ _ _ _ us hl => match us, hl with | [_, _, _], _ => rfl)
  have D_check_integer := def_mk (ok_check_integer (P := PP) (w := w) (K := K) (mg := mg) (base := base) (CN := EA K 9) (F := F_check_integer) (X_InvalidNumber := X_InvalidNumber) (D_is_integer := D_is_integer)) (gl "check_integer" (by decide)) F_check_integer.kp (F_check_integer.binds (ps := ["value"]) fun _ _ _ _ _ _ us hl => match us, hl with | [_], _ => rfl)
  have D_work := def_mk (ok_work (P := PP) (w := w) (K := K) (mg := mg) (base := base) (CI := EA K 6) (CSp := EA K 8) (C := csOf K) (F := F_work) (bt := bt) (D_check_part := D_check_part) (D_sizes_of := D_sizes_of)) (gl "work" (by decide)) F_work.kp (F_work.binds (ps := ["system", "begin", "end"]) fun _ _ _ _ _ _ us hl => match us, hl with | [_, _, _], _ => rfl)
  have D_widest := def_mk (ok_widest (P := PP) (w := w) (K := K) (mg := mg) (base := base) (CI := EA K 6) (CSp := EA K 8) (C := csOf K) (F := F_widest) (bt := bt) (D_check_part := D_check_part) (D_sizes_of := D_sizes_of)) (gl "widest" (by decide)) F_widest.kp (F_widest.binds (ps := ["system", "begin", "end"]) fun _ _ _ _ _ _ us hl => match us, hl with | [_, _, _], _ => rfl)
  have D_first_wide := def_mk (ok_first_wide (P := PP) (w := w) (K := K) (mg := mg) (base := base) (CI := EA K 6) (CN := EA K 9) (C := csOf K) (F := F_first_wide) (bt := bt) (D_check_system := D_check_system) (D_check_integer := D_check_integer) (P_unknowns := P_unknowns) (D_sizes_of := D_sizes_of)) (gl "first_wide" (by decide)) F_first_wide.kp (F_first_wide.binds (ps := ["system", "size"]) fun _ _ _ _ _ _ us hl => match us, hl with | [_, _], _ => rfl)
  have D_law_called := def_mk (ok_law_called (P := PP) (w := w) (K := K) (mg := mg) (base := base) (C := csOf K) (E := EA K) (F := F_law_called) (D_room := D_room) (D_fill := D_fill) (D_work := D_work) (D_widest := D_widest) (D_first_wide := D_first_wide)) (gl "_law_called" (by decide)) F_law_called.kp (F_law_called.binds (ps := ["_law_door", "_law_one", "_law_two", "_law_three"]) fun _ _ _ _ _ _ us hl => match us, hl with | [_, _, _, _], _ => rfl)
  have D_law_told := defG_mk (ok_law_told (P := PP) (w := w) (K := K) (mg := mg) (base := base) (CF := ga K "FillError") (C := csOf K) (E := EA K) (F := F_law_told) (bt := bt) (EF := EF) (T := ET) (D_law_called := D_law_called) (D_law_kind := D_law_kind)) (gl "_law_told" (by decide)) F_law_told.kp (F_law_told.binds (ps := ["_law_door", "_law_one", "_law_two", "_law_three"]) fun _ _ _ _ _ _ us hl => match us, hl with | [_, _, _, _], _ => rfl)
  have D_law_wound := def_mk (ok_law_wound (P := PP) (w := w) (K := K) (mg := mg) (base := base)  (F := F_law_wound) (bt := bt)) (gl "_law_wound" (by decide)) F_law_wound.kp (F_law_wound.binds (ps := ["_law_script", "_law_k"]) fun _ _ _ _ _ _ us hl => match us, hl with | [_, _], _ => rfl)
  have D_law_spin := def_mk (ok_law_spin (P := PP) (w := w) (K := K) (mg := mg) (base := base)  (F := F_law_spin) (bt := bt)) (gl "_law_spin" (by decide)) F_law_spin.kp (F_law_spin.binds (ps := ["_law_reel", "_law_many"]) fun _ _ _ _ _ _ us hl => match us, hl with | [_, _], _ => rfl)
  have D_law_picked := def_mk (ok_law_picked (P := PP) (w := w) (K := K) (mg := mg) (base := base)  (F := F_law_picked) (bt := bt) (D_law_spin := D_law_spin)) (gl "_law_picked" (by decide)) F_law_picked.kp (F_law_picked.binds (ps := ["_law_reel", "_law_low", "_law_high", "_law_share"]) fun _ _ _ _ _ _ us hl => match us, hl with | [_, _, _, _], _ => rfl)
  have D_law_zones := def_mk (ok_law_zones (P := PP) (w := w) (K := K) (mg := mg) (base := base)  (F := F_law_zones) (bt := bt) (D_law_spin := D_law_spin) (D_law_picked := D_law_picked)) (gl "_law_zones" (by decide)) F_law_zones.kp (F_law_zones.binds (ps := ["_law_reel", "_law_many", "_law_most", "_law_reach", "_law_borders"]) fun _ _ _ _ _ _ us hl => match us, hl with | [_, _, _, _, _], _ => rfl)
  have D_law_far_zones := def_mk (ok_law_far_zones (P := PP) (w := w) (K := K) (mg := mg) (base := base)  (F := F_law_far_zones) (bt := bt) (D_law_spin := D_law_spin) (D_law_picked := D_law_picked)) (gl "_law_far_zones" (by decide)) F_law_far_zones.kp (F_law_far_zones.binds (ps := ["_law_reel", "_law_many", "_law_reach", "_law_borders"]) fun _ _ _ _ _ _ us hl => match us, hl with | [_, _, _, _], _ => rfl)
  have D_law_right := defG_mk (ok_law_right (P := PP) (w := w) (K := K) (mg := mg) (base := base) (C := csOf K) (E := EA K) (F := F_law_right) (bt := bt) (ks := KS) (kn := KN) (D_law_spin := D_law_spin) (K_System := K_System) (P_unknowns := P_unknowns) (D_law_told := D_law_told)) (gl "_law_right" (by decide)) F_law_right.kp (F_law_right.binds (ps := ["_law_reel", "_law_borders", "_law_zones_here"]) fun _ _ _ _ _ _ us hl => match us, hl with | [_, _, _], _ => rfl)
  exact (ok_law (P := PP) (w := w) (K := K) (mg := mg) (base := base) (C := csOf K) (F := F_law) (bt := bt) (D_law_wound := D_law_wound) (D_law_spin := D_law_spin) (D_law_zones := D_law_zones) (D_law_far_zones := D_law_far_zones) (D_law_right := D_law_right))
end Fe
set_option maxHeartbeats 0
open PySem PySem.W PySem.Calls PyProof.Rows
theorem PySem.Challenge.cw_fillbands_k15_errors_of_counts_holds : PySem.Challenge.rw_fillbands_k15_errors_of_counts.Holds := by
  w_on; o_law
  refine HandSHeadRun.head_imp (r := OpenLaw.row PySem.Challenge.rw_fillbands_k15_errors_of_counts) (q := view (OpenLaw.row PySem.Challenge.rw_fillbands_k15_errors_of_counts).prog [0, 88]) (H := Fe.hk) (ob := Fe.ob) (M := 20000) (loose := Fe.names) (d := HandSHeadRun.topDef (OpenLaw.row PySem.Challenge.rw_fillbands_k15_errors_of_counts).prog 88) (kwd := []) Fe.ob_eq
    Fe.run (by kernel_rfl) (by kernel_rfl) (by kernel_rfl) (by rfl) (by first | assumption | decide +kernel) (by decide +kernel) ⟨rfl, rfl, rfl, rfl, rfl, by decide +kernel⟩ ?hw ?hc
  case hw => w_witness2
  case hc =>
    refine L2.walk_GE (l := PySem.Challenge.rw_fillbands_k15_errors_of_counts) (n := 63) (k := 13) (x := "_law_script") (CX := L2.CX0) rfl (by decide) (by kernel_rfl) ⟨rfl, by decide, by decide⟩ ?F (fun _ _ _ _ z => z)
    intro w mg fa h Y G hmg0
    obtain ⟨K, KX, c⟩ := Y
    have hmg : mg ("law" : PySem.Str) = some (.ref fa) := by
      have e : (HandSHeadRun.topDef (OpenLaw.row PySem.Challenge.rw_fillbands_k15_errors_of_counts).prog 88).name = ("law" : PySem.Str) := by kernel_rfl
      rw [← e]
      exact hmg0
    obtain ⟨fd, hb, hF⟩ := Fe.facts (w := w) KX G hmg c (by first | rfl | kernel_rfl)
    exact ⟨K, fd, Fb.spLaw K, KX, hb, fun H a ns hl _ hS => ⟨a, ns, rfl, hS, fun _ => rfl⟩, hF⟩
