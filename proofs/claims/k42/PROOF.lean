import PyProof.Rows.All
import Wide.All
import OpenK.AllK
import Wide.FinOn
import KE.KExcTry
import KE.KExcIs
import PyProof.FString2
import HandS.ForExc
import HandS.ExcValue
import HandS.FStr
import HandS.IsInst
import HandS.ExcSuper
import HandS.ExcIs
import PyProof.FitsInt
import HandS.ForMost
import HandS.Wide
import PySem.Challenge.RW_fillbands_k42_errors_made
set_option Elab.async false
set_option linter.all false
set_option maxRecDepth 100000
set_option maxHeartbeats 4000000
namespace PySem
namespace FX
open PySem.W PySem.Calls PyProof.Rows PySem.HandSPX
/-! own exceptions whose __init__ says super().__init__(f'..') and stores one field -/
def fA (fld : Str) (p1 p2 : Pos) : Arguments := { posonlyargs := [], args := [{ arg := "self", annotation := none, pos := p1 }, { arg := fld, annotation := none, pos := p2 }], vararg := none, kwonlyargs := [], kw_defaults := [], kwarg := none, defaults := [] }
def fS (fld : Str) : Scope := { kind := .function, names := [(PySem.Str.ofString "self", .local), (fld, .local), (PySem.Str.ofString "__class__", .free), (PySem.Str.ofString "super", .globalImplicit)], isGenerator := false, isCoroutine := false, more := [] }
def fB (fld a : Str) (tl : List Expr) (p0 p1 p2 p3 p4 p5 p6 p7 p8 q1 q2 q3 q4 : Pos) (j : Nat) : List Stmt :=
  [.Expr (.Call (.Attribute (.Call (.Name "super" p0) [] [] p1) "__init__" p2) [.JoinedStr (.Constant (.str a) j p6 :: .FormattedValue (.Name fld p7) (-1) none p8 :: tl) p3] [] p4) p5,
   .Assign [.Attribute (.Name "self" q1) fld q2] (.Name fld q3) q4]
inductive Tl : List Expr → Prop where
  | nil : Tl []
  | one (b : Str) (j : Nat) (p : Pos) (h : b.length ≤ 1000) : Tl [.Constant (.str b) j p]
structure FldName (fld : Str) : Prop where
  l1 : (fS fld).names.lookup ("self" : Str) = some .local
  l2 : (fS fld).names.lookup fld = some .local
  l3 : (fS fld).names.lookup ("super" : Str) = some .globalImplicit
  l4 : (fS fld).names.lookup ("__class__" : Str) = some .free
  db : (fld == ("__debug__" : Str)) = false
  sf : (("self" : Str) == fld) = false
  bd : ∀ (qual : Str) (body : List Stmt) (r1 r2 : Pos) (doc pm : Value) (an : Option Addr) (cdv ct : Value) (cc : Addr) (u v : Value),
    bindArgs (ksFn "__init__" qual (fA fld r1 r2) body (fS fld) .none .none doc pm an cdv ct cc) ⟨[u, v], []⟩ = (pure [((PySem.Str.ofString "self" : Str), u), (fld, v)] : Sem (List (Str × Value)))
theorem fld_item : FldName "item" := ⟨rfl, rfl, rfl, rfl, by decide, by decide, fun _ _ _ _ _ _ _ _ _ _ _ _ => rfl⟩
theorem fld_part : FldName "part" := ⟨rfl, rfl, rfl, rfl, by decide, by decide, fun _ _ _ _ _ _ _ _ _ _ _ _ => rfl⟩
theorem fld_limit : FldName "limit" := ⟨rfl, rfl, rfl, rfl, by decide, by decide, fun _ _ _ _ _ _ _ _ _ _ _ _ => rfl⟩
theorem fld_count : FldName "count" := ⟨rfl, rfl, rfl, rfl, by decide, by decide, fun _ _ _ _ _ _ _ _ _ _ _ _ => rfl⟩
def EvOk (qual fld a : Str) (tl : List Expr) (p0 p1 p2 p3 p4 p6 p7 p8 : Pos) (j : Nat) (cdv : Value) (cc : Addr) : Prop := ∀ (L f : Addr), ∃ pl : Sem Bool,
    eval (.Call (.Attribute (.Call (.Name "super" p0) [] [] p1) "__init__" p2) [.JoinedStr (.Constant (.str a) j p6 :: .FormattedValue (.Name fld p7) (-1) none p8 :: tl) p3] [] p4) (ksEnv qual (fS fld) L f cdv cc) = (do
      let ov ← attributeBase (.Call (.Name "super" p0) [] [] p1) "__init__" (ksEnv qual (fS fld) L f cdv cc) (eval (.Call (.Name "super" p0) [] [] p1) (ksEnv qual (fS fld) L f cdv cc))
      standAt p2.atName
      let (fn, first) ← holding [ov] (getMethod ov "__init__" pl)
      callWith p4 fn first (backTo p4 (starEach [.JoinedStr (.Constant (.str a) j p6 :: .FormattedValue (.Name fld p7) (-1) none p8 :: tl) p3] (ksEnv qual (fS fld) L f cdv cc))) [])
/-- what the written part says of such a class, at C, and of its __init__, at fI -/
structure FldTxt (P : Program) (K : Frag) (mg : Str → Option Value) (cname fld a : Str) (tl : List Expr) (C fI : Addr) : Prop where
  nm : FldName fld
  gC : mg cname = some (.ref C)
  cls : ∃ nm q N bs bm sn sub ab col dd k0 k1 k2 k3 k5, K.lookup C = some (excClassObj nm q C N bs bm true sn sub ab col dd k0 k1 k2 k3 k5 "ValueError.__new__") ∧ refsVE bm = true ∧ alongIn K "__init__" bm = some (some (.builtin "ValueError.__init__"))
  sa : findIn K (.ref C) "__setattr__" = some (some (.builtin "object.__setattr__"))
  noN : findIn K (.ref C) fld = some none
  iC : findIn K (.ref C) "__init__" = some (some (.ref fI))
  tC : typeIn K (.ref fI) = some (.type "function")
  kC : keepIn K (.ref C) = true
  exV : subIn K (.ref C) (.type "ValueError") = some true
  mroC : mroIn K C (.ref C) = some true
  opq : nsIn K cStatics "thirdparty.any" = some none
  sup : mg "super" = none
  tlo : Tl tl
  al : a.length ≤ 1000
  top : (P.main.scope.names.lookup ("super" : Str)).isSome = false
  fn : ∃ (qual : Str) (oc : Value) (od : Option Addr) (doc pm : Value) (an : Option Addr) (cda cc : Addr) (ct : Value) (osl : Array (Option Value)) (r1 r2 p0 p1 p2 p3 p4 p5 p6 p7 p8 q1 q2 q3 q4 : Pos) (j : Nat),
    K.lookup fI = some ⟨oc, od, .func (ksFn "__init__" qual (fA fld r1 r2) (fB fld a tl p0 p1 p2 p3 p4 p5 p6 p7 p8 q1 q2 q3 q4 j) (fS fld) .none .none doc pm an (.ref cda) ct cc), osl⟩ ∧ codeIn K (.ref cda) qual = true ∧
    (∃ (ccl : Value) (cdd : Option Addr) (vs : Array Value) (ccs : Array (Option Value)) (file : Str) (tf : Tok), K.lookup cda = some ⟨ccl, cdd, .fields vs, ccs⟩ ∧ vs[2]? = some (.str file tf) ∧ ((P.main.file : Str) == file) = true) ∧
    (∃ (cl : Value) (cld : Option Addr) (csl : Array (Option Value)), K.lookup cc = some ⟨cl, cld, .cell (some (.ref C)), csl⟩) ∧
    EvOk qual fld a tl p0 p1 p2 p3 p4 p6 p7 p8 j (.ref cda) cc
/-- a field's value: None, or an int that may be shown -/
inductive FV : Value → Prop where
  | non : FV .none
  | int (i : Int) (t : Tok) (h : i.natAbs.log2 < 1920) : FV (.int i t)
theorem one_size (v : Value) : [v].length ≤ sizeLine := by
  rw [sizeLine_eq]
  exact (by decide : 1 ≤ 16777216)
theorem kept_but {K : Frag} {h h' : Heap} {x : Addr} (X : K.In h) (hx : K.lookup x = none) (k : ∀ b o, b ≠ x → h.get? b = some o → h'.get? b = some o) : K.In h' := fun a o e =>
  k a o (fun z => by rw [z, hx] at e; cases e) (X a o e)
/-- what __init__ leaves of a fresh exception at x -/
structure InitEnd (h h' : Heap) (fld : Str) (x C dx t1 : Addr) (v : Value) : Prop where
  keep : ∀ b o, b ≠ x → h.get? b = some o → h'.get? b = some o
  obj : h'.get? x = some { cls := .ref C, dict := some dx, data := .fields #[.ref t1, .none, .none, .none, .bool false, .none] }
  dbig : h.objs.size ≤ dx
  dne : dx ≠ x
  ns : h'.Ns1 dx (fun y => if y = fld then some v else none)
/-- a made exception of such a class -/
structure FMade (h h' : Heap) (fld : Str) (e C d : Addr) (v : Value) : Prop where
  keep : ∀ b o, h.get? b = some o → h'.get? b = some o
  new : h.objs.size ≤ e
  obj : ∃ t1 : Addr, h'.get? e = some { cls := .ref C, dict := some d, data := .fields #[.ref t1, .none, .none, .none, .bool false, .none] }
  dbig : h.objs.size ≤ d
  dne : d ≠ e
  ns : h'.Ns1 d (fun y => if y = fld then some v else none)
section
variable {prog : Program} {w : World} {A : Around} {E : Value → Shared → Prop}
theorem fv_field {env : Env} {v : Value} {fld : Str} {p7 p8 : Pos} {s : Shared} {m : Str → Option Value} (hv : FV v) (hn : s.heap.Ns env.locals m) (hm : m fld = some v)
    (hk : env.scope.kind = .function) (hl : env.kindOf fld = some .local) (hd : (fld == ("__debug__" : Str)) = false) {Q : Value → Shared → Prop}
    (hq : ∀ (y : Str) (t tk : Nat), y.length ≤ 10000 → Q (.str y t) { s with toks := tk }) :
    wpAny (model prog w) A (eval (.FormattedValue (.Name fld p7) (-1) none p8) env) Q E s := by
  refine wpAny_FormattedValue_plain (PySem.ESX.ldL hn hm ?_ hk hl hd)
  cases hv with
  | non => exact wpAny_formatField_none (hq _ _ _ (by decide))
  | int i t h =>
    refine wpAny_formatField_int h (hq _ _ _ ?_)
    have e := int_text_length_le (k := 1920) (by decide) h
    rw [ofString_length]
    omega
theorem fv_joined {env : Env} {v : Value} {fld a : Str} {tl : List Expr} {p3 p6 p7 p8 : Pos} {j : Nat} {s : Shared} {m : Str → Option Value} (hv : FV v) (ha : a.length ≤ 1000) (htl : Tl tl) (hn : s.heap.Ns env.locals m) (hm : m fld = some v)
    (hk : env.scope.kind = .function) (hl : env.kindOf fld = some .local) (hd : (fld == ("__debug__" : Str)) = false) {Q : Value → Shared → Prop}
    (hq : ∀ (y : Str) (t tk : Nat), Q (.str y t) { s with toks := tk }) :
    wpAny (model prog w) A (eval (.JoinedStr (.Constant (.str a) j p6 :: .FormattedValue (.Name fld p7) (-1) none p8 :: tl) p3) env) Q E s := by
  refine wpAny_JoinedStr ?_
  have e1 : evalEach (.Constant (.str a) j p6 :: .FormattedValue (.Name fld p7) (-1) none p8 :: tl) env = eval (.Constant (.str a) j p6) env :: eval (.FormattedValue (.Name fld p7) (-1) none p8) env :: evalEach tl env := by first | rfl | simp [evalEach]
  rw [e1]
  have e0 : ∀ y : Str, Str.empty ++ y = y := fun y => by first | rfl | simp [Str.empty_append]
  refine Calls.Constant_str ⟨a, _, rfl, ?_, ?_⟩
  · rw [sizeLine_eq, e0]
    omega
  refine fv_field (s := { s with toks := s.toks + 1 }) hv hn hm hk hl hd fun y t tk hy => ⟨y, t, rfl, ?_, ?_⟩
  · rw [e0, sizeLine_eq, Str.length_append]
    omega
  cases htl with
  | nil =>
    have e2 : evalEach [] env = [] := by first | rfl | simp [evalEach]
    rw [e2]
    refine ⟨?_, hq _ _ _⟩
    rw [e0, sizeLine_eq, Str.length_append]
    omega
  | one b j' p' hb =>
    have e2 : evalEach [.Constant (.str b) j' p'] env = [eval (.Constant (.str b) j' p') env] := by first | rfl | simp [evalEach]
    rw [e2]
    refine Calls.Constant_str ⟨b, _, rfl, ?_, ?_⟩
    · rw [e0, sizeLine_eq, Str.length_append, Str.length_append]
      omega
    · refine ⟨?_, hq _ _ _⟩
      rw [e0, sizeLine_eq, Str.length_append, Str.length_append]
      omega
section
variable {R : Result → Shared → Prop} {s : Shared} {K : Frag} {mg : Str → Option Value} {cname fld a : Str} {tl : List Expr} {C fI : Addr}
/-- the built-in ValueError.__init__, bound to the object, called -/
theorem call_bwV {u e t0 : Addr} {rest : List Value} {nm q : Str} {N : Addr} {bs bm : List Value} {sn : List Str} {sub : List Value} {ab : Bool} {col : Option Bool} {dd : Option Addr} {k0 k1 k2 k3 k5 : Option Value} {Q : Value → Shared → Prop}
    (hC : s.heap.get? C = some (excClassObj nm q C N bs bm true sn sub ab col dd k0 k1 k2 k3 k5 "ValueError.__new__")) (he : s.heap.get? e = some (excO C t0)) (hu : s.heap.get? u = some (kxs_mw "ValueError.__init__" e)) (hrest : rest.length ≤ sizeLine)
    (hq : ∀ h' t1, (∀ b o, b ≠ e → s.heap.get? b = some o → h'.get? b = some o) → h'.get? e = some (excO C t1) → Q .none { s with heap := h' }) :
    wpAny (model prog w) A (call (.ref u) rest) Q E s := by
  obtain ⟨hh, g, d, tk, os⟩ := s
  refine wpAny_call (codeAny_of_tree ?_)
  show wpAny _ A.in1 (callAny (.ref u) ⟨rest, []⟩) _ _ _
  simp only [callAny]
  refine wpAny_bind (wpAny_load hu ?_)
  simp only [kxs_mw, show (Value.type "method-wrapper" == Value.type "method" || Value.type "method-wrapper" == Value.type "builtin_function_or_method" || Value.type "method-wrapper" == Value.type "method-wrapper") = true by decide, if_true]
  refine KFB.if_so (by decide) ?_
  refine wpAny_bind (check_bound_init PySem.F.excBase_ValueError.toExcCallFacts hC he rfl ?_)
  refine wpAny_bind (wpAny_pure (wpAny_pure ?_))
  refine ⟨plainId_quiet PySem.F.excBase_ValueError.init.plain _, codeAny_builtin PySem.F.excBase_ValueError.initEntry ?_⟩
  exact exc_init_tree (cls := .ref C) (t0 := t0) (dv := none) (c2 := .none) (c3 := .none) (b4 := .bool false) he hrest fun h' k e1 _ => hq h' _ k e1
theorem looks_mro_of {M : Model} {h : Heap} {cd : ClassData} (X : K.In h) (hc : clsIn K C = some cd) : Looks M h (mroOf (.ref C)) cd.mro :=
  fun A Q E s k q => wpAny_bind ((looks_clsIn X hc) A _ E s k (wpAny_pure q))
theorem fld_init (T : FldTxt prog K mg cname fld a tl C fI) {x t0 : Addr} {v : Value} {mb : Str → Option Value} (X : K.In s.heap) (hlim : s.heap.NoLimit) (hg : s.heap.Ns mainGlobals mg) (hb : s.heap.Ns builtinsNs mb) (hbs : mb "super" = some (.type "super"))
    (hx : s.heap.get? x = some (excO C t0)) (hnx : K.lookup x = none) (hroom : A.depth < recursionLimit) (hv : FV v)
    (hq : ∀ h' tk dx t1, InitEnd s.heap h' fld x C dx t1 v → R (.ok (.ret .none)) { s with heap := h', toks := tk }) :
    codeAny (model prog w) A (.call (.ref fI) ⟨[.ref x, v], []⟩) R s := by
  obtain ⟨qual, oc, od, doc, pm, an, cda, cc, ct, osl, r1, r2, p0, p1, p2, p3, p4, p5, p6, p7, p8, q1, q2, q3, q4, j, ho, hcd, ⟨ccl, cdd, vs, ccs, file, tf, hcode, hvs, hfile⟩, ⟨cl, cld, csl, hcell⟩, hevs⟩ := T.fn
  obtain ⟨nm, q, N, bs, bm, sn, sub, ab, col, dd, k0, k1, k2, k3, k5, hC, hbm, hal⟩ := T.cls
  have hcl : clsIn K C = some { name := nm, bases := bs, mro := .ref C :: bm, ns := N, qualname := q, hasDict := true, slotNames := sn, subclasses := sub, abstract := ab, collection := col, hasDel := false } := by unfold clsIn; rw [hC] <;> rfl
  have nm1 := T.nm
  have hlen : ∀ y ∈ (fS fld).names, y.2 ≠ .cell := by
    intro y hy
    simp only [fS, List.mem_cons, List.not_mem_nil, or_false] at hy
    rcases hy with rfl | rfl | rfl | rfl <;> intro z <;> cases z
  have hloc : ∀ y ∈ [((PySem.Str.ofString "self" : Str), Value.ref x), (fld, v)], (fS fld).names.lookup y.1 = some .local := by
    intro y hy
    simp only [List.mem_cons, List.not_mem_nil, or_false] at hy
    rcases hy with rfl | rfl
    · exact nm1.l1
    · exact nm1.l2
  refine ks_codeAny_call_defAt (fd := ksFn "__init__" qual (fA fld r1 r2) (fB fld a tl p0 p1 p2 p3 p4 p5 p6 p7 p8 q1 q2 q3 q4 j) (fS fld) .none .none doc pm an (.ref cda) ct cc) (body := fB fld a tl p0 p1 p2 p3 p4 p5 p6 p7 p8 q1 q2 q3 q4 j)
    (binds := [("self", .ref x), (fld, v)]) hroom (X _ _ ho) rfl hlim (codeRec_of X hcd) rfl (BindsTo.of_eq (nm1.bd _ _ _ _ _ _ _ _ _ _ _ _)) hlen hloc (fun h₁ hns k => ?_)
  have X₁ : K.In h₁ := X.keeps k
  have hx₁ := k _ _ hx
  have hxC : x ≠ C := fun z => by
    have hc := X _ _ hC
    rw [← z, hx] at hc
    exact absurd (Option.some.inj hc) (by intro y; cases y)
  have mself : (fun y => List.lookup y [(PySem.Str.ofString "self", Value.ref x), (fld, v)].reverse) (PySem.Str.ofString "self") = some (Value.ref x) := by
    show List.lookup (PySem.Str.ofString "self") [(fld, v), (PySem.Str.ofString "self", Value.ref x)] = some (Value.ref x)
    simp [List.lookup, nm1.sf]
  have mfld : (fun y => List.lookup y [(PySem.Str.ofString "self", Value.ref x), (fld, v)].reverse) fld = some v := by
    show List.lookup fld [(fld, v), (PySem.Str.ofString "self", Value.ref x)] = some v
    simp [List.lookup]
  obtain ⟨pl, hev⟩ := hevs s.heap.objs.size fI
  refine ks_wpAt_execs_cons (ks_wpAt_Expr_any (ks_wpAt_MethodCall (pl := pl) ?_ hev))
  refine ks_wpAt_super_base (env := ksEnv qual (fS fld) s.heap.objs.size fI (.ref cda) cc) (attr := "__init__") (ar := { arg := "self", annotation := none, pos := r1 }) nm1.l3 nm1.l4 (by decide) rfl (X₁ _ _ ho) rfl rfl rfl (X₁ _ _ hcode) rfl hvs hfile T.top ?_
  refine ks_loadName_global (env := ksEnv qual (fS fld) s.heap.objs.size fI (.ref cda) cc) rfl nm1.l3 (Calls.loadGlobal_builtin (env := ksEnv qual (fS fld) s.heap.objs.size fI (.ref cda) cc) (hg.keeps k) T.sup (hb.keeps k) hbs ⟨rfl, ?_⟩)
  refine wpAny_loadName_free rfl nm1.l4 rfl ⟨_, X₁ _ _ hcell, rfl⟩ ?_
  refine wpAny_loadName_local rfl nm1.l1 hns mself ?_
  refine ks_wpAny_isType_cls (X₁ _ _ hC) rfl ⟨rfl, ?_⟩
  refine ks_wpAny_call_super (X₁ _ _ hC) rfl hx₁ rfl (fun c e => by cases e) (looks_mroIn X₁ T.mroC) (fun h2 e2 k2 => ?_)
  have X₂ : K.In h2 := X₁.keeps k2
  have hx₂ := k2 _ _ hx₁
  have hns2 : h2.Ns s.heap.objs.size _ := hns.keeps k2
  have I2 : InstAt h2 x (excO C t0) C none := ⟨hx₂, rfl, rfl, trivial⟩
  refine kxs_getMethod kxs_ValueError e2 (looks_opaque X₂ T.opq) (l₀ := .ref C :: bm) (looks_mro_of X₂ hcl) (by simp [List.dropWhile_cons]) X₂ hal (I2.type.andThen (looks_subIn X₂ T.exV)) hxC (by decide) ?_
  have hx₃ : (h2.push (kxs_mw "ValueError.__init__" x)).get? x = some (excO C t0) := Heap.get?_push_of_some _ hx₂
  have hu₃ : (h2.push (kxs_mw "ValueError.__init__" x)).get? h2.objs.size = some (kxs_mw "ValueError.__init__" x) := Heap.get?_push_at rfl rfl
  have k3 : ∀ b o, h₁.get? b = some o → (h2.push (kxs_mw "ValueError.__init__" x)).get? b = some o := fun b o e => Heap.get?_push_of_some _ (k2 b o e)
  have hns3 := hns.keeps k3
  refine kxs_callWith (i := "ValueError.__init__") (x := x) (by rfl) (evalArgs_plain ?_)
  show wpAny _ _ (spliced ((false, eval (.JoinedStr (.Constant (.str a) j p6 :: .FormattedValue (.Name fld p7) (-1) none p8 :: tl) p3) (ksEnv qual (fS fld) s.heap.objs.size fI (.ref cda) cc)) :: backTo p4 (starEach [] (ksEnv qual (fS fld) s.heap.objs.size fI (.ref cda) cc)))) _ _ _
  refine Calls.spliced_cons (fv_joined (env := ksEnv qual (fS fld) s.heap.objs.size fI (.ref cda) cc) (fld := fld) hv T.al T.tlo hns3 mfld rfl nm1.l2 nm1.db fun y t tk => ?_)
  refine Calls.spliced_nil ⟨hu₃, ?_⟩
  refine call_bwV ((X₁.keeps k3) _ _ hC) hx₃ hu₃ (one_size _) fun h4 t4 k4 hx4 => ?_
  have xL : s.heap.objs.size ≠ x := Nat.ne_of_gt (Heap.lt_size hx)
  have hns4 : h4.Ns s.heap.objs.size (fun y => List.lookup y [(PySem.Str.ofString "self", Value.ref x), (fld, v)].reverse) := by
    obtain ⟨oL, es, ep, hL, r⟩ := hns3
    exact ⟨oL, es, ep, k4 _ _ xL hL, r⟩
  have X₄ : K.In h4 := kept_but (X₁.keeps k3) hnx k4
  have k04 : ∀ b o, b ≠ x → s.heap.get? b = some o → h4.get? b = some o := fun b o hb e => k4 b o hb (k3 b o (k b o e))
  show wpAt _ _ _ (execs [Stmt.Assign [(Expr.Name (Str.ofString "self") q1).Attribute fld q2] (Expr.Name fld q3) q4] _) _ _ _
  refine ks_wpAt_execs_cons (ks_wpAt_Assign_Attr (wpAt_of_wpAny ?_))
  refine PySem.ESX.ldL (env := ksEnv qual (fS fld) s.heap.objs.size fI (.ref cda) cc) hns4 mfld ?_ rfl nm1.l2 nm1.db
  refine PySem.ESX.ldL (env := ksEnv qual (fS fld) s.heap.objs.size fI (.ref cda) cc) hns4 mself ?_ rfl nm1.l1 (by decide)
  refine set_plain X₄ (ox := excO C t4) (od := none) ⟨hx4, rfl, rfl, trivial⟩ T.sa ?_
  refine exc_osa X₄ hx4 hcl (show refsVE (.ref C :: bm) = true from hbm) rfl T.noN (fun h₅ tk₅ dx k₅ dn dne hx₅ hn₅ => ?_)
  show wpAt _ _ _ (execs [] _) _ _ _
  refine wpAt_of_wpAny (wpAny_execs_nil (hq h₅ tk₅ dx t4 ⟨fun b o hb e => k₅ b o hb (k04 b o hb e), hx₅, ?_, dne, hn₅⟩))
  have z : s.heap.objs.size < h4.objs.size := hns4.lt
  exact Nat.le_of_lt (Nat.lt_of_lt_of_le z dn)
theorem fld_made (T : FldTxt prog K mg cname fld a tl C fI) {v : Value} {mb : Str → Option Value} (X : K.In s.heap) (hlim : s.heap.NoLimit) (hg : s.heap.Ns mainGlobals mg) (hb : s.heap.Ns builtinsNs mb) (hbs : mb "super" = some (.type "super"))
    (hroom : A.depth + 1 < recursionLimit) (hv : FV v)
    (hq : ∀ h' tk e d, FMade s.heap h' fld e C d v → R (.ok (.ret (.ref e))) { s with heap := h', toks := tk }) :
    codeAny (model prog w) A (.call (.ref C) ⟨[v], []⟩) R s := by
  obtain ⟨nm, q, N, bs, bm, sn, sub, ab, col, dd, k0, k1, k2, k3, k5, hC, hbm, hal⟩ := T.cls
  obtain ⟨hp, g, dr, tk, os⟩ := s
  have k : ∀ b o, hp.get? b = some o → ((hp.push (kdv_tup [v])).push (excO C hp.objs.size)).get? b = some o := fun b o e => Heap.get?_push_of_some _ (Heap.get?_push_of_some _ e)
  have hget : ((hp.push (kdv_tup [v])).push (excO C hp.objs.size)).get? (hp.objs.size + 1) = some (excO C hp.objs.size) := by heap_get
  have hnx : K.lookup (hp.objs.size + 1) = none := by
    cases e : K.lookup (hp.objs.size + 1) with
    | none => rfl
    | some o =>
      have z : hp.get? (hp.objs.size + 1) = some o := X _ _ e
      exact absurd (Nat.lt_of_succ_lt (Heap.lt_size z)) (Nat.lt_irrefl _)
  refine call_own F.excBase_ValueError (fun X => refsVE_contains X bm hbm) (X _ _ hC) (looks_findIn X T.iC) (fun self => bind_fn X self T.tC) (one_size v) ?_
  refine fld_init (s := ⟨(hp.push (kdv_tup [v])).push (excO C hp.objs.size), g, dr, tk, os⟩) T (X.keeps k) (hlim.keeps k) (hg.keeps k) (hb.keeps k) hbs hget hnx ?_ hv fun h' tk' dx t1 ⟨k', hx, dn, dne, hns⟩ => ?_
  · show A.depth + 1 < recursionLimit
    exact hroom
  · have old : ∀ b o, hp.get? b = some o → h'.get? b = some o := fun b o e => k' b o (Nat.ne_of_lt (Nat.lt_succ_of_lt (Heap.lt_size e))) (k b o e)
    have z : hp.objs.size + 1 + 1 ≤ dx := by
      first
        | (simpa only [Heap.size_push] using dn)
        | exact dn
        | (have q := dn; rw [Heap.size_push, Heap.size_push] at q; exact q)
    exact ⟨rfl, hq h' tk' (hp.objs.size + 1) dx ⟨old, Nat.le_succ _, ⟨_, hx⟩, Nat.le_trans (Nat.le_trans (Nat.le_succ _) (Nat.le_succ _)) z, dne, hns⟩⟩
end
end
end FX
end PySem
namespace L2
open PySem PySem.Spec PyProof.Rows
/-- an exception of the class at C with its own dict at d, not raised, at a -/
def ExF (C d a : Addr) : HO := .ext fun h => ∃ t1 : Addr, h.get? a = some ({ cls := .ref C, dict := some d, data := .fields #[.ref t1, .none, .none, .none, .bool false, .none] } : Obj)
theorem exF_ok {P : Program} {w : World} {H : Hp} {h : Heap} {a C d t1 : Addr} (e : h.get? a = some ({ cls := .ref C, dict := some d, data := .fields #[.ref t1, .none, .none, .none, .bool false, .none] } : Obj)) : ObjOk P w H h a (ExF C d a) :=
  ⟨⟨t1, e⟩, ⟨_, e⟩, fun _ _ ⟨t, q⟩ k => ⟨t, k _ q⟩⟩
/-- what such a class is called with -/
def FldV (v : V) : Prop := v = .non ∨ ∃ i : Int, v = .int i ∧ i.natAbs.log2 < 1920
theorem FldV.of {v : V} {u : Value} (h : FldV v) (r : RelV v u) : PySem.FX.FV u := by
  rcases h with rfl | ⟨i, rfl, hi⟩
  · cases (show u = Value.none from r)
    exact .non
  · obtain ⟨t, rfl⟩ := (show ∃ t, u = Value.int i t from r)
    exact .int i t hi
theorem relO_one {v : V} {v' : Value} (fld : Str) (r : RelV v v') (f : Str) : RelO (List.lookup f [(fld, v)]) (if f = fld then some v' else none) := by
  by_cases hw : f = fld
  · subst hw
    rw [if_pos rfl]
    have q : List.lookup f [(f, v)] = some v := by simp [List.lookup]
    rw [q]
    exact r
  · rw [if_neg hw]
    have qw : (f == fld) = false := by simpa using hw
    have q2 : List.lookup f [(fld, v)] = none := by simp [List.lookup, qw]
    rw [q2]
    trivial
section
variable {X : Cx}
/-- C(e), C an own exception class with one field: the new exception, its dict -/
def tMkF (C : Addr) (fld : Str) (te : TE) : TE := fun σ H Q => te σ H fun v H1 => FldV v ∧ ∀ a d, H1 a = none → H1 d = none → d ≠ a → Q (.ref a) (upd (upd H1 d (.xd [(fld, v)])) a (ExF C d a))
theorem pe_mkF {cname fld fa : Str} {tl : List Expr} {C fI : Addr} {e : Expr} {te : TE} {p pos : Pos} {k : Nat} (T : PySem.FX.FldTxt X.prog X.K X.mg cname fld fa tl C fI) (hr : Room k X.A) (hg : Gl X cname)
    (he : PE X e te) (hs : starEach [e] X.env = (false, eval e X.env) :: starEach [] X.env := by rfl) (hdb : (cname == ("__debug__" : Str)) = false := by decide) :
    PE X (.Call (.Name cname p) [e] [] pos) (tMkF C fld te) := by
  refine ⟨fun pins s σ H Q I h => ?_⟩
  refine wpAny_Call_Name_kw (ld_glob I hg T.gC ?_ hdb)
  refine PySem.W.callWith_K (h₀ := X.base) I.ok.mod.kin T.kC ?_ hs (by rfl)
  rw [hs]
  show wpAny _ _ (spliced ((false, eval e X.env) :: backTo pos (starEach [] X.env))) _ _ s
  refine Calls.spliced_cons (thn (he.run pins s σ H _ I h) fun u s1 ⟨v, H1, I1, r1, hfv, q1⟩ => ?_)
  refine Calls.spliced_nil ⟨I1.kIn, ?_⟩
  show wpAny _ _ (call (.ref C) [u]) _ _ _
  obtain ⟨mb, b1, b2⟩ := I1.mod.blt
  have hlim := I1.nolimit
  have hgl := I1.mod.glob.keeps I1.bk
  have hbl := b1.keeps I1.bk
  have hbs : mb "super" = some (.type "super") := (b2 _ (by decide)).trans (by first | exact PyProof.Rows.Boot.super | rfl | decide +kernel)
  obtain ⟨hp, g, dr, tk, os⟩ := s1
  refine wpAny_call (PySem.FX.fld_made T I1.kIn hlim hgl hbl hbs (by have := hr.dp; omega) (hfv.of r1) fun h' tk' a d M => ?_)
  obtain ⟨t1, hoe⟩ := M.obj
  have hns := M.ns
  obtain ⟨G', g1, g2⟩ := restrict h' fun b => decide (b ≠ a)
  have gk : ∀ b, b ≠ a → G'.get? b = h'.get? b := fun b hb => g1 b (decide_eq_true hb)
  have ge : G'.get? a = none := g2 a (by simp)
  have old : ∀ b o, hp.get? b = some o → G'.get? b = some o := fun b o q => (gk b (Nat.ne_of_lt (Nat.lt_of_lt_of_le (Heap.lt_size q) M.new))).trans (M.keep b o q)
  have ob : ObjOk X.prog X.w (upd H1 d (.xd [(fld, v)])) G' d (.xd [(fld, v)]) := ⟨_, hns.at (fun o q => (gk d M.dne).trans q), fun f => relO_one fld r1 f⟩
  have J : Inv X pins σ (upd H1 d (.xd [(fld, v)])) ⟨G', g, dr, tk', os⟩ := I1.laid (t' := tk') old M.dbig ob
  have na : H1 a = none := I1.hok.fresh M.new
  have nd : H1 d = none := I1.hok.fresh M.dbig
  have na2 : (upd H1 d (.xd [(fld, v)])) a = none := by rw [upd_ne (Ne.symm M.dne)]; exact na
  have sub : ∀ b o, G'.get? b = some o → h'.get? b = some o := fun b o q => by
    by_cases hb : b = a
    · rw [hb, ge] at q; cases q
    · exact (gk b hb).symm.trans q
  have J2 := J.laidN (t' := tk') (a := a) (o := ExF C d a) (h' := h') sub ge na2 (exF_ok hoe)
  exact ⟨.ref a, _, J2, rfl, q1 a d na nd M.dne⟩
end
end L2
namespace L2
open PySem PySem.Spec PyProof.Rows
/-- at a: an exception object of the class at D, without an own dict or with one -/
def IsX (H : Hp) (a D : Addr) : Prop := H a = some (ExO (.ref D) a) ∨ ∃ d fs, H a = some (ExF D d a) ∧ H d = some (.xd fs)
theorem isX_inst {X : Cx} {pins : List (Addr × Obj)} {σ : St} {H : Hp} {s : Shared} {a D : Addr} (I : Inv X pins σ H s) (h : IsX H a D) : ∃ oe od, PySem.W.InstAt s.heap a oe D od := by
  rcases h with h | ⟨d, fs, h, hd⟩
  · obtain ⟨⟨oe, vs, ho, hz, hv, _⟩, _, _⟩ := I.hok a _ h
    refine ⟨oe, none, ?_⟩
    obtain ⟨oc, od, oda, osl⟩ := oe
    obtain ⟨h1, h2⟩ := hz
    dsimp only at h1 h2 hv
    subst h1 h2 hv
    exact ⟨ho, rfl, rfl, trivial⟩
  · obtain ⟨⟨t1, ho⟩, _, _⟩ := I.hok a _ h
    obtain ⟨mA, ⟨od, es, ep, hod, _⟩, _⟩ := (show ObjOk X.prog X.w H s.heap d (.xd fs) from I.hok d _ hd)
    exact ⟨_, some od, ho, rfl, rfl, hod⟩
/-- isinstance(e, c), e a tracked exception object -/
def rIsX (K : PySem.W.Frag) : List V → Hp → VK → Prop := fun xs H Q => ∃ (a D : Addr) (c : V) (cv : Value) (b : Bool), xs = [.ref a, c] ∧ IsX H a D ∧ ExcC K D ∧ (∀ u, RelV c u → u = cv) ∧ PySem.W.kitOne K (.ref D) cv = some b ∧ Q (.bl b) H
theorem call_isX {X : Cx} : CallR X (.builtin "isinstance") (rIsX X.K) := by
  intro pins s σ H xs us Q I r h
  obtain ⟨a, D, c, cv, b, rfl, hx, C, hcv, e, q⟩ := h
  cases r with
  | cons rx rr =>
    cases rr with
    | cons rt rr =>
      cases rr
      cases rx
      have ec := hcv _ rt
      subst ec
      obtain ⟨oe, od, J⟩ := isX_inst I hx
      have hcl : (PySem.W.clsIn X.K D).isSome = true := by
        obtain ⟨cd, hc, _⟩ := PySem.W.any_some C.hd
        rw [hc] <;> rfl
      exact PySem.W.kia_one (PySem.W.kitx_exc hcl C.hg C.hk C.hs C.ha C.hn C.ht C.hm) I.kIn J e (fun z => nomatch z) fun tk => ⟨.bl b, H, I.kept (t' := tk) fun _ _ z => z, rfl, q⟩
/-- e.fld, e a tracked exception with its own dict -/
def tFldX (K : PySem.W.Frag) (fld : Str) (te : TE) : TE := fun σ H Q => te σ H fun x H1 => ∃ (a d C : Addr) (fs : List (Str × V)) (v : V), x = .ref a ∧ H1 a = some (ExF C d a) ∧ H1 d = some (.xd fs) ∧ fs.lookup fld = some v ∧ ExcC K C ∧ PySem.W.findIn K (.ref C) fld = some none ∧ Q v H1
theorem pe_fldX {X : Cx} {e : Expr} {te : TE} {fld : Str} {pos : Pos} (he : PE X e te) (hb : attributeBase e fld X.env (eval e X.env) = eval e X.env := by rfl) : PE X (.Attribute e fld pos) (tFldX X.K fld te) := by
  refine ⟨fun pins s σ H Q I h => ?_⟩
  refine attr_of hb (thn (he.run pins s σ H _ I h) fun u s1 hh => ?_)
  obtain ⟨x, H1, I1, rx, a, d, C, fs, v, ex, ha, hd, hl, T, hno, q⟩ := hh
  subst ex
  obtain rfl : u = Value.ref a := rx
  obtain ⟨⟨t1, ho⟩, _, _⟩ := I1.hok a _ ha
  obtain ⟨mA, hns, hr⟩ := (show ObjOk X.prog X.w H1 s1.heap d (.xd fs) from I1.hok d _ hd)
  obtain ⟨od, hod, hlk⟩ := lookIn_ns hns
  obtain ⟨w', hw, rw'⟩ := RelO.some_of (v := v) (o := mA fld) (by rw [← hl]; exact hr fld)
  have J : PySem.W.InstAt s1.heap a _ C (some od) := ⟨ho, rfl, rfl, hod⟩
  exact HandSPX.exc_get I1.kIn J T.hg T.hk T.hs (PySem.W.findObj_own T.hd hno rfl (by rw [hlk, hw])) (handed_of rw') ⟨v, H1, I1.tok _, rw', q⟩
end L2
set_option Elab.async false
set_option linter.all false
set_option maxRecDepth 100000
set_option maxHeartbeats 4000000
namespace K42
open PySem PySem.Spec PyProof.Rows L2
def topS (i : Nat) : Stmt := PySem.Challenge.pw_fillbands_k42_errors_made.main.body.getD i (.Pass ⟨0, 0, 0, 0⟩)
abbrev sBag : Stmt := topS 20
abbrev sPick : Stmt := topS 21
abbrev sMade : Stmt := topS 22
abbrev sCls : Stmt := topS 23
abbrev sLaw : Stmt := topS 24
theorem scB : FnScope ["_law_cell"] ["_law_cell"] (defScope sBag) := ⟨rfl, rfl, rfl, by decide +kernel, rfl, by decide +kernel, by decide +kernel⟩
theorem scP : FnScope ["_law_bag_here", "_law_many", "_law_told", "_law_seed", "_law_turn", "_law_first", "_law_second", "_law_drawn"] ["_law_bag_here", "_law_many"] (defScope sPick) := ⟨rfl, rfl, rfl, by decide +kernel, rfl, by decide +kernel, by decide +kernel⟩
theorem scM : FnScope ["_law_number", "_law_found"] ["_law_number"] (defScope sMade) := ⟨rfl, rfl, rfl, by decide +kernel, rfl, by decide +kernel, by decide +kernel⟩
theorem scC : FnScope ["_law_one", "_law_found"] ["_law_one"] (defScope sCls) := ⟨rfl, rfl, rfl, by decide +kernel, rfl, by decide +kernel, by decide +kernel⟩
theorem scL : FnScope ["_law_script", "_law_bag_here", "_law_turn", "_law_number", "_law_made_here", "_law_k", "_law_one", "_law_base", "_law_some", "_law_j"] ["_law_script"] (defScope sLaw) := ⟨rfl, rfl, rfl, by decide +kernel, rfl, by decide +kernel, by decide +kernel⟩
section
variable {P : Program} {w : World} {K : PySem.W.Frag} {mg : Str → Option Value} {base : Heap}
/-! ### _law_bag -/
def pos0 (c : Int) : Int := if 0 > c then 0 else c
def pos1 (c : Int) : Int := if c > 0 then c else 0
def spBag : Sp := fun vs H Q _ => ∃ c : Int, vs = [.int c] ∧ ∀ p, H p = none → Q (.ref p) (upd H p (.lst [.int (pos1 (c - 10 ^ 18)), .int c, .int 0]))
theorem ok_bag {f : Addr} {fd : FuncData} (F : Fun K "_law_bag" "_law_bag" sBag f fd) (mm : mg "max" = none) : FnOk P w K mg base CX0 1 f fd ["_law_cell"] spBag := by
  refine F.ok scB (fun vs H Q E h => ?_) (fun cdv A outer s H vs Q E hr h => ?_)
  · obtain ⟨c, rfl, _⟩ := h
    rfl
  · obtain ⟨c, rfl, q⟩ := h
    refine ⟨_, pss_one (ps_ret (pe_lst (pa_cons (pe_callB (call_max2 rfl) (by rfl) mm PyProof.Rows.boot_max (pa_cons pe_int (pa_cons (pe_op op_sub (pv 0) (pe_op op_pow pe_int pe_int)) pa_nil))) (pa_cons (pv 0) (pa_cons pe_int pa_nil))))), ?_⟩
    refine ⟨_, rfl, 10, 18, rfl, rfl, ⟨by decide, by decide, by decide⟩, c, 10 ^ 18, rfl, rfl, 0, c - 10 ^ 18, rfl, _, rfl, by show 3 ≤ sizeLine; decide, fun p hp => ?_⟩
    exact q p hp
/-! ### _law_pick -/
def spPick : Sp := fun vs H Q _ => ∃ (a : Addr) (d c t many : Int), vs = [.ref a, .int many] ∧ H a = some (.lst [.int d, .int c, .int t]) ∧ 0 ≤ t ∧ t ≤ 1000 ∧ (many = 9 ∨ many = 10 ^ 60) ∧
  ∀ n d' : Int, 0 ≤ n → n < many → Q (.int n) (upd H a (.lst [.int d', .int c, .int (t + 1)]))
theorem ok_pick {f : Addr} {fd : FuncData} (F : Fun K "_law_pick" "_law_pick" sPick f fd) (mi : mg "int" = none) : FnOk P w K mg base CX0 1 f fd ["_law_bag_here", "_law_many"] spPick := by
  refine F.ok scP (fun vs H Q E h => ?_) (fun cdv A outer s H vs Q E hr h => ?_)
  · obtain ⟨a, d, c, t, many, rfl, _⟩ := h
    rfl
  · obtain ⟨a, d, c, t, many, rfl, ea, ht0, ht1, hm, q⟩ := h
    have mposs : 0 < many := by rcases hm with rfl | rfl <;> decide
    have mdiv : CDivW d many := ⟨mposs, by rcases hm with rfl | rfl <;> decide⟩
    refine ⟨_, pss_cons (ps_asg (pe_op op_add (pe_ix ix_list (pv 0) pe_int (fun _ _ => rfl)) pe_int) (pg_sub (pv 0) pe_int set_list))
      (pss_cons (ps_if (pt_cmpR op_gt (pe_ix ix_list (pv 0) pe_int (fun _ _ => rfl)) pe_int (nomark _))
        (pss_cons (ps_set (i := 2) scP.nd rfl (.inl rfl) (pe_op op_mod (pe_callTy call_int1 (by rfl) mi PyProof.Rows.boot_int (pa_cons (pe_ix ix_list (pv 0) pe_int (fun _ _ => rfl)) pa_nil)) (pv 1)))
        (pss_cons (ps_asg (pe_op op_fdivW (pe_callTy call_int1 (by rfl) mi PyProof.Rows.boot_int (pa_cons (pe_ix ix_list (pv 0) pe_int (fun _ _ => rfl)) pa_nil)) (pv 1)) (pg_sub (pv 0) pe_int set_list))
        (pss_one (ps_ret (pv 2))))) pss_nil)
      (pss_cons (ps_par (i := 3) (j := 4) rfl scP.nd rfl rfl (by decide) rfl rfl (pa_cons (pe_callTy call_int1 (by rfl) mi PyProof.Rows.boot_int (pa_cons (pe_ix ix_list (pv 0) pe_int (fun _ _ => rfl)) pa_nil)) (pa_cons (pe_callTy call_int1 (by rfl) mi PyProof.Rows.boot_int (pa_cons (pe_ix ix_list (pv 0) pe_int (fun _ _ => rfl)) pa_nil)) pa_nil)) (by rfl))
      (pss_cons (ps_set (i := 5) scP.nd rfl (.inl rfl) (pe_op op_mod (pe_callTy call_int1 (by rfl) mi PyProof.Rows.boot_int (pa_cons (pe_op op_add (pe_op op_add (pe_op op_mul (pe_op op_mod (pv 3) pe_int) pe_int) (pe_op op_mul (pv 4) pe_int)) pe_int) pa_nil)) pe_int))
      (pss_cons (ps_set (i := 6) scP.nd rfl (.inl rfl) (pe_op op_mod (pe_callTy call_int1 (by rfl) mi PyProof.Rows.boot_int (pa_cons (pe_op op_add (pe_op op_mul (pv 5) (pv 5)) (pe_op op_mul (pv 4) pe_int)) pa_nil)) pe_int))
      (pss_cons (ps_set (i := 7) scP.nd rfl (.inl rfl) (pe_op op_fdiv (pe_callTy call_int1 (by rfl) mi PyProof.Rows.boot_int (pa_cons (pe_op op_add (pe_op op_mul (pv 5) pe_int) (pv 6)) pa_nil)) pe_int))
      (pss_cons (ps_if (pt_cmpR op_gt (pv 1) (pe_op op_pow pe_int pe_int) (nomark _))
        (pss_one (ps_set (i := 7) scP.nd rfl (.inl rfl) (pe_op op_add (pe_op op_pow (pv 7) pe_int) (pv 6)))) pss_nil)
      (pss_one (ps_ret (pe_op op_mod (pe_callTy call_int1 (by rfl) mi PyProof.Rows.boot_int (pa_cons (pv 7) pa_nil)) (pv 1)))))))))), ?_⟩
    -- bag[2] = bag[2] + 1
    refine ⟨_, rfl, a, _, 2, _, rfl, rfl, SqL.of ea, rfl, t, 1, rfl, rfl, _, rfl, a, _, 2, 2, rfl, rfl, ea, rfl, ?_⟩
    -- if bag[0] > 0
    refine ⟨_, rfl, a, _, 0, _, rfl, rfl, SqL.of upd_same, rfl, d, 0, rfl, rfl, _, rfl, ?_⟩
    refine ite2 (fun _ => ?_) (fun _ => ?_)
    · refine ⟨_, rfl, a, _, 0, _, rfl, rfl, SqL.of upd_same, rfl, .inl ⟨d, rfl, ?_⟩⟩
      refine ⟨_, rfl, d, many, rfl, rfl, mposs, ?_⟩
      refine ⟨_, rfl, a, _, 0, _, rfl, rfl, SqL.of upd_same, rfl, .inl ⟨d, rfl, ?_⟩⟩
      refine ⟨_, rfl, d, many, rfl, rfl, mdiv, _, rfl, a, _, 0, 0, rfl, rfl, upd_same, rfl, ?_⟩
      refine ⟨_, rfl, ?_⟩
      have z := q (d % many) (d / many) (Int.emod_nonneg _ (by omega)) (Int.emod_lt_of_pos _ mposs)
      rw [upd_upd]
      exact z
    · -- seed, turn
      refine ⟨_, rfl, a, _, 1, _, rfl, rfl, SqL.of upd_same, rfl, .inl ⟨c, rfl, ?_⟩⟩
      refine ⟨_, rfl, a, _, 2, _, rfl, rfl, SqL.of upd_same, rfl, .inl ⟨t + 1, rfl, ?_⟩⟩
      refine ⟨_, _, rfl, ?_⟩
      -- first
      have e1 : 0 ≤ c % 2147483629 := Int.emod_nonneg _ (by decide)
      have e2 : c % 2147483629 < 2147483629 := Int.emod_lt_of_pos _ (by decide)
      refine ⟨_, rfl, c, 2147483629, rfl, rfl, (show (0 : Int) < 2147483629 by decide), _, _, rfl, rfl, .inr ⟨by decide, by decide⟩, _, rfl, t + 1, 69621, rfl, rfl, .inr ⟨by decide, by decide⟩, _, _, rfl, rfl, _, _, rfl, rfl, .inl ⟨_, rfl, ?_⟩⟩
      (try dsimp only)
      generalize hx : c % 2147483629 * 48271 + (t + 1) * 69621 + 12345 = x
      refine ⟨x, 2147483647, rfl, rfl, (show (0 : Int) < 2147483647 by decide), ?_⟩
      (try dsimp only)
      have f1 : 0 ≤ x % 2147483647 := Int.emod_nonneg _ (by decide)
      have f2 : x % 2147483647 < 2147483647 := Int.emod_lt_of_pos _ (by decide)
      generalize x % 2147483647 = y at f1 f2
      -- second
      refine ⟨_, rfl, _, rfl, y, y, rfl, rfl, .inl ⟨by omega, by omega⟩, _, rfl, t + 1, 40692, rfl, rfl, .inr ⟨by decide, by decide⟩, _, _, rfl, rfl, .inl ⟨_, rfl, ?_⟩⟩
      (try dsimp only)
      generalize y * y + (t + 1) * 40692 = u
      refine ⟨u, 2147483587, rfl, rfl, (show (0 : Int) < 2147483587 by decide), ?_⟩
      (try dsimp only)
      have g1 : 0 ≤ u % 2147483587 := Int.emod_nonneg _ (by decide)
      have g2 : u % 2147483587 < 2147483587 := Int.emod_lt_of_pos _ (by decide)
      generalize u % 2147483587 = v at g1 g2
      -- drawn
      refine ⟨_, rfl, y, 2147483587, rfl, rfl, .inr ⟨by decide, by decide⟩, _, rfl, _, _, rfl, rfl, .inl ⟨_, rfl, ?_⟩⟩
      have h1 : 0 ≤ y * 2147483587 + v := by omega
      have h2 : y * 2147483587 + v < 2 ^ 63 := by omega
      (try dsimp only)
      generalize y * 2147483587 + v = m at h1 h2
      refine ⟨m, 32, rfl, rfl, ⟨by decide, by decide⟩, ?_⟩
      (try dsimp only)
      have k1 : 0 ≤ m / 32 := by omega
      have k2 : m / 32 < 2 ^ 63 := by omega
      generalize m / 32 = r at k1 k2
      refine ⟨_, rfl, 10, 15, rfl, rfl, ⟨by decide, by decide, by decide⟩, many, _, rfl, rfl, _, rfl, ?_⟩
      have fin : ∀ z : Int, Q (.int (z % many)) (upd H a (.lst [.int d, .int c, .int (t + 1)])) := fun z => q (z % many) d (Int.emod_nonneg _ (by omega)) (Int.emod_lt_of_pos _ mposs)
      refine ite2 (fun _ => ?_) (fun _ => ?_)
      · refine ⟨_, rfl, r, 8, rfl, rfl, ⟨by decide, by decide, by omega⟩, _, rfl, _, _, rfl, rfl, ?_⟩
        exact ⟨_, rfl, .inl ⟨_, rfl, _, rfl, _, many, rfl, rfl, mposs, fin _⟩⟩
      · exact ⟨_, rfl, .inl ⟨_, rfl, _, rfl, _, many, rfl, rfl, mposs, fin _⟩⟩
end
/-! ### the classes -/
abbrev bmV : List Value := [.type "ValueError", .type "Exception", .type "BaseException", .type "object"]
theorem same1 {H : Hp} {a : Addr} {o : HO} (n : H a = none) : Same H (upd H a o) := fun b x e => by rw [upd_ne (ne_of_none e n)]; exact e
theorem same2 {H : Hp} {a d : Addr} {o1 o2 : HO} (na : H a = none) (nd : H d = none) : Same H (upd (upd H d o1) a o2) := fun b x e => by rw [upd_ne (ne_of_none e na), upd_ne (ne_of_none e nd)]; exact e
theorem isX_mono {H H' : Hp} {a D : Addr} (s : Same H H') (h : IsX H a D) : IsX H' a D := by
  rcases h with h | ⟨d, fs, h, g⟩
  · exact .inl (s _ _ h)
  · exact .inr ⟨d, fs, s _ _ h, s _ _ g⟩
/-- at a: an exception with the field -/
def FAt (H : Hp) (a C : Addr) (fld : Str) (v : V) : Prop := ∃ d, H a = some (ExF C d a) ∧ H d = some (.xd [(fld, v)])
theorem FAt.mono {H H' : Hp} {a C : Addr} {fld : Str} {v : V} (s : Same H H') (h : FAt H a C fld v) : FAt H' a C fld v := by
  obtain ⟨d, h, g⟩ := h
  exact ⟨d, s _ _ h, s _ _ g⟩
theorem FAt.isX {H : Hp} {a C : Addr} {fld : Str} {v : V} (h : FAt H a C fld v) : IsX H a C := by
  obtain ⟨d, h, g⟩ := h
  exact .inr ⟨d, _, h, g⟩
theorem fat_new {H : Hp} {a d C : Addr} {fld : Str} {v : V} (ne : d ≠ a) : FAt (upd (upd H d (.xd [(fld, v)])) a (ExF C d a)) a C fld v := ⟨d, upd_same, by rw [upd_ne ne, upd_same]⟩
structure Txt (P : Program) (K : PySem.W.Frag) (mg : Str → Option Value) (B : Addr) (C I : Nat → Addr) : Prop where
  f0 : PySem.FX.FldTxt P K mg "InvalidZones" "item" "no valid zones, wrong item: " [] (C 0) (I 0)
  f1 : PySem.FX.FldTxt P K mg "InvalidPlaces" "item" "no valid places, wrong item: " [] (C 1) (I 1)
  f2 : PySem.FX.FldTxt P K mg "InvalidText" "part" "no text of a system, wrong part: " [] (C 2) (I 2)
  f3 : PySem.FX.FldTxt P K mg "TooLarge" "limit" "more than " [.Constant (.str " items") 0 ⟨22, 44, 22, 50⟩] (C 3) (I 3)
  f4 : PySem.FX.FldTxt P K mg "OverRoom" "count" "a room of " [.Constant (.str " is over the budget") 0 ⟨27, 44, 27, 63⟩] (C 4) (I 4)
  x5 : PySem.W.excIn K (C 5) bmV "ValueError.__new__" = true
  g5 : mg "InvalidBorders" = some (.ref (C 5))
  k5 : PySem.W.keepIn K (.ref (C 5)) = true
  x6 : PySem.W.excIn K (C 6) bmV "ValueError.__new__" = true
  g6 : mg "InvalidSystem" = some (.ref (C 6))
  k6 : PySem.W.keepIn K (.ref (C 6)) = true
  x7 : PySem.W.excIn K (C 7) bmV "ValueError.__new__" = true
  g7 : mg "InvalidUnknown" = some (.ref (C 7))
  k7 : PySem.W.keepIn K (.ref (C 7)) = true
  x8 : PySem.W.excIn K (C 8) bmV "ValueError.__new__" = true
  g8 : mg "InvalidSpan" = some (.ref (C 8))
  k8 : PySem.W.keepIn K (.ref (C 8)) = true
  x9 : PySem.W.excIn K (C 9) bmV "ValueError.__new__" = true
  g9 : mg "InvalidNumber" = some (.ref (C 9))
  k9 : PySem.W.keepIn K (.ref (C 9)) = true
  x10 : PySem.W.excIn K (C 10) bmV "ValueError.__new__" = true
  g10 : mg "InvalidBudget" = some (.ref (C 10))
  k10 : PySem.W.keepIn K (.ref (C 10)) = true
  x11 : PySem.W.excIn K (C 11) bmV "ValueError.__new__" = true
  g11 : mg "UnlikeSystems" = some (.ref (C 11))
  k11 : PySem.W.keepIn K (.ref (C 11)) = true
  x12 : PySem.W.excIn K (C 12) bmV "ValueError.__new__" = true
  g12 : mg "Bordered" = some (.ref (C 12))
  k12 : PySem.W.keepIn K (.ref (C 12)) = true
  x13 : PySem.W.excIn K (C 13) bmV "ValueError.__new__" = true
  g13 : mg "NotCoupled" = some (.ref (C 13))
  k13 : PySem.W.keepIn K (.ref (C 13)) = true
  x14 : PySem.W.excIn K (C 14) bmV "ValueError.__new__" = true
  g14 : mg "InvalidOperation" = some (.ref (C 14))
  k14 : PySem.W.keepIn K (.ref (C 14)) = true
  x15 : PySem.W.excIn K (C 15) bmV "ValueError.__new__" = true
  g15 : mg "Nothing" = some (.ref (C 15))
  k15 : PySem.W.keepIn K (.ref (C 15)) = true
  x16 : PySem.W.excIn K (C 16) bmV "ValueError.__new__" = true
  g16 : mg "InvalidCommand" = some (.ref (C 16))
  k16 : PySem.W.keepIn K (.ref (C 16)) = true
  xB : PySem.W.excIn K B bmV "ValueError.__new__" = true
  gB : mg "FillError" = some (.ref B)
  kB : PySem.W.keepIn K (.ref B) = true
  e : ∀ i, i < 17 → ExcC K (C i)
  eB : ExcC K B
  nf : ∀ i, i < 17 → (∀ fld ∈ (["item", "part", "limit", "count"] : List Str), PySem.W.findIn K (.ref (C i)) fld = some none)
  kit : ∀ i j, i < 17 → j < 17 → PySem.W.kitOne K (.ref (C i)) (.ref (C j)) = some (decide (i = j))
  kitB : ∀ i, i < 17 → PySem.W.kitOne K (.ref (C i)) (.ref B) = some true
  kitV : ∀ i, i < 17 → PySem.W.kitOne K (.ref (C i)) (.type "ValueError") = some true
  kitBC : ∀ i, i < 17 → PySem.W.kitOne K (.ref B) (.ref (C i)) = some false
  kitBV : PySem.W.kitOne K (.ref B) (.type "ValueError") = some true
  is : mg "isinstance" = none
section
variable {P : Program} {w : World} {K : PySem.W.Frag} {mg : Str → Option Value} {base : Heap} {B : Addr} {C I : Nat → Addr}
theorem Txt.gg (T : Txt P K mg B C I) : True := trivial
/-! ### _law_made -/
def spMade (C : Nat → Addr) : Sp := fun vs H Q _ => ∃ n : Int, vs = [.int n] ∧ n.natAbs.log2 < 1920 ∧
  ∀ (H' : Hp) (p : Addr) (as : List Addr), Same H H' → H p = none → H' p = some (.lst (as.map V.ref)) → as.length = 17 → (∀ i a, as[i]? = some a → IsX H' a (C i)) →
    (∀ i a fld, as[i]? = some a → (["item", "item", "part", "limit", "count"] : List Str)[i]? = some fld → FAt H' a (C i) fld (.int n)) → Q (.ref p) H'
theorem ok_made {f : Addr} {fd : FuncData} (F : Fun K "_law_made" "_law_made" sMade f fd) (T : Txt P K mg B C I) : FnOk P w K mg base CX0 1 f fd ["_law_number"] (spMade C) := by
  refine F.ok scM (fun vs H Q E h => ?_) (fun cdv A outer s H vs Q E hr h => ?_)
  · obtain ⟨n, rfl, _⟩ := h
    rfl
  · obtain ⟨n, rfl, hn, q⟩ := h
    refine ⟨_, pss_cons (ps_set (i := 1) scM.nd rfl (.inl rfl) (pe_lst (pa_cons (pe_mkF T.f0 hr (by rfl) (pv 0)) (pa_cons (pe_mkF T.f1 hr (by rfl) (pv 0)) (pa_cons (pe_mkF T.f2 hr (by rfl) (pv 0)) (pa_cons (pe_mkF T.f3 hr (by rfl) (pv 0)) (pa_cons (pe_mkF T.f4 hr (by rfl) (pv 0)) (pa_nil))))))))
      (pss_cons (ps_set (i := 1) scM.nd rfl (.inl rfl) (pe_op op_cat (pv 1) (pe_lst (pa_cons (pe_exc1 PySem.F.excBase_ValueError T.x5 T.g5 T.k5 (by rfl) pe_str) (pa_cons (pe_exc1 PySem.F.excBase_ValueError T.x6 T.g6 T.k6 (by rfl) pe_str) (pa_cons (pe_exc1 PySem.F.excBase_ValueError T.x7 T.g7 T.k7 (by rfl) pe_str) (pa_cons (pe_exc1 PySem.F.excBase_ValueError T.x8 T.g8 T.k8 (by rfl) pe_str) (pa_cons (pe_exc1 PySem.F.excBase_ValueError T.x9 T.g9 T.k9 (by rfl) pe_str) (pa_nil)))))))))
      (pss_cons (ps_set (i := 1) scM.nd rfl (.inl rfl) (pe_op op_cat (pv 1) (pe_lst (pa_cons (pe_exc1 PySem.F.excBase_ValueError T.x10 T.g10 T.k10 (by rfl) pe_str) (pa_cons (pe_exc1 PySem.F.excBase_ValueError T.x11 T.g11 T.k11 (by rfl) pe_str) (pa_cons (pe_exc1 PySem.F.excBase_ValueError T.x12 T.g12 T.k12 (by rfl) pe_str) (pa_cons (pe_exc1 PySem.F.excBase_ValueError T.x13 T.g13 T.k13 (by rfl) pe_str) (pa_cons (pe_exc1 PySem.F.excBase_ValueError T.x14 T.g14 T.k14 (by rfl) pe_str) (pa_nil)))))))))
      (pss_one (ps_ret (pe_op op_cat (pv 1) (pe_lst (pa_cons (pe_exc1 PySem.F.excBase_ValueError T.x15 T.g15 T.k15 (by rfl) pe_str) (pa_cons (pe_exc1 PySem.F.excBase_ValueError T.x16 T.g16 T.k16 (by rfl) pe_str) (pa_nil))))))))), ?_⟩
    have S0 : Same H H := Same.refl H
    refine ⟨.int n, rfl, .inr ⟨n, rfl, hn⟩, fun a0 d0 na nd ne => ?_⟩
    have SS : Same H _ := same2 (o1 := .xd [("item", V.int n)]) (o2 := ExF (C 0) d0 a0) na nd
    have f0 : FAt _ a0 (C 0) "item" (V.int n) := fat_new (H := H) (v := V.int n) (fld := "item") (C := C 0) ne
    generalize upd (upd H d0 (.xd [("item", V.int n)])) a0 (ExF (C 0) d0 a0) = H1 at SS f0 ⊢
    replace S0 := S0.trans SS; clear SS na nd ne
    refine ⟨.int n, rfl, .inr ⟨n, rfl, hn⟩, fun a1 d1 na nd ne => ?_⟩
    have SS : Same H1 _ := same2 (o1 := .xd [("item", V.int n)]) (o2 := ExF (C 1) d1 a1) na nd
    have f1 : FAt _ a1 (C 1) "item" (V.int n) := fat_new (H := H1) (v := V.int n) (fld := "item") (C := C 1) ne
    generalize upd (upd H1 d1 (.xd [("item", V.int n)])) a1 (ExF (C 1) d1 a1) = H2 at SS f1 ⊢
    replace f0 := f0.mono SS
    replace S0 := S0.trans SS; clear SS na nd ne
    refine ⟨.int n, rfl, .inr ⟨n, rfl, hn⟩, fun a2 d2 na nd ne => ?_⟩
    have SS : Same H2 _ := same2 (o1 := .xd [("part", V.int n)]) (o2 := ExF (C 2) d2 a2) na nd
    have f2 : FAt _ a2 (C 2) "part" (V.int n) := fat_new (H := H2) (v := V.int n) (fld := "part") (C := C 2) ne
    generalize upd (upd H2 d2 (.xd [("part", V.int n)])) a2 (ExF (C 2) d2 a2) = H3 at SS f2 ⊢
    replace f0 := f0.mono SS
    replace f1 := f1.mono SS
    replace S0 := S0.trans SS; clear SS na nd ne
    refine ⟨.int n, rfl, .inr ⟨n, rfl, hn⟩, fun a3 d3 na nd ne => ?_⟩
    have SS : Same H3 _ := same2 (o1 := .xd [("limit", V.int n)]) (o2 := ExF (C 3) d3 a3) na nd
    have f3 : FAt _ a3 (C 3) "limit" (V.int n) := fat_new (H := H3) (v := V.int n) (fld := "limit") (C := C 3) ne
    generalize upd (upd H3 d3 (.xd [("limit", V.int n)])) a3 (ExF (C 3) d3 a3) = H4 at SS f3 ⊢
    replace f0 := f0.mono SS
    replace f1 := f1.mono SS
    replace f2 := f2.mono SS
    replace S0 := S0.trans SS; clear SS na nd ne
    refine ⟨.int n, rfl, .inr ⟨n, rfl, hn⟩, fun a4 d4 na nd ne => ?_⟩
    have SS : Same H4 _ := same2 (o1 := .xd [("count", V.int n)]) (o2 := ExF (C 4) d4 a4) na nd
    have f4 : FAt _ a4 (C 4) "count" (V.int n) := fat_new (H := H4) (v := V.int n) (fld := "count") (C := C 4) ne
    generalize upd (upd H4 d4 (.xd [("count", V.int n)])) a4 (ExF (C 4) d4 a4) = H5 at SS f4 ⊢
    replace f0 := f0.mono SS
    replace f1 := f1.mono SS
    replace f2 := f2.mono SS
    replace f3 := f3.mono SS
    replace S0 := S0.trans SS; clear SS na nd ne
    refine ⟨by show 5 ≤ sizeLine; decide, fun p1 np1 => ?_⟩
    have np0 : H p1 = none := S0.free np1
    have SS : Same H5 _ := same1 (o := .lst [V.ref a0, .ref a1, .ref a2, .ref a3, .ref a4]) np1
    have l1 : (upd H5 p1 (.lst [V.ref a0, .ref a1, .ref a2, .ref a3, .ref a4])) p1 = some (.lst [V.ref a0, .ref a1, .ref a2, .ref a3, .ref a4]) := upd_same
    have l0 := l1
    generalize upd H5 p1 (.lst [V.ref a0, .ref a1, .ref a2, .ref a3, .ref a4]) = H6 at SS l1 l0 ⊢
    replace f0 := f0.mono SS
    replace f1 := f1.mono SS
    replace f2 := f2.mono SS
    replace f3 := f3.mono SS
    replace f4 := f4.mono SS
    replace S0 := S0.trans SS
    clear SS
    refine ⟨_, rfl, ?_⟩
    refine fun a5 na => ?_
    have SS : Same H6 _ := same1 (o := ExO (.ref (C 5)) a5) na
    have x5 : IsX _ a5 (C 5) := .inl (upd_same (H := H6) (a := a5) (o := ExO (.ref (C 5)) a5))
    generalize upd H6 a5 (ExO (.ref (C 5)) a5) = H7 at SS x5 ⊢
    replace f0 := f0.mono SS
    replace f1 := f1.mono SS
    replace f2 := f2.mono SS
    replace f3 := f3.mono SS
    replace f4 := f4.mono SS
    replace S0 := S0.trans SS
    replace l1 := SS _ _ l1; clear SS na
    refine fun a6 na => ?_
    have SS : Same H7 _ := same1 (o := ExO (.ref (C 6)) a6) na
    have x6 : IsX _ a6 (C 6) := .inl (upd_same (H := H7) (a := a6) (o := ExO (.ref (C 6)) a6))
    generalize upd H7 a6 (ExO (.ref (C 6)) a6) = H8 at SS x6 ⊢
    replace f0 := f0.mono SS
    replace f1 := f1.mono SS
    replace f2 := f2.mono SS
    replace f3 := f3.mono SS
    replace f4 := f4.mono SS
    replace x5 := isX_mono SS x5
    replace S0 := S0.trans SS
    replace l1 := SS _ _ l1; clear SS na
    refine fun a7 na => ?_
    have SS : Same H8 _ := same1 (o := ExO (.ref (C 7)) a7) na
    have x7 : IsX _ a7 (C 7) := .inl (upd_same (H := H8) (a := a7) (o := ExO (.ref (C 7)) a7))
    generalize upd H8 a7 (ExO (.ref (C 7)) a7) = H9 at SS x7 ⊢
    replace f0 := f0.mono SS
    replace f1 := f1.mono SS
    replace f2 := f2.mono SS
    replace f3 := f3.mono SS
    replace f4 := f4.mono SS
    replace x5 := isX_mono SS x5
    replace x6 := isX_mono SS x6
    replace S0 := S0.trans SS
    replace l1 := SS _ _ l1; clear SS na
    refine fun a8 na => ?_
    have SS : Same H9 _ := same1 (o := ExO (.ref (C 8)) a8) na
    have x8 : IsX _ a8 (C 8) := .inl (upd_same (H := H9) (a := a8) (o := ExO (.ref (C 8)) a8))
    generalize upd H9 a8 (ExO (.ref (C 8)) a8) = H10 at SS x8 ⊢
    replace f0 := f0.mono SS
    replace f1 := f1.mono SS
    replace f2 := f2.mono SS
    replace f3 := f3.mono SS
    replace f4 := f4.mono SS
    replace x5 := isX_mono SS x5
    replace x6 := isX_mono SS x6
    replace x7 := isX_mono SS x7
    replace S0 := S0.trans SS
    replace l1 := SS _ _ l1; clear SS na
    refine fun a9 na => ?_
    have SS : Same H10 _ := same1 (o := ExO (.ref (C 9)) a9) na
    have x9 : IsX _ a9 (C 9) := .inl (upd_same (H := H10) (a := a9) (o := ExO (.ref (C 9)) a9))
    generalize upd H10 a9 (ExO (.ref (C 9)) a9) = H11 at SS x9 ⊢
    replace f0 := f0.mono SS
    replace f1 := f1.mono SS
    replace f2 := f2.mono SS
    replace f3 := f3.mono SS
    replace f4 := f4.mono SS
    replace x5 := isX_mono SS x5
    replace x6 := isX_mono SS x6
    replace x7 := isX_mono SS x7
    replace x8 := isX_mono SS x8
    replace S0 := S0.trans SS
    replace l1 := SS _ _ l1; clear SS na
    refine ⟨by show 5 ≤ sizeLine; decide, fun g2 ng => ?_⟩
    have SS : Same H11 _ := same1 (o := .lst [V.ref a5, .ref a6, .ref a7, .ref a8, .ref a9]) ng
    have m2 : (upd H11 g2 (.lst [V.ref a5, .ref a6, .ref a7, .ref a8, .ref a9])) g2 = some (.lst [V.ref a5, .ref a6, .ref a7, .ref a8, .ref a9]) := upd_same
    generalize upd H11 g2 (.lst [V.ref a5, .ref a6, .ref a7, .ref a8, .ref a9]) = H12 at SS m2 ⊢
    replace f0 := f0.mono SS
    replace f1 := f1.mono SS
    replace f2 := f2.mono SS
    replace f3 := f3.mono SS
    replace f4 := f4.mono SS
    replace x5 := isX_mono SS x5
    replace x6 := isX_mono SS x6
    replace x7 := isX_mono SS x7
    replace x8 := isX_mono SS x8
    replace x9 := isX_mono SS x9
    replace S0 := S0.trans SS
    replace l1 := SS _ _ l1; clear SS ng
    refine ⟨_, _, _, _, rfl, rfl, l1, m2, by show 10 ≤ sizeLine; decide, fun p2 np => ?_⟩
    have np02 : H p2 = none := S0.free np
    have SS : Same H12 _ := same1 (o := .lst [V.ref a0, .ref a1, .ref a2, .ref a3, .ref a4, .ref a5, .ref a6, .ref a7, .ref a8, .ref a9]) np
    have l2 : (upd H12 p2 (.lst [V.ref a0, .ref a1, .ref a2, .ref a3, .ref a4, .ref a5, .ref a6, .ref a7, .ref a8, .ref a9])) p2 = some (.lst [V.ref a0, .ref a1, .ref a2, .ref a3, .ref a4, .ref a5, .ref a6, .ref a7, .ref a8, .ref a9]) := upd_same
    show _
    skip
    (try dsimp only [List.cons_append, List.nil_append])
    generalize upd H12 p2 (.lst [V.ref a0, .ref a1, .ref a2, .ref a3, .ref a4, .ref a5, .ref a6, .ref a7, .ref a8, .ref a9]) = H13 at SS l2 ⊢
    replace f0 := f0.mono SS
    replace f1 := f1.mono SS
    replace f2 := f2.mono SS
    replace f3 := f3.mono SS
    replace f4 := f4.mono SS
    replace x5 := isX_mono SS x5
    replace x6 := isX_mono SS x6
    replace x7 := isX_mono SS x7
    replace x8 := isX_mono SS x8
    replace x9 := isX_mono SS x9
    replace S0 := S0.trans SS
    clear SS np
    refine ⟨_, rfl, ?_⟩
    refine fun a10 na => ?_
    have SS : Same H13 _ := same1 (o := ExO (.ref (C 10)) a10) na
    have x10 : IsX _ a10 (C 10) := .inl (upd_same (H := H13) (a := a10) (o := ExO (.ref (C 10)) a10))
    generalize upd H13 a10 (ExO (.ref (C 10)) a10) = H14 at SS x10 ⊢
    replace f0 := f0.mono SS
    replace f1 := f1.mono SS
    replace f2 := f2.mono SS
    replace f3 := f3.mono SS
    replace f4 := f4.mono SS
    replace x5 := isX_mono SS x5
    replace x6 := isX_mono SS x6
    replace x7 := isX_mono SS x7
    replace x8 := isX_mono SS x8
    replace x9 := isX_mono SS x9
    replace S0 := S0.trans SS
    replace l2 := SS _ _ l2; clear SS na
    refine fun a11 na => ?_
    have SS : Same H14 _ := same1 (o := ExO (.ref (C 11)) a11) na
    have x11 : IsX _ a11 (C 11) := .inl (upd_same (H := H14) (a := a11) (o := ExO (.ref (C 11)) a11))
    generalize upd H14 a11 (ExO (.ref (C 11)) a11) = H15 at SS x11 ⊢
    replace f0 := f0.mono SS
    replace f1 := f1.mono SS
    replace f2 := f2.mono SS
    replace f3 := f3.mono SS
    replace f4 := f4.mono SS
    replace x5 := isX_mono SS x5
    replace x6 := isX_mono SS x6
    replace x7 := isX_mono SS x7
    replace x8 := isX_mono SS x8
    replace x9 := isX_mono SS x9
    replace x10 := isX_mono SS x10
    replace S0 := S0.trans SS
    replace l2 := SS _ _ l2; clear SS na
    refine fun a12 na => ?_
    have SS : Same H15 _ := same1 (o := ExO (.ref (C 12)) a12) na
    have x12 : IsX _ a12 (C 12) := .inl (upd_same (H := H15) (a := a12) (o := ExO (.ref (C 12)) a12))
    generalize upd H15 a12 (ExO (.ref (C 12)) a12) = H16 at SS x12 ⊢
    replace f0 := f0.mono SS
    replace f1 := f1.mono SS
    replace f2 := f2.mono SS
    replace f3 := f3.mono SS
    replace f4 := f4.mono SS
    replace x5 := isX_mono SS x5
    replace x6 := isX_mono SS x6
    replace x7 := isX_mono SS x7
    replace x8 := isX_mono SS x8
    replace x9 := isX_mono SS x9
    replace x10 := isX_mono SS x10
    replace x11 := isX_mono SS x11
    replace S0 := S0.trans SS
    replace l2 := SS _ _ l2; clear SS na
    refine fun a13 na => ?_
    have SS : Same H16 _ := same1 (o := ExO (.ref (C 13)) a13) na
    have x13 : IsX _ a13 (C 13) := .inl (upd_same (H := H16) (a := a13) (o := ExO (.ref (C 13)) a13))
    generalize upd H16 a13 (ExO (.ref (C 13)) a13) = H17 at SS x13 ⊢
    replace f0 := f0.mono SS
    replace f1 := f1.mono SS
    replace f2 := f2.mono SS
    replace f3 := f3.mono SS
    replace f4 := f4.mono SS
    replace x5 := isX_mono SS x5
    replace x6 := isX_mono SS x6
    replace x7 := isX_mono SS x7
    replace x8 := isX_mono SS x8
    replace x9 := isX_mono SS x9
    replace x10 := isX_mono SS x10
    replace x11 := isX_mono SS x11
    replace x12 := isX_mono SS x12
    replace S0 := S0.trans SS
    replace l2 := SS _ _ l2; clear SS na
    refine fun a14 na => ?_
    have SS : Same H17 _ := same1 (o := ExO (.ref (C 14)) a14) na
    have x14 : IsX _ a14 (C 14) := .inl (upd_same (H := H17) (a := a14) (o := ExO (.ref (C 14)) a14))
    generalize upd H17 a14 (ExO (.ref (C 14)) a14) = H18 at SS x14 ⊢
    replace f0 := f0.mono SS
    replace f1 := f1.mono SS
    replace f2 := f2.mono SS
    replace f3 := f3.mono SS
    replace f4 := f4.mono SS
    replace x5 := isX_mono SS x5
    replace x6 := isX_mono SS x6
    replace x7 := isX_mono SS x7
    replace x8 := isX_mono SS x8
    replace x9 := isX_mono SS x9
    replace x10 := isX_mono SS x10
    replace x11 := isX_mono SS x11
    replace x12 := isX_mono SS x12
    replace x13 := isX_mono SS x13
    replace S0 := S0.trans SS
    replace l2 := SS _ _ l2; clear SS na
    refine ⟨by show 5 ≤ sizeLine; decide, fun g3 ng => ?_⟩
    have SS : Same H18 _ := same1 (o := .lst [V.ref a10, .ref a11, .ref a12, .ref a13, .ref a14]) ng
    have m3 : (upd H18 g3 (.lst [V.ref a10, .ref a11, .ref a12, .ref a13, .ref a14])) g3 = some (.lst [V.ref a10, .ref a11, .ref a12, .ref a13, .ref a14]) := upd_same
    generalize upd H18 g3 (.lst [V.ref a10, .ref a11, .ref a12, .ref a13, .ref a14]) = H19 at SS m3 ⊢
    replace f0 := f0.mono SS
    replace f1 := f1.mono SS
    replace f2 := f2.mono SS
    replace f3 := f3.mono SS
    replace f4 := f4.mono SS
    replace x5 := isX_mono SS x5
    replace x6 := isX_mono SS x6
    replace x7 := isX_mono SS x7
    replace x8 := isX_mono SS x8
    replace x9 := isX_mono SS x9
    replace x10 := isX_mono SS x10
    replace x11 := isX_mono SS x11
    replace x12 := isX_mono SS x12
    replace x13 := isX_mono SS x13
    replace x14 := isX_mono SS x14
    replace S0 := S0.trans SS
    replace l2 := SS _ _ l2; clear SS ng
    refine ⟨_, _, _, _, rfl, rfl, l2, m3, by show 15 ≤ sizeLine; decide, fun p3 np => ?_⟩
    have np03 : H p3 = none := S0.free np
    have SS : Same H19 _ := same1 (o := .lst [V.ref a0, .ref a1, .ref a2, .ref a3, .ref a4, .ref a5, .ref a6, .ref a7, .ref a8, .ref a9, .ref a10, .ref a11, .ref a12, .ref a13, .ref a14]) np
    have l3 : (upd H19 p3 (.lst [V.ref a0, .ref a1, .ref a2, .ref a3, .ref a4, .ref a5, .ref a6, .ref a7, .ref a8, .ref a9, .ref a10, .ref a11, .ref a12, .ref a13, .ref a14])) p3 = some (.lst [V.ref a0, .ref a1, .ref a2, .ref a3, .ref a4, .ref a5, .ref a6, .ref a7, .ref a8, .ref a9, .ref a10, .ref a11, .ref a12, .ref a13, .ref a14]) := upd_same
    show _
    skip
    (try dsimp only [List.cons_append, List.nil_append])
    generalize upd H19 p3 (.lst [V.ref a0, .ref a1, .ref a2, .ref a3, .ref a4, .ref a5, .ref a6, .ref a7, .ref a8, .ref a9, .ref a10, .ref a11, .ref a12, .ref a13, .ref a14]) = H20 at SS l3 ⊢
    replace f0 := f0.mono SS
    replace f1 := f1.mono SS
    replace f2 := f2.mono SS
    replace f3 := f3.mono SS
    replace f4 := f4.mono SS
    replace x5 := isX_mono SS x5
    replace x6 := isX_mono SS x6
    replace x7 := isX_mono SS x7
    replace x8 := isX_mono SS x8
    replace x9 := isX_mono SS x9
    replace x10 := isX_mono SS x10
    replace x11 := isX_mono SS x11
    replace x12 := isX_mono SS x12
    replace x13 := isX_mono SS x13
    replace x14 := isX_mono SS x14
    replace S0 := S0.trans SS
    clear SS np
    refine ⟨_, rfl, ?_⟩
    refine fun a15 na => ?_
    have SS : Same H20 _ := same1 (o := ExO (.ref (C 15)) a15) na
    have x15 : IsX _ a15 (C 15) := .inl (upd_same (H := H20) (a := a15) (o := ExO (.ref (C 15)) a15))
    generalize upd H20 a15 (ExO (.ref (C 15)) a15) = H21 at SS x15 ⊢
    replace f0 := f0.mono SS
    replace f1 := f1.mono SS
    replace f2 := f2.mono SS
    replace f3 := f3.mono SS
    replace f4 := f4.mono SS
    replace x5 := isX_mono SS x5
    replace x6 := isX_mono SS x6
    replace x7 := isX_mono SS x7
    replace x8 := isX_mono SS x8
    replace x9 := isX_mono SS x9
    replace x10 := isX_mono SS x10
    replace x11 := isX_mono SS x11
    replace x12 := isX_mono SS x12
    replace x13 := isX_mono SS x13
    replace x14 := isX_mono SS x14
    replace S0 := S0.trans SS
    replace l3 := SS _ _ l3; clear SS na
    refine fun a16 na => ?_
    have SS : Same H21 _ := same1 (o := ExO (.ref (C 16)) a16) na
    have x16 : IsX _ a16 (C 16) := .inl (upd_same (H := H21) (a := a16) (o := ExO (.ref (C 16)) a16))
    generalize upd H21 a16 (ExO (.ref (C 16)) a16) = H22 at SS x16 ⊢
    replace f0 := f0.mono SS
    replace f1 := f1.mono SS
    replace f2 := f2.mono SS
    replace f3 := f3.mono SS
    replace f4 := f4.mono SS
    replace x5 := isX_mono SS x5
    replace x6 := isX_mono SS x6
    replace x7 := isX_mono SS x7
    replace x8 := isX_mono SS x8
    replace x9 := isX_mono SS x9
    replace x10 := isX_mono SS x10
    replace x11 := isX_mono SS x11
    replace x12 := isX_mono SS x12
    replace x13 := isX_mono SS x13
    replace x14 := isX_mono SS x14
    replace x15 := isX_mono SS x15
    replace S0 := S0.trans SS
    replace l3 := SS _ _ l3; clear SS na
    refine ⟨by show 2 ≤ sizeLine; decide, fun g4 ng => ?_⟩
    have SS : Same H22 _ := same1 (o := .lst [V.ref a15, .ref a16]) ng
    have m4 : (upd H22 g4 (.lst [V.ref a15, .ref a16])) g4 = some (.lst [V.ref a15, .ref a16]) := upd_same
    generalize upd H22 g4 (.lst [V.ref a15, .ref a16]) = H23 at SS m4 ⊢
    replace f0 := f0.mono SS
    replace f1 := f1.mono SS
    replace f2 := f2.mono SS
    replace f3 := f3.mono SS
    replace f4 := f4.mono SS
    replace x5 := isX_mono SS x5
    replace x6 := isX_mono SS x6
    replace x7 := isX_mono SS x7
    replace x8 := isX_mono SS x8
    replace x9 := isX_mono SS x9
    replace x10 := isX_mono SS x10
    replace x11 := isX_mono SS x11
    replace x12 := isX_mono SS x12
    replace x13 := isX_mono SS x13
    replace x14 := isX_mono SS x14
    replace x15 := isX_mono SS x15
    replace x16 := isX_mono SS x16
    replace S0 := S0.trans SS
    replace l3 := SS _ _ l3; clear SS ng
    refine ⟨_, _, _, _, rfl, rfl, l3, m4, by show 17 ≤ sizeLine; decide, fun p4 np => ?_⟩
    have np04 : H p4 = none := S0.free np
    have SS : Same H23 _ := same1 (o := .lst [V.ref a0, .ref a1, .ref a2, .ref a3, .ref a4, .ref a5, .ref a6, .ref a7, .ref a8, .ref a9, .ref a10, .ref a11, .ref a12, .ref a13, .ref a14, .ref a15, .ref a16]) np
    have l4 : (upd H23 p4 (.lst [V.ref a0, .ref a1, .ref a2, .ref a3, .ref a4, .ref a5, .ref a6, .ref a7, .ref a8, .ref a9, .ref a10, .ref a11, .ref a12, .ref a13, .ref a14, .ref a15, .ref a16])) p4 = some (.lst [V.ref a0, .ref a1, .ref a2, .ref a3, .ref a4, .ref a5, .ref a6, .ref a7, .ref a8, .ref a9, .ref a10, .ref a11, .ref a12, .ref a13, .ref a14, .ref a15, .ref a16]) := upd_same
    have e : (fun (xs zs : List V) => xs ++ zs) [V.ref a0, .ref a1, .ref a2, .ref a3, .ref a4, .ref a5, .ref a6, .ref a7, .ref a8, .ref a9, .ref a10, .ref a11, .ref a12, .ref a13, .ref a14] [V.ref a15, .ref a16] = [V.ref a0, .ref a1, .ref a2, .ref a3, .ref a4, .ref a5, .ref a6, .ref a7, .ref a8, .ref a9, .ref a10, .ref a11, .ref a12, .ref a13, .ref a14, .ref a15, .ref a16] := rfl
    show _
    skip
    (try dsimp only [List.cons_append, List.nil_append])
    generalize upd H23 p4 (.lst [V.ref a0, .ref a1, .ref a2, .ref a3, .ref a4, .ref a5, .ref a6, .ref a7, .ref a8, .ref a9, .ref a10, .ref a11, .ref a12, .ref a13, .ref a14, .ref a15, .ref a16]) = H24 at SS l4 ⊢
    replace f0 := f0.mono SS
    replace f1 := f1.mono SS
    replace f2 := f2.mono SS
    replace f3 := f3.mono SS
    replace f4 := f4.mono SS
    replace x5 := isX_mono SS x5
    replace x6 := isX_mono SS x6
    replace x7 := isX_mono SS x7
    replace x8 := isX_mono SS x8
    replace x9 := isX_mono SS x9
    replace x10 := isX_mono SS x10
    replace x11 := isX_mono SS x11
    replace x12 := isX_mono SS x12
    replace x13 := isX_mono SS x13
    replace x14 := isX_mono SS x14
    replace x15 := isX_mono SS x15
    replace x16 := isX_mono SS x16
    replace S0 := S0.trans SS
    clear SS np
    refine q H24 p4 [a0, a1, a2, a3, a4, a5, a6, a7, a8, a9, a10, a11, a12, a13, a14, a15, a16] S0 np04 l4 rfl ?_ ?_
    · intro i a e
      match i, e with
      | 0, e => cases e; exact f0.isX
      | 1, e => cases e; exact f1.isX
      | 2, e => cases e; exact f2.isX
      | 3, e => cases e; exact f3.isX
      | 4, e => cases e; exact f4.isX
      | 5, e => cases e; exact x5
      | 6, e => cases e; exact x6
      | 7, e => cases e; exact x7
      | 8, e => cases e; exact x8
      | 9, e => cases e; exact x9
      | 10, e => cases e; exact x10
      | 11, e => cases e; exact x11
      | 12, e => cases e; exact x12
      | 13, e => cases e; exact x13
      | 14, e => cases e; exact x14
      | 15, e => cases e; exact x15
      | 16, e => cases e; exact x16
      | i + 17, e => simp at e
    · intro i a fld e1 e2
      match i, e1, e2 with
      | 0, e1, e2 => cases e1; cases e2; exact f0
      | 1, e1, e2 => cases e1; cases e2; exact f1
      | 2, e1, e2 => cases e1; cases e2; exact f2
      | 3, e1, e2 => cases e1; cases e2; exact f3
      | 4, e1, e2 => cases e1; cases e2; exact f4
      | i + 5, e1, e2 => simp at e2
end
end K42
set_option Elab.async false
set_option linter.all false
set_option maxRecDepth 100000
set_option maxHeartbeats 4000000
namespace K42
open PySem PySem.Spec PyProof.Rows L2
section
variable {X : Cx}
theorem sq_isList {pins : List (Addr × Obj)} {σ : L2.St} {H : Hp} {s : Shared} {a : Addr} {xs : List V} (I : Inv X pins σ H s) (h : SqL X.K H a xs) : ∃ its : List Value, Vals xs its ∧ s.heap.IsList a its.toArray := by
  rcases h with h | ⟨ob, its, n, lk, hc, _, hd, hz, r⟩
  · obtain ⟨z, its, n, r, e⟩ := (show ObjOk X.prog X.w H s.heap a (.lst xs) from h.ok I.hok)
    exact ⟨its, r, ⟨_, e, rfl, n, rfl⟩⟩
  · exact ⟨its.toList, r, ⟨ob, I.kIn a ob lk, hc, n, by rw [hd, Array.toArray_toList]⟩⟩
/-- xs + ys, both read -/
def rCatR (K : PySem.W.Frag) : R2 := fun x y H Q => ∃ l b xs zs, x = .ref l ∧ y = .ref b ∧ SqL K H l xs ∧ SqL K H b zs ∧ xs.length + zs.length ≤ sizeLine ∧ ∀ p, H p = none → Q (.ref p) (upd H p (.lst (xs ++ zs)))
theorem op_catR : OpR X (binaryOp .Add) (rCatR X.K) := by
  intro pins s σ H x y v u Q I rx ry h
  obtain ⟨l, b, xs, zs, rfl, rfl, hH, hB, hz, q⟩ := h
  cases rx
  cases ry
  obtain ⟨its, r, hl⟩ := sq_isList I hH
  obtain ⟨its2, r2, hb⟩ := sq_isList I hB
  have e1 := Paired.length r
  have e2 := Paired.length r2
  obtain ⟨⟨cls, dd, data, sl⟩, ho, hc, n, hd⟩ := id hl
  obtain ⟨⟨cls2, dd2, data2, sl2⟩, ho2, hc2, n2, hd2⟩ := id hb
  simp only at hc hd hc2 hd2
  subst hc hd hc2 hd2
  have e : its.toArray ++ its2.toArray = (its ++ its2).toArray := by simp
  refine concat_meets ⟨_, ho, rfl⟩ ⟨_, ho2, rfl⟩ noFill_list_add seq_list_add PySem.F.slot_list_add PySem.F.entry_list_add (PySem.F.args_list_add_2 _ _) (list_addW l b its.toArray its2.toArray n n2 dd dd2 sl sl2 (by simp; omega)) ⟨ho, ho2, ?_⟩
  rw [e]
  exact ⟨.ref _, _, I.lnew (t' := s.toks) (r.append r2) (by rw [List.length_append]; omega), rfl, q _ I.fresh⟩
end
section
variable {P : Program} {w : World} {K : PySem.W.Frag} {mg : Str → Option Value} {base : Heap} {B : Addr} {C I : Nat → Addr}
/-! ### _law_classes -/
def row (bs : Nat → Bool) : List V := (List.range 17).map fun i => V.bl (bs i)
def spCls (K : PySem.W.Frag) (C : Nat → Addr) : Sp := fun vs H Q _ => ∃ (a D : Addr) (bs : Nat → Bool), vs = [.ref a] ∧ IsX H a D ∧ ExcC K D ∧ (∀ i, i < 17 → PySem.W.kitOne K (.ref D) (.ref (C i)) = some (bs i)) ∧
  ∀ (H' : Hp) (p : Addr), Same H H' → H p = none → H' p = some (.lst (row bs)) → Q (.ref p) H'
theorem ok_cls {f : Addr} {fd : FuncData} (F : Fun K "_law_classes" "_law_classes" sCls f fd) (T : Txt P K mg B C I) : FnOk P w K mg base CX0 1 f fd ["_law_one"] (spCls K C) := by
  refine F.ok scC (fun vs H Q E h => ?_) (fun cdv A outer s H vs Q E hr h => ?_)
  · obtain ⟨a, D, bs, rfl, _⟩ := h
    rfl
  · obtain ⟨a, D, bs, rfl, hx, hE, hk, q⟩ := h
    refine ⟨_, pss_cons (ps_set (i := 1) scC.nd rfl (.inl rfl) (pe_lst (pa_cons (pe_callB call_isX (by rfl) T.is PyProof.Rows.boot_isinstance (pa_cons (pv 0) (pa_cons (pe_glob (v := .ref (C 0)) (by rfl) T.f0.gC rfl) pa_nil))) (pa_cons (pe_callB call_isX (by rfl) T.is PyProof.Rows.boot_isinstance (pa_cons (pv 0) (pa_cons (pe_glob (v := .ref (C 1)) (by rfl) T.f1.gC rfl) pa_nil))) (pa_cons (pe_callB call_isX (by rfl) T.is PyProof.Rows.boot_isinstance (pa_cons (pv 0) (pa_cons (pe_glob (v := .ref (C 2)) (by rfl) T.f2.gC rfl) pa_nil))) (pa_nil))))))
      (pss_cons (ps_set (i := 1) scC.nd rfl (.inl rfl) (pe_op op_cat (pv 1) (pe_lst (pa_cons (pe_callB call_isX (by rfl) T.is PyProof.Rows.boot_isinstance (pa_cons (pv 0) (pa_cons (pe_glob (v := .ref (C 3)) (by rfl) T.f3.gC rfl) pa_nil))) (pa_cons (pe_callB call_isX (by rfl) T.is PyProof.Rows.boot_isinstance (pa_cons (pv 0) (pa_cons (pe_glob (v := .ref (C 4)) (by rfl) T.f4.gC rfl) pa_nil))) (pa_cons (pe_callB call_isX (by rfl) T.is PyProof.Rows.boot_isinstance (pa_cons (pv 0) (pa_cons (pe_glob (v := .ref (C 5)) (by rfl) T.g5 rfl) pa_nil))) (pa_nil)))))))
      (pss_cons (ps_set (i := 1) scC.nd rfl (.inl rfl) (pe_op op_cat (pv 1) (pe_lst (pa_cons (pe_callB call_isX (by rfl) T.is PyProof.Rows.boot_isinstance (pa_cons (pv 0) (pa_cons (pe_glob (v := .ref (C 6)) (by rfl) T.g6 rfl) pa_nil))) (pa_cons (pe_callB call_isX (by rfl) T.is PyProof.Rows.boot_isinstance (pa_cons (pv 0) (pa_cons (pe_glob (v := .ref (C 7)) (by rfl) T.g7 rfl) pa_nil))) (pa_cons (pe_callB call_isX (by rfl) T.is PyProof.Rows.boot_isinstance (pa_cons (pv 0) (pa_cons (pe_glob (v := .ref (C 8)) (by rfl) T.g8 rfl) pa_nil))) (pa_nil)))))))
      (pss_cons (ps_set (i := 1) scC.nd rfl (.inl rfl) (pe_op op_cat (pv 1) (pe_lst (pa_cons (pe_callB call_isX (by rfl) T.is PyProof.Rows.boot_isinstance (pa_cons (pv 0) (pa_cons (pe_glob (v := .ref (C 9)) (by rfl) T.g9 rfl) pa_nil))) (pa_cons (pe_callB call_isX (by rfl) T.is PyProof.Rows.boot_isinstance (pa_cons (pv 0) (pa_cons (pe_glob (v := .ref (C 10)) (by rfl) T.g10 rfl) pa_nil))) (pa_cons (pe_callB call_isX (by rfl) T.is PyProof.Rows.boot_isinstance (pa_cons (pv 0) (pa_cons (pe_glob (v := .ref (C 11)) (by rfl) T.g11 rfl) pa_nil))) (pa_nil)))))))
      (pss_cons (ps_set (i := 1) scC.nd rfl (.inl rfl) (pe_op op_cat (pv 1) (pe_lst (pa_cons (pe_callB call_isX (by rfl) T.is PyProof.Rows.boot_isinstance (pa_cons (pv 0) (pa_cons (pe_glob (v := .ref (C 12)) (by rfl) T.g12 rfl) pa_nil))) (pa_cons (pe_callB call_isX (by rfl) T.is PyProof.Rows.boot_isinstance (pa_cons (pv 0) (pa_cons (pe_glob (v := .ref (C 13)) (by rfl) T.g13 rfl) pa_nil))) (pa_cons (pe_callB call_isX (by rfl) T.is PyProof.Rows.boot_isinstance (pa_cons (pv 0) (pa_cons (pe_glob (v := .ref (C 14)) (by rfl) T.g14 rfl) pa_nil))) (pa_nil)))))))
      (pss_one (ps_ret (pe_op op_cat (pv 1) (pe_lst (pa_cons (pe_callB call_isX (by rfl) T.is PyProof.Rows.boot_isinstance (pa_cons (pv 0) (pa_cons (pe_glob (v := .ref (C 15)) (by rfl) T.g15 rfl) pa_nil))) (pa_cons (pe_callB call_isX (by rfl) T.is PyProof.Rows.boot_isinstance (pa_cons (pv 0) (pa_cons (pe_glob (v := .ref (C 16)) (by rfl) T.g16 rfl) pa_nil))) (pa_nil))))))))))), ?_⟩
    have S0 : Same H H := Same.refl H
    refine ⟨_, rfl, a, D, _, _, bs 0, rfl, hx, hE, (fun u r => r), hk 0 (by decide), ?_⟩
    refine ⟨_, rfl, a, D, _, _, bs 1, rfl, hx, hE, (fun u r => r), hk 1 (by decide), ?_⟩
    refine ⟨_, rfl, a, D, _, _, bs 2, rfl, hx, hE, (fun u r => r), hk 2 (by decide), ?_⟩
    refine ⟨by show 3 ≤ sizeLine; decide, fun g1 ng => ?_⟩
    have ng01 : H g1 = none := S0.free ng
    have SS : Same H _ := same1 (o := .lst [V.bl (bs 0), .bl (bs 1), .bl (bs 2)]) ng
    have m1 : (upd H g1 (.lst [V.bl (bs 0), .bl (bs 1), .bl (bs 2)])) g1 = some (.lst [V.bl (bs 0), .bl (bs 1), .bl (bs 2)]) := upd_same
    generalize upd H g1 (.lst [V.bl (bs 0), .bl (bs 1), .bl (bs 2)]) = H1 at SS m1 ⊢
    replace hx := isX_mono SS hx
    replace S0 := S0.trans SS
    have l1 := m1; have np01 := ng01; clear SS ng
    refine ⟨_, rfl, ?_⟩
    refine ⟨_, rfl, a, D, _, _, bs 3, rfl, hx, hE, (fun u r => r), hk 3 (by decide), ?_⟩
    refine ⟨_, rfl, a, D, _, _, bs 4, rfl, hx, hE, (fun u r => r), hk 4 (by decide), ?_⟩
    refine ⟨_, rfl, a, D, _, _, bs 5, rfl, hx, hE, (fun u r => r), hk 5 (by decide), ?_⟩
    refine ⟨by show 3 ≤ sizeLine; decide, fun g2 ng => ?_⟩
    have ng02 : H g2 = none := S0.free ng
    have SS : Same H1 _ := same1 (o := .lst [V.bl (bs 3), .bl (bs 4), .bl (bs 5)]) ng
    have m2 : (upd H1 g2 (.lst [V.bl (bs 3), .bl (bs 4), .bl (bs 5)])) g2 = some (.lst [V.bl (bs 3), .bl (bs 4), .bl (bs 5)]) := upd_same
    generalize upd H1 g2 (.lst [V.bl (bs 3), .bl (bs 4), .bl (bs 5)]) = H2 at SS m2 ⊢
    replace hx := isX_mono SS hx
    replace S0 := S0.trans SS
    replace l1 := SS _ _ l1; clear SS ng
    refine ⟨_, _, _, _, rfl, rfl, l1, m2, by show 6 ≤ sizeLine; decide, fun p2 np => ?_⟩
    have np02 : H p2 = none := S0.free np
    have SS : Same H2 _ := same1 (o := .lst [V.bl (bs 0), .bl (bs 1), .bl (bs 2), .bl (bs 3), .bl (bs 4), .bl (bs 5)]) np
    have l2 : (upd H2 p2 (.lst [V.bl (bs 0), .bl (bs 1), .bl (bs 2), .bl (bs 3), .bl (bs 4), .bl (bs 5)])) p2 = some (.lst [V.bl (bs 0), .bl (bs 1), .bl (bs 2), .bl (bs 3), .bl (bs 4), .bl (bs 5)]) := upd_same
    (try dsimp only [List.cons_append, List.nil_append])
    generalize upd H2 p2 (.lst [V.bl (bs 0), .bl (bs 1), .bl (bs 2), .bl (bs 3), .bl (bs 4), .bl (bs 5)]) = H3 at SS l2 ⊢
    replace hx := isX_mono SS hx
    replace S0 := S0.trans SS; clear SS np
    refine ⟨_, rfl, ?_⟩
    refine ⟨_, rfl, a, D, _, _, bs 6, rfl, hx, hE, (fun u r => r), hk 6 (by decide), ?_⟩
    refine ⟨_, rfl, a, D, _, _, bs 7, rfl, hx, hE, (fun u r => r), hk 7 (by decide), ?_⟩
    refine ⟨_, rfl, a, D, _, _, bs 8, rfl, hx, hE, (fun u r => r), hk 8 (by decide), ?_⟩
    refine ⟨by show 3 ≤ sizeLine; decide, fun g3 ng => ?_⟩
    have ng03 : H g3 = none := S0.free ng
    have SS : Same H3 _ := same1 (o := .lst [V.bl (bs 6), .bl (bs 7), .bl (bs 8)]) ng
    have m3 : (upd H3 g3 (.lst [V.bl (bs 6), .bl (bs 7), .bl (bs 8)])) g3 = some (.lst [V.bl (bs 6), .bl (bs 7), .bl (bs 8)]) := upd_same
    generalize upd H3 g3 (.lst [V.bl (bs 6), .bl (bs 7), .bl (bs 8)]) = H4 at SS m3 ⊢
    replace hx := isX_mono SS hx
    replace S0 := S0.trans SS
    replace l2 := SS _ _ l2; clear SS ng
    refine ⟨_, _, _, _, rfl, rfl, l2, m3, by show 9 ≤ sizeLine; decide, fun p3 np => ?_⟩
    have np03 : H p3 = none := S0.free np
    have SS : Same H4 _ := same1 (o := .lst [V.bl (bs 0), .bl (bs 1), .bl (bs 2), .bl (bs 3), .bl (bs 4), .bl (bs 5), .bl (bs 6), .bl (bs 7), .bl (bs 8)]) np
    have l3 : (upd H4 p3 (.lst [V.bl (bs 0), .bl (bs 1), .bl (bs 2), .bl (bs 3), .bl (bs 4), .bl (bs 5), .bl (bs 6), .bl (bs 7), .bl (bs 8)])) p3 = some (.lst [V.bl (bs 0), .bl (bs 1), .bl (bs 2), .bl (bs 3), .bl (bs 4), .bl (bs 5), .bl (bs 6), .bl (bs 7), .bl (bs 8)]) := upd_same
    (try dsimp only [List.cons_append, List.nil_append])
    generalize upd H4 p3 (.lst [V.bl (bs 0), .bl (bs 1), .bl (bs 2), .bl (bs 3), .bl (bs 4), .bl (bs 5), .bl (bs 6), .bl (bs 7), .bl (bs 8)]) = H5 at SS l3 ⊢
    replace hx := isX_mono SS hx
    replace S0 := S0.trans SS; clear SS np
    refine ⟨_, rfl, ?_⟩
    refine ⟨_, rfl, a, D, _, _, bs 9, rfl, hx, hE, (fun u r => r), hk 9 (by decide), ?_⟩
    refine ⟨_, rfl, a, D, _, _, bs 10, rfl, hx, hE, (fun u r => r), hk 10 (by decide), ?_⟩
    refine ⟨_, rfl, a, D, _, _, bs 11, rfl, hx, hE, (fun u r => r), hk 11 (by decide), ?_⟩
    refine ⟨by show 3 ≤ sizeLine; decide, fun g4 ng => ?_⟩
    have ng04 : H g4 = none := S0.free ng
    have SS : Same H5 _ := same1 (o := .lst [V.bl (bs 9), .bl (bs 10), .bl (bs 11)]) ng
    have m4 : (upd H5 g4 (.lst [V.bl (bs 9), .bl (bs 10), .bl (bs 11)])) g4 = some (.lst [V.bl (bs 9), .bl (bs 10), .bl (bs 11)]) := upd_same
    generalize upd H5 g4 (.lst [V.bl (bs 9), .bl (bs 10), .bl (bs 11)]) = H6 at SS m4 ⊢
    replace hx := isX_mono SS hx
    replace S0 := S0.trans SS
    replace l3 := SS _ _ l3; clear SS ng
    refine ⟨_, _, _, _, rfl, rfl, l3, m4, by show 12 ≤ sizeLine; decide, fun p4 np => ?_⟩
    have np04 : H p4 = none := S0.free np
    have SS : Same H6 _ := same1 (o := .lst [V.bl (bs 0), .bl (bs 1), .bl (bs 2), .bl (bs 3), .bl (bs 4), .bl (bs 5), .bl (bs 6), .bl (bs 7), .bl (bs 8), .bl (bs 9), .bl (bs 10), .bl (bs 11)]) np
    have l4 : (upd H6 p4 (.lst [V.bl (bs 0), .bl (bs 1), .bl (bs 2), .bl (bs 3), .bl (bs 4), .bl (bs 5), .bl (bs 6), .bl (bs 7), .bl (bs 8), .bl (bs 9), .bl (bs 10), .bl (bs 11)])) p4 = some (.lst [V.bl (bs 0), .bl (bs 1), .bl (bs 2), .bl (bs 3), .bl (bs 4), .bl (bs 5), .bl (bs 6), .bl (bs 7), .bl (bs 8), .bl (bs 9), .bl (bs 10), .bl (bs 11)]) := upd_same
    (try dsimp only [List.cons_append, List.nil_append])
    generalize upd H6 p4 (.lst [V.bl (bs 0), .bl (bs 1), .bl (bs 2), .bl (bs 3), .bl (bs 4), .bl (bs 5), .bl (bs 6), .bl (bs 7), .bl (bs 8), .bl (bs 9), .bl (bs 10), .bl (bs 11)]) = H7 at SS l4 ⊢
    replace hx := isX_mono SS hx
    replace S0 := S0.trans SS; clear SS np
    refine ⟨_, rfl, ?_⟩
    refine ⟨_, rfl, a, D, _, _, bs 12, rfl, hx, hE, (fun u r => r), hk 12 (by decide), ?_⟩
    refine ⟨_, rfl, a, D, _, _, bs 13, rfl, hx, hE, (fun u r => r), hk 13 (by decide), ?_⟩
    refine ⟨_, rfl, a, D, _, _, bs 14, rfl, hx, hE, (fun u r => r), hk 14 (by decide), ?_⟩
    refine ⟨by show 3 ≤ sizeLine; decide, fun g5 ng => ?_⟩
    have ng05 : H g5 = none := S0.free ng
    have SS : Same H7 _ := same1 (o := .lst [V.bl (bs 12), .bl (bs 13), .bl (bs 14)]) ng
    have m5 : (upd H7 g5 (.lst [V.bl (bs 12), .bl (bs 13), .bl (bs 14)])) g5 = some (.lst [V.bl (bs 12), .bl (bs 13), .bl (bs 14)]) := upd_same
    generalize upd H7 g5 (.lst [V.bl (bs 12), .bl (bs 13), .bl (bs 14)]) = H8 at SS m5 ⊢
    replace hx := isX_mono SS hx
    replace S0 := S0.trans SS
    replace l4 := SS _ _ l4; clear SS ng
    refine ⟨_, _, _, _, rfl, rfl, l4, m5, by show 15 ≤ sizeLine; decide, fun p5 np => ?_⟩
    have np05 : H p5 = none := S0.free np
    have SS : Same H8 _ := same1 (o := .lst [V.bl (bs 0), .bl (bs 1), .bl (bs 2), .bl (bs 3), .bl (bs 4), .bl (bs 5), .bl (bs 6), .bl (bs 7), .bl (bs 8), .bl (bs 9), .bl (bs 10), .bl (bs 11), .bl (bs 12), .bl (bs 13), .bl (bs 14)]) np
    have l5 : (upd H8 p5 (.lst [V.bl (bs 0), .bl (bs 1), .bl (bs 2), .bl (bs 3), .bl (bs 4), .bl (bs 5), .bl (bs 6), .bl (bs 7), .bl (bs 8), .bl (bs 9), .bl (bs 10), .bl (bs 11), .bl (bs 12), .bl (bs 13), .bl (bs 14)])) p5 = some (.lst [V.bl (bs 0), .bl (bs 1), .bl (bs 2), .bl (bs 3), .bl (bs 4), .bl (bs 5), .bl (bs 6), .bl (bs 7), .bl (bs 8), .bl (bs 9), .bl (bs 10), .bl (bs 11), .bl (bs 12), .bl (bs 13), .bl (bs 14)]) := upd_same
    (try dsimp only [List.cons_append, List.nil_append])
    generalize upd H8 p5 (.lst [V.bl (bs 0), .bl (bs 1), .bl (bs 2), .bl (bs 3), .bl (bs 4), .bl (bs 5), .bl (bs 6), .bl (bs 7), .bl (bs 8), .bl (bs 9), .bl (bs 10), .bl (bs 11), .bl (bs 12), .bl (bs 13), .bl (bs 14)]) = H9 at SS l5 ⊢
    replace hx := isX_mono SS hx
    replace S0 := S0.trans SS; clear SS np
    refine ⟨_, rfl, ?_⟩
    refine ⟨_, rfl, a, D, _, _, bs 15, rfl, hx, hE, (fun u r => r), hk 15 (by decide), ?_⟩
    refine ⟨_, rfl, a, D, _, _, bs 16, rfl, hx, hE, (fun u r => r), hk 16 (by decide), ?_⟩
    refine ⟨by show 2 ≤ sizeLine; decide, fun g6 ng => ?_⟩
    have ng06 : H g6 = none := S0.free ng
    have SS : Same H9 _ := same1 (o := .lst [V.bl (bs 15), .bl (bs 16)]) ng
    have m6 : (upd H9 g6 (.lst [V.bl (bs 15), .bl (bs 16)])) g6 = some (.lst [V.bl (bs 15), .bl (bs 16)]) := upd_same
    generalize upd H9 g6 (.lst [V.bl (bs 15), .bl (bs 16)]) = H10 at SS m6 ⊢
    replace hx := isX_mono SS hx
    replace S0 := S0.trans SS
    replace l5 := SS _ _ l5; clear SS ng
    refine ⟨_, _, _, _, rfl, rfl, l5, m6, by show 17 ≤ sizeLine; decide, fun p6 np => ?_⟩
    have np06 : H p6 = none := S0.free np
    have SS : Same H10 _ := same1 (o := .lst [V.bl (bs 0), .bl (bs 1), .bl (bs 2), .bl (bs 3), .bl (bs 4), .bl (bs 5), .bl (bs 6), .bl (bs 7), .bl (bs 8), .bl (bs 9), .bl (bs 10), .bl (bs 11), .bl (bs 12), .bl (bs 13), .bl (bs 14), .bl (bs 15), .bl (bs 16)]) np
    have l6 : (upd H10 p6 (.lst [V.bl (bs 0), .bl (bs 1), .bl (bs 2), .bl (bs 3), .bl (bs 4), .bl (bs 5), .bl (bs 6), .bl (bs 7), .bl (bs 8), .bl (bs 9), .bl (bs 10), .bl (bs 11), .bl (bs 12), .bl (bs 13), .bl (bs 14), .bl (bs 15), .bl (bs 16)])) p6 = some (.lst [V.bl (bs 0), .bl (bs 1), .bl (bs 2), .bl (bs 3), .bl (bs 4), .bl (bs 5), .bl (bs 6), .bl (bs 7), .bl (bs 8), .bl (bs 9), .bl (bs 10), .bl (bs 11), .bl (bs 12), .bl (bs 13), .bl (bs 14), .bl (bs 15), .bl (bs 16)]) := upd_same
    (try dsimp only [List.cons_append, List.nil_append])
    generalize upd H10 p6 (.lst [V.bl (bs 0), .bl (bs 1), .bl (bs 2), .bl (bs 3), .bl (bs 4), .bl (bs 5), .bl (bs 6), .bl (bs 7), .bl (bs 8), .bl (bs 9), .bl (bs 10), .bl (bs 11), .bl (bs 12), .bl (bs 13), .bl (bs 14), .bl (bs 15), .bl (bs 16)]) = H11 at SS l6 ⊢
    replace hx := isX_mono SS hx
    replace S0 := S0.trans SS; clear SS np
    exact q H11 p6 S0 np06 l6
/-! ### law -/
def spLaw (K : PySem.W.Frag) : Sp := fun vs H Q _ => ∃ (a : Addr) (ns : List Int), vs = [.ref a] ∧ SqL K H a (ns.map V.int) ∧ ns.length ≤ 63 ∧ ∀ H', Q (.bl true) H'
structure Fns (P : Program) (w : World) (K : PySem.W.Frag) (mg : Str → Option Value) (base : Heap) (C : Nat → Addr) (fB fP fM fC : Addr) (dB dP dM dC : FuncData) : Prop where
  oB : FnOk P w K mg base CX0 1 fB dB ["_law_cell"] spBag
  oP : FnOk P w K mg base CX0 1 fP dP ["_law_bag_here", "_law_many"] spPick
  oM : FnOk P w K mg base CX0 1 fM dM ["_law_number"] (spMade C)
  oC : FnOk P w K mg base CX0 1 fC dC ["_law_one"] (spCls K C)
  gB : mg "_law_bag" = some (.ref fB)
  gP : mg "_law_pick" = some (.ref fP)
  gM : mg "_law_made" = some (.ref fM)
  gC : mg "_law_classes" = some (.ref fC)
  kB : PySem.W.keepIn K (.ref fB) = true
  kP : PySem.W.keepIn K (.ref fP) = true
  kM : PySem.W.keepIn K (.ref fM) = true
  kC : PySem.W.keepIn K (.ref fC) = true
  bB : Binds K dB ["_law_cell"] []
  bP : Binds K dP ["_law_bag_here", "_law_many"] []
  bM : Binds K dM ["_law_number"] []
  bC : Binds K dC ["_law_one"] []
  rg : mg "range" = none
  en : mg "enumerate" = none
  ln : mg "len" = none
  ve : mg "ValueError" = none
/-- two rows of bools as data -/
def dat (bs : Nat → Bool) : PyData := .list ((List.range 17).map fun i => .bool (bs i))
theorem dpAll_bl {H : Hp} (bs : Nat → Bool) : ∀ l : List Nat, DpAll K H (l.map fun i => V.bl (bs i)) (l.map fun i => PyData.bool (bs i))
  | [] => .nil
  | x :: l => .cons (.bl _) (dpAll_bl bs l)
theorem dp_row {H : Hp} {p : Addr} {bs : Nat → Bool} (h : H p = some (.lst (row bs))) : Dp K H (.ref p) (dat bs) := .lst (SqL.of h) (dpAll_bl bs _)
theorem sh_dat (bs : Nat → Bool) : SeqAt.shaped (dat bs) = true := by rfl
theorem eq_dat (bs : Nat → Bool) : PyData.eqv (dat bs) (dat bs) = true := PySem.SeqAt.eqv_refl _ (SeqAt.canLay_of_shaped (sh_dat bs))
theorem log_small {n m : Int} (h0 : 0 ≤ n) (h1 : n < m) (hm : m = 9 ∨ m = 10 ^ 60) : n.natAbs.log2 < 1920 := by
  have b : n.natAbs < 2 ^ 200 := by
    have e : (10 : Int) ^ 60 < 2 ^ 200 := by decide
    have e2 : (9 : Int) < 2 ^ 200 := by decide
    have e3 : n < 2 ^ 200 := by rcases hm with rfl | rfl <;> omega
    omega
  exact Nat.lt_of_lt_of_le (PySem.Flt.log2_lt_of (by decide) b) (by decide)
theorem many_of : ∀ i : Nat, i < 4 → ∃ many : Int, (many = 9 ∨ many = 10 ^ 60) ∧ atI [V.int 9, V.int (10 ^ Int.toNat 60)] ((0 + (i : Int)) % 2) = some (.int many)
  | 0, _ => ⟨9, .inl rfl, rfl⟩
  | 1, _ => ⟨10 ^ 60, .inr rfl, rfl⟩
  | 2, _ => ⟨9, .inl rfl, rfl⟩
  | 3, _ => ⟨10 ^ 60, .inr rfl, rfl⟩
  | n + 4, h => by omega
theorem list17 {as : List Addr} (h : as.length = 17) {i : Nat} (hi : i < 17) : ∃ a, as[i]? = some a := ⟨as[i]'(by omega), List.getElem?_eq_getElem (by omega)⟩
theorem map_get {as : List Addr} {i : Nat} {a : Addr} (h : as[i]? = some a) : (as.map V.ref)[i]? = some (.ref a) := by rw [List.getElem?_map, h]; rfl
theorem atI_get {xs : List V} {i : Nat} {x : V} (h : xs[i]? = some x) : atI xs (i : Int) = some x := atI_nat (j := i) h
theorem lk1 (fld : Str) (v : V) : List.lookup fld [(fld, v)] = some v := by simp [List.lookup]
def flds : List Str := ["item", "item", "part", "limit", "count"]
theorem ok_law {f fB fP fM fC : Addr} {fd dB dP dM dC : FuncData} (F : Fun K "law" "law" sLaw f fd) (T : Txt P K mg B C I) (G : Fns P w K mg base C fB fP fM fC dB dP dM dC) : FnOk P w K mg base CX0 2 f fd ["_law_script"] (spLaw K) := by
  refine F.ok scL (fun vs H Q E h => ?_) (fun cdv A outer s H vs Q E hr h => ?_)
  · obtain ⟨a, ns, rfl, _⟩ := h
    rfl
  · obtain ⟨a, ns, rfl, hS, hlen, q⟩ := h
    have hu : (A.deeper (envOfC "law" (defScope sLaw) s.heap.objs.size f cdv)).units + 64 < cLine := by have := hr.un; omega
    refine ⟨_, pss_cons (ps_set (i := 1) scL.nd rfl (.inl rfl) (pe_call G.oB hr (by rfl) G.gB G.kB G.bB .nil pass0 (pa_cons (pe_ix ix_list (pe_op op_catR (pv 0) (pe_lst (pa_cons pe_int pa_nil))) pe_int (fun _ _ => rfl)) pa_nil)))
      (pss_cons (ps_for PassesOwn.never rfl (pi_range1 (by rfl) G.rg (pa_cons pe_int pa_nil)) (pg_name (i := 2) scL.nd rfl (.inl rfl))
        (pss_cons (ps_set (i := 3) scL.nd rfl (.inl rfl) (pe_call G.oP hr (by rfl) G.gP G.kP G.bP .nil pass0 (pa_cons (pv 1) (pa_cons (pe_ix ix_list (pe_lst (pa_cons pe_int (pa_cons (pe_op op_pow pe_int pe_int) pa_nil))) (pe_op op_mod (pv 2) pe_int) (fun _ _ => rfl)) pa_nil))))
        (pss_cons (ps_set (i := 4) scL.nd rfl (.inl rfl) (pe_call G.oM hr (by rfl) G.gM G.kM G.bM .nil pass0 (pa_cons (pv 3) pa_nil)))
        (pss_cons (ps_for PassesOwn.never rfl (pi_enum (by rfl) G.en (pa_cons (pv 4) pa_nil)) (pg_tup rfl (pgs_cons (pg_name (i := 5) scL.nd rfl (.inr rfl)) (pgs_cons (pg_name (i := 6) scL.nd rfl (.inl rfl)) pgs_nil)))
          (pss_cons (ps_if (PW.pt (pw_or (pt_not (pt_val (pe_callB call_isX (by rfl) T.is PyProof.Rows.boot_isinstance (pa_cons (pv 6) (pa_cons (pe_glob (v := .ref B) (by rfl) T.gB rfl) pa_nil)))))
              (pw_or1 (pt_not (pt_val (pe_callB call_isX (by rfl) T.is PyProof.Rows.boot_isinstance (pa_cons (pv 6) (pa_cons (pe_bltn (v := .ty "ValueError") (by rfl) G.ve PyProof.Rows.Boot.«ValueError» rfl) pa_nil))))))))
            (pss_one (ps_ret pe_bl)) pss_nil)
          (pss_one (ps_if (pt_cmpR (op_neD hu) (pe_call G.oC hr (by rfl) G.gC G.kC G.bC .nil pass0 (pa_cons (pv 6) pa_nil))
              (pe_lc (own := [("_law_j", 9)]) (g := gName 9) (tt := tYes) rfl scL.nd (pi_range1 (by rfl) G.rg (pa_cons (pe_callB call_len_seq (by rfl) G.ln PySem.boot_len (pa_cons (pv 4) pa_nil)) pa_nil)) (blkOk_by (N := ["_law_script", "_law_bag_here", "_law_turn", "_law_number", "_law_made_here", "_law_k", "_law_one", "_law_base", "_law_some", "_law_j"]) (sc := defScope sLaw) (by decide +kernel))
                (fun _ _ _ _ _ => pg_name (i := 9) scL.nd rfl (Or.inl rfl)) (fun _ _ _ _ _ => pts_nil) (fun _ _ _ _ _ => pe_cmpR op_eq (pv 9) (pv 5) (nomark _))) (nomark _))
            (pss_one (ps_ret pe_bl)) pss_nil))))
        (pss_one (ps_if (pt_cmpR (op_neD hu) (pe_lst (pa_cons (pe_fldX (pe_ix ix_list (pv 4) pe_int (fun _ _ => rfl))) (pa_cons (pe_fldX (pe_ix ix_list (pv 4) pe_int (fun _ _ => rfl))) (pa_cons (pe_fldX (pe_ix ix_list (pv 4) pe_int (fun _ _ => rfl))) (pa_cons (pe_fldX (pe_ix ix_list (pv 4) pe_int (fun _ _ => rfl))) (pa_cons (pe_fldX (pe_ix ix_list (pv 4) pe_int (fun _ _ => rfl))) pa_nil))))))
              (pe_op op_rep (pe_lst (pa_cons (pv 3) pa_nil)) pe_int) (nomark _))
            (pss_one (ps_ret pe_bl)) pss_nil))))))
      (pss_cons (ps_set (i := 7) scL.nd rfl (.inl rfl) (pe_exc1 PySem.F.excBase_ValueError T.xB T.gB T.kB (by rfl) pe_str))
      (pss_cons (ps_set (i := 8) scL.nd rfl (.inl rfl) (pe_lst (pa_cons (pe_fldX (pe_mkF T.f0 hr (by rfl) pe_non)) (pa_cons (pe_fldX (pe_mkF T.f1 hr (by rfl) pe_non)) (pa_cons (pe_fldX (pe_mkF T.f2 hr (by rfl) pe_non)) pa_nil)))))
      (pss_one (ps_ret (pe_and (pe_cmpR (op_eqD hu) (pv 8) (pe_op op_rep (pe_lst (pa_cons pe_non pa_nil)) pe_int) (nomark _)) (pe_and (pe_cmpR op_notIn_seq pe_bl (pe_call G.oC hr (by rfl) G.gC G.kC G.bC .nil pass0 (pa_cons (pv 7) pa_nil)) (by rfl))
        (pe_one (pe_callB call_isX (by rfl) T.is PyProof.Rows.boot_isinstance (pa_cons (pv 7) (pa_cons (pe_bltn (v := .ty "ValueError") (by rfl) G.ve PyProof.Rows.Boot.«ValueError» rfl) pa_nil))))))))))), ?_⟩
    -- (script + [0])[0]
    refine ⟨_, rfl, by show 1 ≤ sizeLine; decide, fun p0 n0 => ?_⟩
    have S1 : Same H (upd H p0 (.lst [V.int 0])) := same1 n0
    have l0 : (upd H p0 (.lst [V.int 0])) p0 = some (.lst [V.int 0]) := upd_same
    generalize upd H p0 (.lst [V.int 0]) = H1 at S1 l0 ⊢
    refine ⟨_, _, _, _, rfl, rfl, S1.seq hS, SqL.of l0, ?_, fun p1 n1 => ?_⟩
    · rw [List.length_map, sizeLine_eq]
      show ns.length + 1 ≤ _
      omega
    obtain ⟨x, hx⟩ : ∃ x : Int, atI (ns.map V.int ++ [V.int 0]) 0 = some (.int x) := by
      cases ns with
      | nil => exact ⟨0, rfl⟩
      | cons y r => exact ⟨y, atI_nat (j := 0) rfl⟩
    refine ⟨p1, _, 0, _, rfl, rfl, SqL.of upd_same, hx, ?_⟩
    generalize upd H1 p1 _ = H2
    -- the bag
    refine ⟨x, rfl, fun p2 n2 => ?_⟩
    have b2 : (upd H2 p2 (.lst [V.int (pos1 (x - 10 ^ 18)), .int x, .int 0])) p2 = some (.lst [V.int (pos1 (x - 10 ^ 18)), .int x, .int 0]) := upd_same
    generalize upd H2 p2 (.lst [V.int (pos1 (x - 10 ^ 18)), .int x, .int 0]) = H3 at b2 ⊢
    -- the outer loop
    refine ⟨4, rfl, by decide, by decide, for_range (n := 4) (fun i σ H' => ∃ y2 y3 y4 y5 y6 d, σ = [some (.ref a), some (.ref p2), y2, y3, y4, y5, y6, none, none, none] ∧ H' p2 = some (.lst [V.int d, .int x, .int (i : Nat)]))
      ⟨none, none, none, none, none, _, rfl, b2⟩ ?_ ?_⟩
    · rintro i σ H4 hi ⟨y2, y3, y4, y5, y6, d, rfl, b4⟩
      -- the number
      obtain ⟨many, hm, hat⟩ := many_of i hi
      refine ⟨_, rfl, 10, 60, rfl, rfl, ⟨by decide, by decide, by decide⟩, by show 2 ≤ sizeLine; decide, fun p3 n3 => ?_⟩
      have S5 : Same H4 (upd H4 p3 (.lst [V.int 9, V.int (10 ^ Int.toNat 60)])) := same1 n3
      have l3 : (upd H4 p3 (.lst [V.int 9, V.int (10 ^ Int.toNat 60)])) p3 = some (.lst [V.int 9, V.int (10 ^ Int.toNat 60)]) := upd_same
      generalize upd H4 p3 (.lst [V.int 9, V.int (10 ^ Int.toNat 60)]) = H5 at S5 l3 ⊢
      (try dsimp only)
      refine ⟨_, rfl, 0 + (i : Int), 2, rfl, rfl, (show (0 : Int) < 2 by decide), p3, _, _, _, rfl, rfl, SqL.of l3, hat, ?_⟩
      refine ⟨p2, d, x, (i : Int), many, rfl, S5 _ _ b4, by omega, by omega, hm, fun n d' hn0 hn1 => ?_⟩
      have b6 : (upd H5 p2 (.lst [V.int d', .int x, .int ((i : Int) + 1)])) p2 = some (.lst [V.int d', .int x, .int ((i : Int) + 1)]) := upd_same
      generalize upd H5 p2 (.lst [V.int d', .int x, .int ((i : Int) + 1)]) = H6 at b6 ⊢
      have hlog := log_small hn0 hn1 hm
      -- the exceptions
      refine ⟨_, rfl, n, rfl, hlog, fun H7 p4 as S7 np4 l4 hlen hI hF => ?_⟩
      have b7 := S7 _ _ b6
      refine ⟨_, rfl, p4, _, rfl, SqL.of l4, ?_⟩
      refine ⟨fun j m σ H' => ∃ y5 y6, σ = [some (.ref a), some (.ref p2), some (.int (0 + (i : Int))), some (.int n), some (.ref p4), y5, y6, none, none, none] ∧ j + m = 17 ∧ Same H7 H', ⟨17, y5, y6, rfl, rfl, Same.refl _⟩, fun j m σ H8 hW => ?_⟩
      obtain ⟨z5, z6, rfl, em, S8⟩ := hW
      by_cases hj : j < 17
      · obtain ⟨aj, haj⟩ := list17 hlen hj
        have hsq : SqL K H8 p4 (as.map V.ref) := S8.seq (SqL.of l4)
        refine .inr ⟨⟨_, _, hsq, map_get haj⟩, fun σ' H' => ∃ y5 y6, σ' = [some (.ref a), some (.ref p2), some (.int (0 + (i : Int))), some (.int n), some (.ref p4), y5, y6, none, none, none] ∧ Same H7 H', fun σ' H' hN => ?_, fun v H' hy => ?_⟩
        · obtain ⟨u5, u6, e, S'⟩ := hN
          exact ⟨m - 1, by omega, u5, u6, e, by omega, S'⟩
        · obtain ⟨Tp, x1, rfl, nT, rfl, fx⟩ := hy
          have ex : x1 = .ref aj := Option.some.inj ((fx _ hsq).symm.trans (map_get haj))
          subst ex
          refine ⟨Tp, [.int (j : Nat), .ref aj], rfl, .inl (.inl upd_same), rfl, _, [.ref aj], rfl, _, [], rfl, rfl, ?_⟩
          have S9 : Same H7 (upd H8 Tp (.tup [.int (j : Nat), .ref aj])) := S8.trans (same1 nT)
          have hx9 := isX_mono S9 (hI j aj haj)
          generalize upd H8 Tp (.tup [.int (j : Nat), .ref aj]) = H9 at S9 hx9 ⊢
          -- isinstance twice
          refine ⟨_, rfl, aj, C j, _, _, true, rfl, hx9, T.e j hj, (fun u r => r), T.kitB j hj, true, rfl, iteF ?_⟩
          refine ⟨_, rfl, aj, C j, _, _, true, rfl, hx9, T.e j hj, (fun u r => r), T.kitV j hj, true, rfl, iteF ?_⟩
          -- the classes
          refine ⟨_, rfl, aj, C j, (fun k => decide (j = k)), rfl, hx9, T.e j hj, fun k hk => T.kit j k hj hk, fun H10 p5 S10 np5 l5 => ?_⟩
          have S10' := S9.trans S10
          refine ⟨_, rfl, p4, _, rfl, .inl (S10'.seq (SqL.of l4)), 17, by rw [List.length_map, hlen]; rfl, by decide, by decide, fun D nD => ?_⟩
          refine lc_range (n := 17) (fun k H' => Same H10 H' ∧ H' D = some (.lst ((List.range k).map fun q => V.bl (decide (j = q))))) ⟨same1 nD, upd_same⟩ ?_ ?_
          · rintro k H11 hk ⟨S11, hD⟩
            refine ⟨rfl, ?_⟩
            refine ⟨_, rfl, _, rfl, rfl, _, hD, by rw [List.length_map, List.length_range, sizeLine_eq]; omega, ?_, ?_⟩
            · intro b o e
              by_cases hb : b = D
              · rw [hb, nD] at e; cases e
              · rw [upd_ne hb]; exact S11 b o e
            · rw [upd_same, List.range_succ, List.map_append]
              have e0 : (decide (V.int (0 + (k : Int)) = V.int (j : Int))) = decide (j = k) := by
                by_cases h : j = k
                · subst h; simp
                · rw [decide_eq_false h]
                  refine decide_eq_false fun z => h ?_
                  have z' := V.int.inj z
                  omega
              rw [e0]
              rfl
          · rintro H11 ⟨S11, hD⟩
            refine ⟨dat fun k => decide (j = k), dat fun k => decide (j = k), dp_row (S11 _ _ l5), dp_row hD, sh_dat _, sh_dat _, _, rfl, ?_⟩
            rw [eq_dat]
            exact iteF ⟨_, _, rfl, S10'.trans S11⟩
      · -- behind the inner loop
        refine .inl ⟨⟨_, S8.seq (SqL.of l4), by rw [List.length_map, hlen]; omega⟩, ?_⟩
        have hsq : SqL K H8 p4 (as.map V.ref) := S8.seq (SqL.of l4)
        obtain ⟨a0, e0⟩ := list17 hlen (i := 0) (by decide)
        obtain ⟨a1, e1⟩ := list17 hlen (i := 1) (by decide)
        obtain ⟨a2, e2⟩ := list17 hlen (i := 2) (by decide)
        obtain ⟨a3, e3⟩ := list17 hlen (i := 3) (by decide)
        obtain ⟨a4, e4⟩ := list17 hlen (i := 4) (by decide)
        obtain ⟨d0, g0, h0⟩ := (hF 0 a0 "item" e0 rfl).mono S8
        obtain ⟨d1, g1, h1⟩ := (hF 1 a1 "item" e1 rfl).mono S8
        obtain ⟨d2, g2, h2⟩ := (hF 2 a2 "part" e2 rfl).mono S8
        obtain ⟨d3, g3, h3⟩ := (hF 3 a3 "limit" e3 rfl).mono S8
        obtain ⟨d4, g4, h4⟩ := (hF 4 a4 "count" e4 rfl).mono S8
        refine ⟨_, rfl, p4, _, 0, _, rfl, rfl, hsq, atI_get (i := 0) (map_get e0), a0, d0, C 0, _, _, rfl, g0, h0, lk1 _ _, T.e 0 (by decide), T.nf 0 (by decide) _ (by decide), ?_⟩
        refine ⟨_, rfl, p4, _, 1, _, rfl, rfl, hsq, atI_get (i := 1) (map_get e1), a1, d1, C 1, _, _, rfl, g1, h1, lk1 _ _, T.e 1 (by decide), T.nf 1 (by decide) _ (by decide), ?_⟩
        refine ⟨_, rfl, p4, _, 2, _, rfl, rfl, hsq, atI_get (i := 2) (map_get e2), a2, d2, C 2, _, _, rfl, g2, h2, lk1 _ _, T.e 2 (by decide), T.nf 2 (by decide) _ (by decide), ?_⟩
        refine ⟨_, rfl, p4, _, 3, _, rfl, rfl, hsq, atI_get (i := 3) (map_get e3), a3, d3, C 3, _, _, rfl, g3, h3, lk1 _ _, T.e 3 (by decide), T.nf 3 (by decide) _ (by decide), ?_⟩
        refine ⟨_, rfl, p4, _, 4, _, rfl, rfl, hsq, atI_get (i := 4) (map_get e4), a4, d4, C 4, _, _, rfl, g4, h4, lk1 _ _, T.e 4 (by decide), T.nf 4 (by decide) _ (by decide), ?_⟩
        refine ⟨by show 5 ≤ sizeLine; decide, fun p6 n6 => ?_⟩
        have S9 : Same H8 (upd H8 p6 (.lst [V.int n, .int n, .int n, .int n, .int n])) := same1 n6
        have l6 : (upd H8 p6 (.lst [V.int n, .int n, .int n, .int n, .int n])) p6 = some (.lst [V.int n, .int n, .int n, .int n, .int n]) := upd_same
        generalize upd H8 p6 (.lst [V.int n, .int n, .int n, .int n, .int n]) = H9 at S9 l6 ⊢
        refine ⟨_, rfl, by show 1 ≤ sizeLine; decide, fun p7 n7 => ?_⟩
        have S10 : Same H9 (upd H9 p7 (.lst [V.int n])) := same1 n7
        have l7 : (upd H9 p7 (.lst [V.int n])) p7 = some (.lst [V.int n]) := upd_same
        generalize upd H9 p7 (.lst [V.int n]) = H10 at S10 l7 ⊢
        refine ⟨p7, 5, _, rfl, rfl, l7, by decide, by decide, by show 1 * 5 ≤ sizeLine; decide, fun p8 n8 => ?_⟩
        have S11 := (S9.trans S10).trans (same1 (o := .lst (List.replicate (5 : Int).toNat [V.int n]).flatten) n8)
        refine ⟨.list [.int n, .int n, .int n, .int n, .int n], .list [.int n, .int n, .int n, .int n, .int n], .lst (SqL.of ((S10.trans (same1 n8)) _ _ l6)) (.cons (.int n) (.cons (.int n) (.cons (.int n) (.cons (.int n) (.cons (.int n) .nil))))),
          .lst (SqL.of upd_same) (.cons (.int n) (.cons (.int n) (.cons (.int n) (.cons (.int n) (.cons (.int n) .nil))))), rfl, rfl, _, rfl, ?_⟩
        rw [PySem.SeqAt.eqv_refl _ (SeqAt.canLay_of_shaped rfl)]
        refine iteF ⟨_, _, _, _, _, d', rfl, ?_⟩
        have z := S11 _ _ (S8 _ _ b7)
        rw [z]
        rfl
    · rintro σ H4 ⟨y2, y3, y4, y5, y6, d, rfl, b4⟩
      -- FillError('x')
      refine fun p9 n9 => ?_
      have x9 : IsX (upd H4 p9 (ExO (.ref B) p9)) p9 B := .inl upd_same
      generalize upd H4 p9 (ExO (.ref B) p9) = H5 at x9 ⊢
      refine ⟨.inl rfl, fun a0 d0 na nd ne => ?_⟩
      have S0 : Same H5 _ := same2 (o1 := .xd [("item", V.non)]) (o2 := ExF (C 0) d0 a0) na nd
      obtain ⟨d0', g0, h0⟩ : FAt _ a0 (C 0) "item" V.non := fat_new (H := H5) ne
      generalize upd (upd H5 d0 (.xd [("item", V.non)])) a0 (ExF (C 0) d0 a0) = H6 at S0 g0 h0 ⊢
      refine ⟨a0, d0', C 0, _, _, rfl, g0, h0, lk1 _ _, T.e 0 (by decide), T.nf 0 (by decide) _ (by decide), ?_⟩
      clear na nd ne g0 h0
      refine ⟨.inl rfl, fun a1 d1 na nd ne => ?_⟩
      have S1 : Same H6 _ := same2 (o1 := .xd [("item", V.non)]) (o2 := ExF (C 1) d1 a1) na nd
      obtain ⟨d1', g1, h1⟩ : FAt _ a1 (C 1) "item" V.non := fat_new (H := H6) ne
      generalize upd (upd H6 d1 (.xd [("item", V.non)])) a1 (ExF (C 1) d1 a1) = H7 at S1 g1 h1 ⊢
      refine ⟨a1, d1', C 1, _, _, rfl, g1, h1, lk1 _ _, T.e 1 (by decide), T.nf 1 (by decide) _ (by decide), ?_⟩
      clear na nd ne g1 h1
      refine ⟨.inl rfl, fun a2 d2 na nd ne => ?_⟩
      have S2 : Same H7 _ := same2 (o1 := .xd [("part", V.non)]) (o2 := ExF (C 2) d2 a2) na nd
      obtain ⟨d2', g2, h2⟩ : FAt _ a2 (C 2) "part" V.non := fat_new (H := H7) ne
      generalize upd (upd H7 d2 (.xd [("part", V.non)])) a2 (ExF (C 2) d2 a2) = H8 at S2 g2 h2 ⊢
      refine ⟨a2, d2', C 2, _, _, rfl, g2, h2, lk1 _ _, T.e 2 (by decide), T.nf 2 (by decide) _ (by decide), ?_⟩
      clear na nd ne g2 h2
      refine ⟨by show 3 ≤ sizeLine; decide, fun p6 n6 => ?_⟩
      have S3 : Same H8 (upd H8 p6 (.lst [V.non, V.non, V.non])) := same1 n6
      have l6 : (upd H8 p6 (.lst [V.non, V.non, V.non])) p6 = some (.lst [V.non, V.non, V.non]) := upd_same
      generalize upd H8 p6 (.lst [V.non, V.non, V.non]) = H9 at S3 l6 ⊢
      -- the answer
      refine ⟨_, rfl, by show 1 ≤ sizeLine; decide, fun p7 n7 => ?_⟩
      have S4 : Same H9 (upd H9 p7 (.lst [V.non])) := same1 n7
      have l7 : (upd H9 p7 (.lst [V.non])) p7 = some (.lst [V.non]) := upd_same
      generalize upd H9 p7 (.lst [V.non]) = H10 at S4 l7 ⊢
      refine ⟨p7, 3, _, rfl, rfl, l7, by decide, by decide, by show 1 * 3 ≤ sizeLine; decide, fun p8 n8 => ?_⟩
      have S5 : Same H10 (upd H10 p8 (.lst (List.replicate (3 : Int).toNat [V.non]).flatten)) := same1 n8
      refine ⟨.list [.none, .none, .none], .list [.none, .none, .none], .lst (SqL.of ((S4.trans S5) _ _ l6)) (.cons .non (.cons .non (.cons .non .nil))), .lst (SqL.of upd_same) (.cons .non (.cons .non (.cons .non .nil))), rfl, rfl, _, rfl, ?_⟩
      rw [PySem.SeqAt.eqv_refl _ (SeqAt.canLay_of_shaped rfl)]
      refine iteT ?_
      have SA := ((((S0.trans S1).trans S2).trans S3).trans S4).trans S5
      have xA := isX_mono SA x9
      refine ⟨_, rfl, p9, B, (fun _ => false), rfl, xA, T.eB, fun k hk => T.kitBC k hk, fun H12 p10 S12 np10 l10 => ?_⟩
      refine ⟨p10, _, rfl, .inl (SqL.of l10), rfl, by decide, _, rfl, ?_⟩
      refine iteT ?_
      exact ⟨_, rfl, p9, B, _, _, true, rfl, isX_mono S12 xA, T.eB, (fun u r => r), T.kitBV, q _⟩
end
end K42
set_option Elab.async false
set_option linter.all false
set_option maxRecDepth 100000
set_option maxHeartbeats 4000000
namespace K42
open PySem PySem.Spec PyProof.Rows L2
/-! ### what the top has written -/
def excCB (K : PySem.W.Frag) (D : Addr) : Bool := PySem.W.findIn K (.ref D) "__getattribute__" == some (some (.builtin "BaseException.__getattribute__")) && PySem.W.findIn K (.ref D) "__getattr__" == some none && PySem.W.subIn K (.ref D) (.type "BaseException") == some true &&
  PySem.W.hasDictIn K D && PySem.W.findIn K (.ref D) "__class__" == some (some (.builtin "object.__class__")) && PySem.W.specialIn K (.builtin "object.__class__") "__get__" == some (some (.builtin "getset_descriptor.__get__")) &&
  PySem.W.takesIn K (.builtin "object.__class__") == some true && PySem.W.mroIn K D (.type "object") == some true
theorem excC_of {K : PySem.W.Frag} {D : Addr} (h : excCB K D = true) : ExcC K D := by
  simp only [excCB, Bool.and_eq_true, beq_iff_eq] at h
  obtain ⟨⟨⟨⟨⟨⟨⟨h1, h2⟩, h3⟩, h4⟩, h5⟩, h6⟩, h7⟩, h8⟩ := h
  exact ⟨h1, h2, h3, h4, h5, h6, h7, h8⟩
def plainB (K : PySem.W.Frag) (D : Addr) : Bool := PySem.W.excIn K D bmV "ValueError.__new__" && PySem.W.keepIn K (.ref D)
def fieldB (K : PySem.W.Frag) (D I : Addr) (fld : Str) : Bool := PySem.W.findIn K (.ref D) "__setattr__" == some (some (.builtin "object.__setattr__")) && PySem.W.findIn K (.ref D) fld == some none && PySem.W.findIn K (.ref D) "__init__" == some (some (.ref I)) &&
  PySem.W.typeIn K (.ref I) == some (.type "function") && PySem.W.keepIn K (.ref D) && PySem.W.subIn K (.ref D) (.type "ValueError") == some true && PySem.W.mroIn K D (.ref D) == some true && PySem.W.nsIn K cStatics "thirdparty.any" == some none
def allB (K : PySem.W.Frag) (B : Addr) (Cs : List Addr) : Bool :=
  excCB K B && plainB K B && PySem.W.kitOne K (.ref B) (.type "ValueError") == some true &&
  (List.range 17).all fun i => excCB K (Cs.getD i 0) && PySem.W.kitOne K (.ref (Cs.getD i 0)) (.ref B) == some true && PySem.W.kitOne K (.ref (Cs.getD i 0)) (.type "ValueError") == some true && PySem.W.kitOne K (.ref B) (.ref (Cs.getD i 0)) == some false &&
    ((["item", "part", "limit", "count"] : List Str).all fun fld => PySem.W.findIn K (.ref (Cs.getD i 0)) fld == some none) && (decide (i < 5) || plainB K (Cs.getD i 0)) &&
    (List.range 17).all fun j => PySem.W.kitOne K (.ref (Cs.getD i 0)) (.ref (Cs.getD j 0)) == some (decide (i = j))
structure AllB (K : PySem.W.Frag) (B : Addr) (Cs : List Addr) : Prop where
  eB : ExcC K B
  pB : plainB K B = true
  kBV : PySem.W.kitOne K (.ref B) (.type "ValueError") = some true
  e : ∀ i, i < 17 → ExcC K (Cs.getD i 0)
  kB : ∀ i, i < 17 → PySem.W.kitOne K (.ref (Cs.getD i 0)) (.ref B) = some true
  kV : ∀ i, i < 17 → PySem.W.kitOne K (.ref (Cs.getD i 0)) (.type "ValueError") = some true
  kBC : ∀ i, i < 17 → PySem.W.kitOne K (.ref B) (.ref (Cs.getD i 0)) = some false
  nf : ∀ i, i < 17 → ∀ fld ∈ (["item", "part", "limit", "count"] : List Str), PySem.W.findIn K (.ref (Cs.getD i 0)) fld = some none
  pl : ∀ i, i < 17 → 5 ≤ i → plainB K (Cs.getD i 0) = true
  k : ∀ i j, i < 17 → j < 17 → PySem.W.kitOne K (.ref (Cs.getD i 0)) (.ref (Cs.getD j 0)) = some (decide (i = j))
theorem allB_of {K : PySem.W.Frag} {B : Addr} {Cs : List Addr} (h : allB K B Cs = true) : AllB K B Cs := by
  unfold allB at h
  simp only [Bool.and_eq_true, beq_iff_eq, List.all_eq_true, List.mem_range, Bool.or_eq_true, decide_eq_true_eq] at h
  obtain ⟨⟨⟨h1, h2⟩, h3⟩, h4⟩ := h
  exact ⟨excC_of h1, h2, h3, fun i hi => excC_of (h4 i hi).1.1.1.1.1.1, fun i hi => (h4 i hi).1.1.1.1.1.2, fun i hi => (h4 i hi).1.1.1.1.2, fun i hi => (h4 i hi).1.1.1.2, fun i hi => (h4 i hi).1.1.2,
    fun i hi h5 => (h4 i hi).1.2.resolve_left (by omega), fun i j hi hj => (h4 i hi).2 j hj⟩
open PySem.W PySem.HandSPX in
theorem fld_mk {P : Program} {K : Frag} {mg : Str → Option Value} {h : Heap} {cname fld a : Str} {tl : List PySem.Expr} {C I : Addr} (X : K.In h) (G : h.Ns mainGlobals mg) (nm : PySem.FX.FldName fld) (gC : nsIn K mainGlobals cname = some (some (.ref C)))
    {nm' q : Str} {N : Addr} {bs bm : List Value} {sn : List Str} {sub : List Value} {ab : Bool} {col : Option Bool} {dd : Option Addr} {k0 k1 k2 k3 k5 : Option Value}
    (xl : K.lookup C = some (excClassObj nm' q C N bs bm true sn sub ab col dd k0 k1 k2 k3 k5 "ValueError.__new__")) (rf : refsVE bm = true) (al : alongIn K "__init__" bm = some (some (.builtin "ValueError.__init__")))
    (_ic : findIn K (.ref C) "__init__" = some (some (.ref I))) (fb : fieldB K C I fld = true) (sp : nsIn K mainGlobals "super" = some none) (htl : PySem.FX.Tl tl) (ha : a.length ≤ 1000) (top : (P.main.scope.names.lookup ("super" : Str)).isSome = false)
    {qual : Str} {oc : Value} {od : Option Addr} {doc pm : Value} {an : Option Addr} {cda cc : Addr} {ct : Value} {osl : Array (Option Value)} {r1 r2 p0 p1 p2 p3 p4 p5 p6 p7 p8 q1 q2 q3 q4 : Pos} {j : Nat}
    (l : K.lookup I = some ⟨oc, od, .func (ksFn "__init__" qual (PySem.FX.fA fld r1 r2) (PySem.FX.fB fld a tl p0 p1 p2 p3 p4 p5 p6 p7 p8 q1 q2 q3 q4 j) (PySem.FX.fS fld) .none .none doc pm an (.ref cda) ct cc), osl⟩) (cd : codeIn K (.ref cda) qual = true)
    {ccl : Value} {cdd : Option Addr} {vs : Array Value} {ccs : Array (Option Value)} {file : Str} {tf : Tok} (hc : K.lookup cda = some ⟨ccl, cdd, .fields vs, ccs⟩) (hv : vs[2]? = some (.str file tf)) (hf : ((P.main.file : Str) == file) = true)
    {cl : Value} {cld : Option Addr} {csl : Array (Option Value)} (hcell : K.lookup cc = some ⟨cl, cld, .cell (some (.ref C)), csl⟩) (ev : PySem.FX.EvOk qual fld a tl p0 p1 p2 p3 p4 p6 p7 p8 j (.ref cda) cc) :
    PySem.FX.FldTxt P K mg cname fld a tl C I := by
  simp only [fieldB, Bool.and_eq_true, beq_iff_eq] at fb
  obtain ⟨⟨⟨⟨⟨⟨⟨h1, h2⟩, h3⟩, h4⟩, h5⟩, h6⟩, h7⟩, h8⟩ := fb
  exact ⟨nm, mg_of X G gC, ⟨_, _, _, _, _, _, _, _, _, _, _, _, _, _, _, xl, rf, al⟩, h1, h2, h3, h4, h5, h6, h7, h8, mg_none_of X G sp, htl, ha, top, ⟨_, _, _, _, _, _, _, _, _, _, _, _, _, _, _, _, _, _, _, _, _, _, _, _, _, _, l, cd, ⟨_, _, _, _, _, _, hc, hv, hf⟩, ⟨_, _, _, hcell⟩, ev⟩⟩
section
variable {P : Program} {w : World} {K : PySem.W.Frag} {mg : Str → Option Value} {h : Heap}
theorem txt_mk {B : Addr} {c0 c1 c2 c3 c4 c5 c6 c7 c8 c9 c10 c11 c12 c13 c14 c15 c16 : Addr} {i0 i1 i2 i3 i4 : Addr} (X : K.In h) (G : h.Ns mainGlobals mg) (ab : allB K B [c0, c1, c2, c3, c4, c5, c6, c7, c8, c9, c10, c11, c12, c13, c14, c15, c16] = true) (gB : PySem.W.nsIn K mainGlobals "FillError" = some (some (.ref B)))
    (f0 : PySem.FX.FldTxt P K mg "InvalidZones" "item" "no valid zones, wrong item: " [] c0 i0)
    (f1 : PySem.FX.FldTxt P K mg "InvalidPlaces" "item" "no valid places, wrong item: " [] c1 i1)
    (f2 : PySem.FX.FldTxt P K mg "InvalidText" "part" "no text of a system, wrong part: " [] c2 i2)
    (f3 : PySem.FX.FldTxt P K mg "TooLarge" "limit" "more than " [.Constant (.str " items") 0 ⟨22, 44, 22, 50⟩] c3 i3)
    (f4 : PySem.FX.FldTxt P K mg "OverRoom" "count" "a room of " [.Constant (.str " is over the budget") 0 ⟨27, 44, 27, 63⟩] c4 i4)
    (g5 : PySem.W.nsIn K mainGlobals "InvalidBorders" = some (some (.ref c5)))
    (g6 : PySem.W.nsIn K mainGlobals "InvalidSystem" = some (some (.ref c6)))
    (g7 : PySem.W.nsIn K mainGlobals "InvalidUnknown" = some (some (.ref c7)))
    (g8 : PySem.W.nsIn K mainGlobals "InvalidSpan" = some (some (.ref c8)))
    (g9 : PySem.W.nsIn K mainGlobals "InvalidNumber" = some (some (.ref c9)))
    (g10 : PySem.W.nsIn K mainGlobals "InvalidBudget" = some (some (.ref c10)))
    (g11 : PySem.W.nsIn K mainGlobals "UnlikeSystems" = some (some (.ref c11)))
    (g12 : PySem.W.nsIn K mainGlobals "Bordered" = some (some (.ref c12)))
    (g13 : PySem.W.nsIn K mainGlobals "NotCoupled" = some (some (.ref c13)))
    (g14 : PySem.W.nsIn K mainGlobals "InvalidOperation" = some (some (.ref c14)))
    (g15 : PySem.W.nsIn K mainGlobals "Nothing" = some (some (.ref c15)))
    (g16 : PySem.W.nsIn K mainGlobals "InvalidCommand" = some (some (.ref c16)))
    (is : PySem.W.nsIn K mainGlobals "isinstance" = some none) : Txt P K mg B (fun i => [c0, c1, c2, c3, c4, c5, c6, c7, c8, c9, c10, c11, c12, c13, c14, c15, c16].getD i 0) (fun i => [i0, i1, i2, i3, i4].getD i 0) := by
  have A := allB_of ab
  have p2 : ∀ {D : Addr}, plainB K D = true → PySem.W.excIn K D bmV "ValueError.__new__" = true ∧ PySem.W.keepIn K (.ref D) = true := fun h => by simpa only [plainB, Bool.and_eq_true] using h
  exact ⟨f0, f1, f2, f3, f4, (p2 (A.pl 5 (by decide) (by decide))).1, PySem.W.mg_of X G g5, (p2 (A.pl 5 (by decide) (by decide))).2, (p2 (A.pl 6 (by decide) (by decide))).1, PySem.W.mg_of X G g6, (p2 (A.pl 6 (by decide) (by decide))).2, (p2 (A.pl 7 (by decide) (by decide))).1, PySem.W.mg_of X G g7, (p2 (A.pl 7 (by decide) (by decide))).2, (p2 (A.pl 8 (by decide) (by decide))).1, PySem.W.mg_of X G g8, (p2 (A.pl 8 (by decide) (by decide))).2, (p2 (A.pl 9 (by decide) (by decide))).1, PySem.W.mg_of X G g9, (p2 (A.pl 9 (by decide) (by decide))).2, (p2 (A.pl 10 (by decide) (by decide))).1, PySem.W.mg_of X G g10, (p2 (A.pl 10 (by decide) (by decide))).2, (p2 (A.pl 11 (by decide) (by decide))).1, PySem.W.mg_of X G g11, (p2 (A.pl 11 (by decide) (by decide))).2, (p2 (A.pl 12 (by decide) (by decide))).1, PySem.W.mg_of X G g12, (p2 (A.pl 12 (by decide) (by decide))).2, (p2 (A.pl 13 (by decide) (by decide))).1, PySem.W.mg_of X G g13, (p2 (A.pl 13 (by decide) (by decide))).2, (p2 (A.pl 14 (by decide) (by decide))).1, PySem.W.mg_of X G g14, (p2 (A.pl 14 (by decide) (by decide))).2, (p2 (A.pl 15 (by decide) (by decide))).1, PySem.W.mg_of X G g15, (p2 (A.pl 15 (by decide) (by decide))).2, (p2 (A.pl 16 (by decide) (by decide))).1, PySem.W.mg_of X G g16, (p2 (A.pl 16 (by decide) (by decide))).2, (p2 A.pB).1, PySem.W.mg_of X G gB, (p2 A.pB).2, A.e, A.eB, A.nf, A.k, A.kB, A.kV, A.kBC, A.kBV, PySem.W.mg_none_of X G is⟩
theorem all_mk {B : Addr} {C I : Nat → Addr} {fa : Addr} {f1 f2 f3 f4 f5 : Addr} (X : K.In h) (G : h.Ns mainGlobals mg) (hfa : mg "law" = some (.ref fa)) (T : Txt P K mg B C I)
    {od1 an1 od2 an2 od3 an3 od4 an4 od5 an5 : Option Addr} {sl1 sl2 sl3 sl4 sl5 : Array (Option Value)} {oc1 kV1 dc1 pm1 cd1 ct1 oc2 kV2 dc2 pm2 cd2 ct2 oc3 kV3 dc3 pm3 cd3 ct3 oc4 kV4 dc4 pm4 cd4 ct4 oc5 kV5 dc5 pm5 cd5 ct5 : Value}
    (a1 : PySem.W.nsIn K mainGlobals "_law_bag" = some (some (.ref f1))) (l1 : K.lookup f1 = some ⟨oc1, od1, .func (PySem.W.fnOf "_law_bag" "_law_bag" (defArgs sBag) (defBody sBag) (defScope sBag) .none kV1 dc1 pm1 an1 cd1 ct1), sl1⟩) (d1 : PySem.W.codeIn K cd1 "_law_bag" = true) (k1 : PySem.W.keepIn K (.ref f1) = true)
    (a2 : PySem.W.nsIn K mainGlobals "_law_pick" = some (some (.ref f2))) (l2 : K.lookup f2 = some ⟨oc2, od2, .func (PySem.W.fnOf "_law_pick" "_law_pick" (defArgs sPick) (defBody sPick) (defScope sPick) .none kV2 dc2 pm2 an2 cd2 ct2), sl2⟩) (d2 : PySem.W.codeIn K cd2 "_law_pick" = true) (k2 : PySem.W.keepIn K (.ref f2) = true)
    (a3 : PySem.W.nsIn K mainGlobals "_law_made" = some (some (.ref f3))) (l3 : K.lookup f3 = some ⟨oc3, od3, .func (PySem.W.fnOf "_law_made" "_law_made" (defArgs sMade) (defBody sMade) (defScope sMade) .none kV3 dc3 pm3 an3 cd3 ct3), sl3⟩) (d3 : PySem.W.codeIn K cd3 "_law_made" = true) (k3 : PySem.W.keepIn K (.ref f3) = true)
    (a4 : PySem.W.nsIn K mainGlobals "_law_classes" = some (some (.ref f4))) (l4 : K.lookup f4 = some ⟨oc4, od4, .func (PySem.W.fnOf "_law_classes" "_law_classes" (defArgs sCls) (defBody sCls) (defScope sCls) .none kV4 dc4 pm4 an4 cd4 ct4), sl4⟩) (d4 : PySem.W.codeIn K cd4 "_law_classes" = true) (k4 : PySem.W.keepIn K (.ref f4) = true)
    (a5 : PySem.W.nsIn K mainGlobals "law" = some (some (.ref f5))) (l5 : K.lookup f5 = some ⟨oc5, od5, .func (PySem.W.fnOf "law" "law" (defArgs sLaw) (defBody sLaw) (defScope sLaw) .none kV5 dc5 pm5 an5 cd5 ct5), sl5⟩) (d5 : PySem.W.codeIn K cd5 "law" = true) (k5 : PySem.W.keepIn K (.ref f5) = true)
    (zm : PySem.W.nsIn K mainGlobals "max" = some none) (zi : PySem.W.nsIn K mainGlobals "int" = some none) (zr : PySem.W.nsIn K mainGlobals "range" = some none) (ze : PySem.W.nsIn K mainGlobals "enumerate" = some none) (zl : PySem.W.nsIn K mainGlobals "len" = some none) (zv : PySem.W.nsIn K mainGlobals "ValueError" = some none) :
    ∃ fd : FuncData, (∀ (s : Shared) (v : Value), BindsTo s fd ⟨[v], []⟩ [("_law_script", v)]) ∧ ∀ base : Heap, K.In base → base.Ns mainGlobals mg → FnOk P w K mg base CX0 2 fa fd ["_law_script"] (spLaw K) := by
  have e := hfa.symm.trans (PySem.W.mg_of X G a5)
  cases e
  have F1 := fun_mk (st := sBag) l1 d1 k1
  have F2 := fun_mk (st := sPick) l2 d2 k2
  have F3 := fun_mk (st := sMade) l3 d3 k3
  have F4 := fun_mk (st := sCls) l4 d4 k4
  have F5 := fun_mk (st := sLaw) l5 d5 k5
  have b1 := F1.binds (ps := ["_law_cell"]) fun _ _ _ _ _ _ us hl => match us, hl with | [_], _ => rfl
  have b2 := F2.binds (ps := ["_law_bag_here", "_law_many"]) fun _ _ _ _ _ _ us hl => match us, hl with | [_, _], _ => rfl
  have b3 := F3.binds (ps := ["_law_number"]) fun _ _ _ _ _ _ us hl => match us, hl with | [_], _ => rfl
  have b4 := F4.binds (ps := ["_law_one"]) fun _ _ _ _ _ _ us hl => match us, hl with | [_], _ => rfl
  exact ⟨PySem.W.fnOf "law" "law" (defArgs sLaw) (defBody sLaw) (defScope sLaw) .none kV5 dc5 pm5 an5 cd5 ct5, fun s v => .of_eq rfl, fun base _ _ => ok_law F5 T
    ⟨ok_bag F1 (PySem.W.mg_none_of X G zm), ok_pick F2 (PySem.W.mg_none_of X G zi), ok_made F3 T, ok_cls F4 T, PySem.W.mg_of X G a1, PySem.W.mg_of X G a2, PySem.W.mg_of X G a3, PySem.W.mg_of X G a4, F1.kp, F2.kp, F3.kp, F4.kp, b1, b2, b3, b4,
      PySem.W.mg_none_of X G zr, PySem.W.mg_none_of X G ze, PySem.W.mg_none_of X G zl, PySem.W.mg_none_of X G zv⟩⟩
end
end K42
set_option Elab.async false
set_option linter.all false
set_option maxRecDepth 100000
open PySem PySem.W PyProof.Rows
set_option maxHeartbeats 0 in
theorem PySem.Challenge.cw_fillbands_k42_errors_made_holds : PySem.Challenge.rw_fillbands_k42_errors_made.Holds := by
  w_on; o_law; k_head; (case hw => w_witness2)
  k_fill
  refine L2.walk_of (l := PySem.Challenge.rw_fillbands_k42_errors_made) (n := 63) (k := 2) (x := "_law_script") (CX := fun _ => L2.CX0) (sp := fun w => K42.spLaw _) rfl (by decide) rfl ⟨rfl, by decide, by decide⟩ (fun w h Y => PySem.W.kIn_of Y) ?F (fun _ _ a ns hl _ hS => ⟨a, ns, rfl, hS, hl, fun _ => rfl⟩) (fun _ _ _ _ _ h => h)
  case F =>
    intro w mg fa h KX G hmg
    refine' K42.all_mk KX G hmg (K42.txt_mk KX G ?ab ?gB (K42.fld_mk KX G PySem.FX.fld_item (r1 := ⟨6, 17, 6, 21⟩) (r2 := ⟨6, 23, 6, 27⟩) (p0 := ⟨7, 8, 7, 13⟩) (p1 := ⟨7, 8, 7, 15⟩) (p2 := ⟨7, 8, 7, 24⟩) (p3 := ⟨7, 25, 7, 62⟩) (p4 := ⟨7, 8, 7, 63⟩) (p5 := ⟨7, 8, 7, 63⟩) (p6 := ⟨7, 27, 7, 55⟩) (p7 := ⟨7, 56, 7, 60⟩) (p8 := ⟨7, 55, 7, 61⟩) (q1 := ⟨8, 8, 8, 12⟩) (q2 := ⟨8, 8, 8, 17⟩) (q3 := ⟨8, 20, 8, 24⟩) (q4 := ⟨8, 8, 8, 24⟩) (j := 0) ?gc0 ?xl0 ?rf0 ?al0 ?ic0 ?fb0 ?sp0 ?tl0 ?ha0 ?tp0 ?ll0 ?cd0 ?hc0 ?hv0 ?hf0 ?ce0 ?ev0)
      (K42.fld_mk KX G PySem.FX.fld_item (r1 := ⟨11, 17, 11, 21⟩) (r2 := ⟨11, 23, 11, 27⟩) (p0 := ⟨12, 8, 12, 13⟩) (p1 := ⟨12, 8, 12, 15⟩) (p2 := ⟨12, 8, 12, 24⟩) (p3 := ⟨12, 25, 12, 63⟩) (p4 := ⟨12, 8, 12, 64⟩) (p5 := ⟨12, 8, 12, 64⟩) (p6 := ⟨12, 27, 12, 56⟩) (p7 := ⟨12, 57, 12, 61⟩) (p8 := ⟨12, 56, 12, 62⟩) (q1 := ⟨13, 8, 13, 12⟩) (q2 := ⟨13, 8, 13, 17⟩) (q3 := ⟨13, 20, 13, 24⟩) (q4 := ⟨13, 8, 13, 24⟩) (j := 0) ?gc1 ?xl1 ?rf1 ?al1 ?ic1 ?fb1 ?sp1 ?tl1 ?ha1 ?tp1 ?ll1 ?cd1 ?hc1 ?hv1 ?hf1 ?ce1 ?ev1)
      (K42.fld_mk KX G PySem.FX.fld_part (r1 := ⟨16, 17, 16, 21⟩) (r2 := ⟨16, 23, 16, 27⟩) (p0 := ⟨17, 8, 17, 13⟩) (p1 := ⟨17, 8, 17, 15⟩) (p2 := ⟨17, 8, 17, 24⟩) (p3 := ⟨17, 25, 17, 67⟩) (p4 := ⟨17, 8, 17, 68⟩) (p5 := ⟨17, 8, 17, 68⟩) (p6 := ⟨17, 27, 17, 60⟩) (p7 := ⟨17, 61, 17, 65⟩) (p8 := ⟨17, 60, 17, 66⟩) (q1 := ⟨18, 8, 18, 12⟩) (q2 := ⟨18, 8, 18, 17⟩) (q3 := ⟨18, 20, 18, 24⟩) (q4 := ⟨18, 8, 18, 24⟩) (j := 0) ?gc2 ?xl2 ?rf2 ?al2 ?ic2 ?fb2 ?sp2 ?tl2 ?ha2 ?tp2 ?ll2 ?cd2 ?hc2 ?hv2 ?hf2 ?ce2 ?ev2)
      (K42.fld_mk KX G PySem.FX.fld_limit (r1 := ⟨21, 17, 21, 21⟩) (r2 := ⟨21, 23, 21, 28⟩) (p0 := ⟨22, 8, 22, 13⟩) (p1 := ⟨22, 8, 22, 15⟩) (p2 := ⟨22, 8, 22, 24⟩) (p3 := ⟨22, 25, 22, 51⟩) (p4 := ⟨22, 8, 22, 52⟩) (p5 := ⟨22, 8, 22, 52⟩) (p6 := ⟨22, 27, 22, 37⟩) (p7 := ⟨22, 38, 22, 43⟩) (p8 := ⟨22, 37, 22, 44⟩) (q1 := ⟨23, 8, 23, 12⟩) (q2 := ⟨23, 8, 23, 18⟩) (q3 := ⟨23, 21, 23, 26⟩) (q4 := ⟨23, 8, 23, 26⟩) (j := 0) ?gc3 ?xl3 ?rf3 ?al3 ?ic3 ?fb3 ?sp3 ?tl3 ?ha3 ?tp3 ?ll3 ?cd3 ?hc3 ?hv3 ?hf3 ?ce3 ?ev3)
      (K42.fld_mk KX G PySem.FX.fld_count (r1 := ⟨26, 17, 26, 21⟩) (r2 := ⟨26, 23, 26, 28⟩) (p0 := ⟨27, 8, 27, 13⟩) (p1 := ⟨27, 8, 27, 15⟩) (p2 := ⟨27, 8, 27, 24⟩) (p3 := ⟨27, 25, 27, 64⟩) (p4 := ⟨27, 8, 27, 65⟩) (p5 := ⟨27, 8, 27, 65⟩) (p6 := ⟨27, 27, 27, 37⟩) (p7 := ⟨27, 38, 27, 43⟩) (p8 := ⟨27, 37, 27, 44⟩) (q1 := ⟨28, 8, 28, 12⟩) (q2 := ⟨28, 8, 28, 18⟩) (q3 := ⟨28, 21, 28, 26⟩) (q4 := ⟨28, 8, 28, 26⟩) (j := 0) ?gc4 ?xl4 ?rf4 ?al4 ?ic4 ?fb4 ?sp4 ?tl4 ?ha4 ?tp4 ?ll4 ?cd4 ?hc4 ?hv4 ?hf4 ?ce4 ?ev4) ?g5 ?g6 ?g7 ?g8 ?g9 ?g10 ?g11 ?g12 ?g13 ?g14 ?g15 ?g16 ?is) ?a1 ?l1 ?d1 ?k1 ?a2 ?l2 ?d2 ?k2 ?a3 ?l3 ?d3 ?k3 ?a4 ?l4 ?d4 ?k4 ?a5 ?l5 ?d5 ?k5 ?zm ?zi ?zr ?ze ?zl ?zv
    (case gc0 => k_is); (case xl0 => k_is); (case rf0 => rfl); (case ic0 => k_is); (case ll0 => k_is); (case cd0 => k_is); (case hc0 => k_is); (case hv0 => rfl); (case ce0 => k_is); (case sp0 => k_is)
    (case gc1 => k_is); (case xl1 => k_is); (case rf1 => rfl); (case ic1 => k_is); (case ll1 => k_is); (case cd1 => k_is); (case hc1 => k_is); (case hv1 => rfl); (case ce1 => k_is); (case sp1 => k_is)
    (case gc2 => k_is); (case xl2 => k_is); (case rf2 => rfl); (case ic2 => k_is); (case ll2 => k_is); (case cd2 => k_is); (case hc2 => k_is); (case hv2 => rfl); (case ce2 => k_is); (case sp2 => k_is)
    (case gc3 => k_is); (case xl3 => k_is); (case rf3 => rfl); (case ic3 => k_is); (case ll3 => k_is); (case cd3 => k_is); (case hc3 => k_is); (case hv3 => rfl); (case ce3 => k_is); (case sp3 => k_is)
    (case gc4 => k_is); (case xl4 => k_is); (case rf4 => rfl); (case ic4 => k_is); (case ll4 => k_is); (case cd4 => k_is); (case hc4 => k_is); (case hv4 => rfl); (case ce4 => k_is); (case sp4 => k_is)
    (case gB => k_is); (case g5 => k_is); (case g6 => k_is); (case g7 => k_is); (case g8 => k_is); (case g9 => k_is); (case g10 => k_is); (case g11 => k_is); (case g12 => k_is); (case g13 => k_is); (case g14 => k_is); (case g15 => k_is); (case g16 => k_is)
    (case is => k_is); (case zm => k_is); (case zi => k_is); (case zr => k_is); (case ze => k_is); (case zl => k_is); (case zv => k_is)
    (case a1 => k_is); (case l1 => k_is); (case d1 => k_is); (case k1 => k_is)
    (case a2 => k_is); (case l2 => k_is); (case d2 => k_is); (case k2 => k_is)
    (case a3 => k_is); (case l3 => k_is); (case d3 => k_is); (case k3 => k_is)
    (case a4 => k_is); (case l4 => k_is); (case d4 => k_is); (case k4 => k_is)
    (case a5 => k_is); (case l5 => k_is); (case d5 => k_is); (case k5 => k_is)
    (case al0 => kernel_rfl); (case fb0 => kernel_rfl); (case tl0 => first | exact .nil | exact .one _ _ _ (by decide)); (case ha0 => decide); (case tp0 => first | rfl | kernel_rfl); (case hf0 => first | rfl | kernel_rfl); (case ev0 => exact fun L f => ⟨_, rfl⟩)
    (case al1 => kernel_rfl); (case fb1 => kernel_rfl); (case tl1 => first | exact .nil | exact .one _ _ _ (by decide)); (case ha1 => decide); (case tp1 => first | rfl | kernel_rfl); (case hf1 => first | rfl | kernel_rfl); (case ev1 => exact fun L f => ⟨_, rfl⟩)
    (case al2 => kernel_rfl); (case fb2 => kernel_rfl); (case tl2 => first | exact .nil | exact .one _ _ _ (by decide)); (case ha2 => decide); (case tp2 => first | rfl | kernel_rfl); (case hf2 => first | rfl | kernel_rfl); (case ev2 => exact fun L f => ⟨_, rfl⟩)
    (case al3 => kernel_rfl); (case fb3 => kernel_rfl); (case tl3 => first | exact .nil | exact .one _ _ _ (by decide)); (case ha3 => decide); (case tp3 => first | rfl | kernel_rfl); (case hf3 => first | rfl | kernel_rfl); (case ev3 => exact fun L f => ⟨_, rfl⟩)
    (case al4 => kernel_rfl); (case fb4 => kernel_rfl); (case tl4 => first | exact .nil | exact .one _ _ _ (by decide)); (case ha4 => decide); (case tp4 => first | rfl | kernel_rfl); (case hf4 => first | rfl | kernel_rfl); (case ev4 => exact fun L f => ⟨_, rfl⟩)
    (case ab => kernel_rfl)
