import PyProof.Rows.All
import Wide.All
import OpenK.AllK
import Wide.FinOn
import PyProof.EqAt
import PyProof.EqKinds
import PyProof.TupleCall
import HandS.ForMost
import HandS.ForExc
import HandS.RaiseMore
import HandS.FStr
import HandS.IsInst
import HandS.ExcIs
import HandS.Wide
import HandS.Flow
import HandS.Conv
import HandS.Evl
import HandS.TupAny
import HandS.Style
import HandS.ExcCtx
import HandS.HotCalls
import PyProof.ZipIter
import HandS.Zip
import HandS.Property
import HandS.AnyAll
import HandS.GenOver
import HandS.JoinGen
import HandS.Lambda
import HandS.EndOwn
import HandS.EndTab
import HandS.Walk
import HandS.Star
import HandS.TupLen
import HandS.TupMul
import HandS.Rev
import HandS.SortInts
import HandS.ExcInit
import HandS.Nested
import HandS.ExcField
import KE.KExcSuper
import KE.KSuper
import KE.RegKSuper
import KE.GoesEnum
import HandS.Strs
import HandS.WordsDict
import PySem.Challenge.RW_scanpages_k12_least_diff
set_option Elab.async false
set_option linter.all false
set_option maxRecDepth 100000
set_option maxHeartbeats 4000000
/-! Cm: what all our proofs share -/
namespace Cm
open PySem PySem.Spec PyProof.Rows L2

/-! ### defs of the module, and what they promise -/
/-- the def x stands at some address behind the top -/
def Dn (K : PySem.W.Frag) (mg : Str → Option Value) (x : Str) (st : Stmt) (ps : List Str) : Prop :=
  ∃ (f : Addr) (fd : FuncData), Fun K x x st f fd ∧ mg x = some (.ref f) ∧ Binds K fd ps []
/-- the def x keeps the promise sp -/
def Ok (P : Program) (w : World) (K : PySem.W.Frag) (mg : Str → Option Value) (base : Heap) (CX : CXT) (k : Nat) (x : Str) (ps : List Str) (sp : Sp) : Prop :=
  ∃ (f : Addr) (fd : FuncData), FnOk P w K mg base CX k f fd ps sp ∧ mg x = some (.ref f) ∧ PySem.W.keepIn K (.ref f) = true ∧ Binds K fd ps []
theorem ok_of {P : Program} {w : World} {K : PySem.W.Frag} {mg : Str → Option Value} {base : Heap} {CX : CXT} {k : Nat} {x : Str} {st : Stmt} {ps : List Str} {sp : Sp} (d : Dn K mg x st ps)
    (h : ∀ f fd, Fun K x x st f fd → FnOk P w K mg base CX k f fd ps sp) : Ok P w K mg base CX k x ps sp := by
  obtain ⟨f, fd, F, g, b⟩ := d
  exact ⟨f, fd, h f fd F, g, F.kp, b⟩
section
variable {X : Cx} {CX : CXT} {k : Nat} {ps : List Str} {sp : Sp} {E : XK} {x : Str} {p pos : Pos} {e : Expr} {es : List Expr} {t : TA}
theorem pe_callO (G : Ok X.prog X.w X.K X.mg X.base CX k x ps sp) (hr : Room k X.A) (hx : Passes CX X E) (ha : PA X (e :: es) t) (hg : Gl X x := by rfl)
    (hdb : (x == ("__debug__" : Str)) = false := by decide) (he : starEach (e :: es) X.env = (false, eval e X.env) :: starEach es X.env := by rfl) (hpl : (backTo pos (starEach es X.env)).any (·.1) = false := by rfl) :
    PE X (.Call (.Name x p) (e :: es) [] pos) (tCall sp [] E t) := by
  obtain ⟨f, fd, F, g, kp, b⟩ := G
  exact pe_call F hr hg g kp b .nil hx ha hdb he hpl
theorem pe_callO0 (G : Ok X.prog X.w X.K X.mg X.base CX k x ps sp) (hr : Room k X.A) (hx : Passes CX X E) (hg : Gl X x := by rfl) (hdb : (x == ("__debug__" : Str)) = false := by decide) :
    PE X (.Call (.Name x p) [] [] pos) (tCall sp [] E tNil) := by
  obtain ⟨f, fd, F, g, kp, b⟩ := G
  exact pe_call0 F hr hg g kp b .nil hx hdb
theorem pe_callT {Es : L2.St → XK} (G : Ok X.prog X.w X.K X.mg X.base CX k x ps sp) (hr : Room k X.A) (hx : ∀ σ, PassesAt CX X σ (Es σ)) (ha : PA X (e :: es) t) (hg : Gl X x := by rfl)
    (hdb : (x == ("__debug__" : Str)) = false := by decide) (he : starEach (e :: es) X.env = (false, eval e X.env) :: starEach es X.env := by rfl) (hpl : (backTo pos (starEach es X.env)).any (·.1) = false := by rfl) :
    PE X (.Call (.Name x p) (e :: es) [] pos) (tCallS sp Es t) := by
  obtain ⟨f, fd, F, g, kp, b⟩ := G
  exact pe_callS F hr hg g kp b hx ha hdb he hpl
end
/-! ### errors: raised where nothing is handled -/
/-- what leaves a def: L2N's way -/
abbrev CXN (P : Program) (w : World) : CXT := L2N.CX P w
theorem passN {X : Cx} : Passes (CXN X.prog X.w) X E0 := fun _ _ _ _ _ _ _ h => by
  obtain ⟨_, _, _, _, _, _, _, _, _, _, _, _, z⟩ := h
  exact z.elim
theorem takesN {X : Cx} : L2N.Takes X (fun _ _ _ _ => False) := fun _ _ x => by
  obtain ⟨_, _, _, _, _, _, _, _, _, _, _, _, _, _, _, _, z⟩ := x
  exact z.elim
theorem passX {X : Cx} {E E' : XK} (tk : L2N.Takes X (fun cls d _ H => E cls d H)) (h : ∀ cls d H, E' cls d H → E cls d H) : Passes (CXN X.prog X.w) X E' := fun pins σ H s e s' I c => tk e s' (L2N.XE.of_call I (fun cls d H' q => h cls d H' q) c)
theorem okN {P : Program} {w : World} {K : PySem.W.Frag} {mg : Str → Option Value} {base : Heap} {x qual : Str} {st : Stmt} {f : Addr} {fd : FuncData} {N ps : List Str} {k : Nat} {sp : Sp} (F : Fun K x qual st f fd) (S : FnScope N ps (defScope st)) (len : ∀ vs H Q E, sp vs H Q E → vs.length = ps.length)
    (hbody : ∀ (cdv : Value) (A : Around) (outer : List Env) (s : Shared) (H : Hp) (vs : List V) (Q : VK) (E : XK), Room k (A.deeper (envOfC qual (defScope st) s.heap.objs.size f cdv)) → sp vs H Q E →
      ∃ t, PSs (cxOf (CXN P w) P w K mg base N qual (defScope st) f cdv A outer s H E) (defBody st) t ∧ t { nx := fun _ H' => Q .non H', rt := Q } (L2.start N vs) H) : FnOk P w K mg base (CXN P w) (k + 1) f fd ps sp := by
  obtain ⟨oc, od, kV, doc, pm, an, cdv, ct, osl, rfl, lk, hcd⟩ := F.ex
  exact fn_of lk hcd S len fun A outer s H vs Q E hr hsp => hbody cdv A outer s H vs Q E hr hsp
section
variable {X : Cx}
/-- X(e) -/
theorem pmk_own1 {C : Addr} {bmB : List Value} {B newId initId : String} {x : Str} {e : Expr} {ta : TE} {p pos : Pos} (F : ExcBaseFacts B newId initId bmB) (q : PySem.W.excIn X.K C bmB newId = true) (gC : X.mg x = some (.ref C)) (kC : PySem.W.keepIn X.K (.ref C) = true) (r : Raises X (.ref C)) (hg : Gl X x)
    (he : PE X e ta) (hs : starEach [e] X.env = (false, eval e X.env) :: starEach [] X.env := by rfl) (hdb : (x == ("__debug__" : Str)) = false := by decide) :
    L2N.PMk X (.Call (.Name x p) [e] [] pos) (fun σ H Q => ta σ H fun _ H1 => Q (.ref C) none H1) := by
  intro pins s σ H Q I h
  refine wpAny_Call_Name_kw (ld_glob I hg gC ?_ hdb)
  refine PySem.W.callWith_K (h₀ := X.base) I.ok.mod.kin kC ?_ hs (by rfl)
  rw [hs]
  show wpAny _ _ (spliced ((false, eval e X.env) :: backTo pos (starEach [] X.env))) _ _ s
  refine Calls.spliced_cons (thn (he.run pins s σ H _ I h) fun u s1 ⟨v, H1, I1, r1, q1⟩ => ?_)
  refine Calls.spliced_nil ⟨I1.kIn, ?_⟩
  show wpAny _ _ (call (.ref C) [u]) _ _ _
  obtain ⟨bm, N, nm, qn, bs, hdct, sn, sub, ab, col, dd, k0, k1, k2, k3, k5, mN, hC, hN, hni, T⟩ := exc_obj I1.kIn q
  refine wpAny_call_exc_subT F T hC hN hni (fun h' e hm => ?_) (by show 1 ≤ sizeLine; rw [sizeLine_eq]; omega)
  exact L2N.mk_of I1 hm r q1 (I1.hok.gone hm.new)
end
/-! ### defs called within an except suite -/
def OkH (P : Program) (w : World) (K : PySem.W.Frag) (mg : Str → Option Value) (base : Heap) (CX : CXT) (k : Nat) (x : Str) (ps : List Str) (sp : Sp) : Prop :=
  ∃ (f : Addr) (fd : FuncData), L2H.FnH P w K mg base CX k f fd ps sp ∧ mg x = some (.ref f) ∧ PySem.W.keepIn K (.ref f) = true ∧ Binds K fd ps []
theorem okH_of {P : Program} {w : World} {K : PySem.W.Frag} {mg : Str → Option Value} {base : Heap} {k : Nat} {x : Str} {st : Stmt} {N ps : List Str} {sp : Sp} (d : Dn K mg x st ps) (S : FnScope N ps (defScope st)) (len : ∀ vs H Q E, sp vs H Q E → vs.length = ps.length)
    (hbody : ∀ (f : Addr) (cdv : Value) (A : Around) (outer : List Env) (s : Shared) (H : Hp) (vs : List V) (Q : VK) (E : XK) (p : Addr × Obj), L2H.Hot1 A p → L2H.RoomH k (A.deeper (envOfC x (defScope st) s.heap.objs.size f cdv)) → sp vs H Q E →
      ∃ t, PSs (L2H.cxH CX0 P w K mg base N x (defScope st) f cdv A outer s H E p) (defBody st) t ∧ t { nx := fun _ H' => Q .non H', rt := Q } (L2.start N vs) H) : OkH P w K mg base CX0 (k + 1) x ps sp := by
  obtain ⟨f, fd, F, g, b⟩ := d
  refine ⟨f, fd, ?_, g, F.kp, b⟩
  obtain ⟨oc, od, kV, doc, pm, an, cdv, ct, osl, rfl, lk, hcd⟩ := F.ex
  exact L2H.fn_ofH lk hcd S len fun A outer s H vs Q E p hot hr hsp => hbody f cdv A outer s H vs Q E p hot hr hsp
section
variable {X : Cx} {k : Nat} {ps : List Str} {sp : Sp} {x : Str} {p pos : Pos} {e : Expr} {es : List Expr} {t : TA}
theorem pe_callHO (G : OkH X.prog X.w X.K X.mg X.base CX0 k x ps sp) (hr : L2H.RoomH k X.A) (hc : L2H.HotC X) (ha : PA X (e :: es) t) (hg : Gl X x := by rfl)
    (hdb : (x == ("__debug__" : Str)) = false := by decide) (he : starEach (e :: es) X.env = (false, eval e X.env) :: starEach es X.env := by rfl) (hpl : (backTo pos (starEach es X.env)).any (·.1) = false := by rfl) :
    PE X (.Call (.Name x p) (e :: es) [] pos) (tCallS sp (fun _ => E0) t) := by
  obtain ⟨f, fd, F, g, kp, b⟩ := G
  exact L2H.pe_callH F hr hc hg g kp b (fun _ _ _ _ _ _ _ h => h.elim) ha hdb he hpl
theorem roomS {k j : Nat} {A : Around} {h : Option Value} (hr : Room k A) (hj : j ≤ k) : L2H.RoomH j (A.mark h) := L2H.RoomH.mono (k := k) ⟨hr.dp, hr.un⟩ hj
theorem hotS {a : Addr} {oe : Obj} {cls : Value} {d : Option Addr} {pn : List (Addr × Obj)} (hz : L2N.Zn cls d oe) (hf : ∃ vs, oe.data = .fields vs) : L2H.HotC (X.suite a ((a, oe) :: pn)) := by
  obtain ⟨vs, e⟩ := hf
  exact ⟨(a, oe), ⟨rfl, vs, e, hz.2.2 vs e⟩, List.mem_cons_self⟩
end
/-! ### names of the module -/
/-- the name x of the module holds v -/
def CV (mg : Str → Option Value) (x : Str) (v : V) : Prop := ∃ u, mg x = some u ∧ RelV v u
theorem pe_globC {X : Cx} {x : Str} {v : V} {pos : Pos} (hg : Gl X x) (h : CV X.mg x v) (hd : (x == ("__debug__" : Str)) = false := by decide) : PE X (.Name x pos) (tC v) := by
  obtain ⟨u, hm, r⟩ := h
  exact pe_glob hg hm r hd
theorem pe_globR {X : Cx} {x : Str} {a : Addr} {pos : Pos} (hg : Gl X x) (h : X.mg x = some (.ref a)) (hd : (x == ("__debug__" : Str)) = false := by decide) : PE X (.Name x pos) (tC (.ref a)) := pe_glob hg h rfl hd
/-! ### tests -/
theorem itd {p A B : Prop} [Decidable p] (h1 : p → A) (h2 : ¬ p → B) : if decide p = true then A else B := by
  by_cases h : p
  · rw [if_pos (decide_eq_true h)]
    exact h1 h
  · rw [if_neg (by simp [h])]
    exact h2 h
theorem itb {b : Bool} {A B : Prop} (h1 : b = true → A) (h2 : b = false → B) : if b = true then A else B := by
  cases b with
  | true => exact iteT (h1 rfl)
  | false => exact iteF (h2 rfl)
/-! ### error classes -/
/-- an error class that may have an own __init__ -/
structure XB (K : PySem.W.Frag) (mg : Str → Option Value) (x : Str) (C : Addr) : Prop where
  g : mg x = some (.ref C)
  k : PySem.W.keepIn K (.ref C) = true
  b : PySem.W.subIn K (.ref C) (.type "BaseException") = some true
  t : PySem.W.typeIn K (.ref C) = some (.type "type")
  d : PySem.W.hasDictIn K C = true
  i : PySem.W.isClsIn K C = true
/-- an error class without an own __init__ -/
structure XCl (K : PySem.W.Frag) (mg : Str → Option Value) (x : Str) (C : Addr) : Prop extends XB K mg x C where
  x : PySem.W.excIn K C [.type "ValueError", .type "Exception", .type "BaseException", .type "object"] "ValueError.__new__" = true
  e : ExcC K C
section
variable {K : PySem.W.Frag} {h : Heap} {mg : Str → Option Value} {x : Str} {C : Addr}
theorem xb_mk (X : K.In h) (G : h.Ns mainGlobals mg) (a : PySem.W.nsIn K mainGlobals x = some (some (.ref C))) (k : PySem.W.keepIn K (.ref C) = true) (b : PySem.W.subIn K (.ref C) (.type "BaseException") = some true)
    (t : PySem.W.typeIn K (.ref C) = some (.type "type")) (d : PySem.W.hasDictIn K C = true) (i : PySem.W.isClsIn K C = true) : XB K mg x C := ⟨PySem.W.mg_of X G a, k, b, t, d, i⟩
theorem xcl_mk (X : K.In h) (G : h.Ns mainGlobals mg) (a : PySem.W.nsIn K mainGlobals x = some (some (.ref C)))
    (q : PySem.W.excIn K C [.type "ValueError", .type "Exception", .type "BaseException", .type "object"] "ValueError.__new__" = true) (k : PySem.W.keepIn K (.ref C) = true)
    (b : PySem.W.subIn K (.ref C) (.type "BaseException") = some true) (t : PySem.W.typeIn K (.ref C) = some (.type "type"))
    (hg : PySem.W.findIn K (.ref C) "__getattribute__" = some (some (.builtin "BaseException.__getattribute__"))) (hk : PySem.W.findIn K (.ref C) "__getattr__" = some none) (hd : PySem.W.hasDictIn K C = true)
    (ha : PySem.W.findIn K (.ref C) "__class__" = some (some (.builtin "object.__class__"))) (hn : PySem.W.specialIn K (.builtin "object.__class__") "__get__" = some (some (.builtin "getset_descriptor.__get__")))
    (ht : PySem.W.takesIn K (.builtin "object.__class__") = some true) (hm : PySem.W.mroIn K C (.type "object") = some true) (i : PySem.W.isClsIn K C = true) : XCl K mg x C :=
  ⟨⟨PySem.W.mg_of X G a, k, b, t, hd, i⟩, q, ⟨hg, hk, b, hd, ha, hn, ht, hm⟩⟩
/-- isinstance of an own class -/
theorem kit_own {D : Addr} {r : Bool} (i : PySem.W.isClsIn K C = true) (t : PySem.W.typeIn K (.ref C) = some (.type "type")) (s : PySem.W.subIn K (.ref D) (.ref C) = some r) (hne : (Value.ref D == Value.ref C) = true → r = true) :
    PySem.W.kitOne K (.ref D) (.ref C) = some r := by
  unfold PySem.W.kitOne
  cases e : (Value.ref D == Value.ref C) with
  | true => rw [if_pos rfl, hne e]
  | false =>
    rw [if_neg Bool.false_ne_true]
    have h2 : ((PySem.W.clsIn K C).isSome && PySem.W.typeIn K (.ref C) == some (.type "type")) = true := by
      have h2' : (PySem.W.clsIn K C).isSome = true := i
      rw [h2', t] <;> rfl
    show (if ((PySem.W.clsIn K C).isSome && PySem.W.typeIn K (.ref C) == some (.type "type")) = true then PySem.W.subIn K (.ref D) (.ref C) else none) = some r
    rw [if_pos h2, s]
theorem kit_ve {D : Addr} (s : PySem.W.subIn K (.ref D) (.type "ValueError") = some true) : PySem.W.kitOne K (.ref D) (.type "ValueError") = some true := by
  have e : (Value.ref D == Value.type "ValueError") = false := rfl
  unfold PySem.W.kitOne
  rw [e, if_neg Bool.false_ne_true]
  show (if PySem.W.kitMeta "ValueError" = true then PySem.W.subIn K (.ref D) (.type "ValueError") else none) = some true
  rw [if_pos (by decide +kernel), s]
/-- except C takes an error of the class at D -/
theorem exm_own {D : Addr} {r : Bool} {y : Str} (c : XB K mg y C) (s : PySem.W.subIn K (.ref D) (.ref C) = some r) : PySem.W.exmOne K (.ref D) (.ref C) = some r := PySem.W.exm_ref c.b c.d c.t s
/-! ### the facts of the top -/
theorem dn_mk {st : Stmt} {ps : List Str} {f : Addr} {oc : Value} {od an : Option Addr} {osl : Array (Option Value)} {kV doc pm cdv ct : Value} (X : K.In h) (G : h.Ns mainGlobals mg) (a : PySem.W.nsIn K mainGlobals x = some (some (.ref f)))
    (l : K.lookup f = some ⟨oc, od, .func (PySem.W.fnOf x x (defArgs st) (defBody st) (defScope st) .none kV doc pm an cdv ct), osl⟩) (c : PySem.W.codeIn K cdv x = true) (k : PySem.W.keepIn K (.ref f) = true)
    (hb : ∀ (kV doc pm : Value) (an : Option Addr) (cdv ct : Value) (us : List Value), us.length = ps.length → bindArgs (PySem.W.fnOf x x (defArgs st) (defBody st) (defScope st) .none kV doc pm an cdv ct) ⟨us, []⟩ = pure (ps.zip us)) : Dn K mg x st ps :=
  ⟨f, _, fun_mk l c k, PySem.W.mg_of X G a, (fun_mk l c k).binds hb⟩
theorem cv_int {i : Int} {t : Tok} (X : K.In h) (G : h.Ns mainGlobals mg) (a : PySem.W.nsIn K mainGlobals x = some (some (.int i t))) : CV mg x (.int i) := ⟨_, PySem.W.mg_of X G a, _, rfl⟩
theorem cv_str {i : Str} {t : Tok} (X : K.In h) (G : h.Ns mainGlobals mg) (a : PySem.W.nsIn K mainGlobals x = some (some (.str i t))) : CV mg x (.str i) := ⟨_, PySem.W.mg_of X G a, _, rfl⟩
theorem cv_bl {i : Bool} (X : K.In h) (G : h.Ns mainGlobals mg) (a : PySem.W.nsIn K mainGlobals x = some (some (.bool i))) : CV mg x (.bl i) := ⟨_, PySem.W.mg_of X G a, rfl⟩
/-- the name x of the module holds a tuple of the written part -/
def CT (K : PySem.W.Frag) (mg : Str → Option Value) (x : Str) (xs : List V) : Prop := ∃ p, mg x = some (.ref p) ∧ ∀ H, SqT K H p xs
theorem ct_mk {p : Addr} {od : Option Addr} {its : Array Value} {n : Nat} {sl : Array (Option Value)} {xs : List V} (X : K.In h) (G : h.Ns mainGlobals mg) (a : PySem.W.nsIn K mainGlobals x = some (some (.ref p)))
    (l : K.lookup p = some ⟨.type "tuple", od, .seq its n, sl⟩) (hs : its.size ≤ sizeLine) (hv : Vals xs its.toList) : CT K mg x xs :=
  ⟨p, PySem.W.mg_of X G a, fun _ => .inr ⟨_, its, n, l, rfl, rfl, hs, hv⟩⟩
end
theorem pe_globT {X : Cx} {x : Str} {xs : List V} {pos : Pos} (hg : Gl X x) (h : CT X.K X.mg x xs) (hd : (x == ("__debug__" : Str)) = false := by decide) :
    PE X (.Name x pos) (fun _ H Q => ∀ p, (∀ H', SqT X.K H' p xs) → Q (.ref p) H) := by
  obtain ⟨p, hm, hs⟩ := h
  exact ⟨fun pins s σ H Q I h => (pe_glob hg hm (v := .ref p) rfl hd).run pins s σ H Q I (h p hs)⟩
/-! ### a suite that is read for known errors alone -/
theorem pss_guard {X : Cx} {st : List Stmt} {p : Prop} {t : TS} (h : p → PSs X st t) : PSs X st (fun D σ H => p ∧ t D σ H) :=
  ⟨fun pins s σ H D I q => (h q.1).run pins s σ H D I q.2⟩
theorem to_true {Q : VK} {b : Bool} {H : Hp} (h : b = true) (q : Q (.bl true) H) : Q (.bl b) H := h ▸ q
/-- a new object at p stays the only one that changes -/
theorem same_new {H H' : Hp} {p : Addr} {o : HO} (e : Same H H') (hp : H p = none) : Same H (upd H' p o) := Evl.Ex.mut e hp
theorem same_upd {H : Hp} {p : Addr} {o : HO} (hp : H p = none) : Same H (upd H p o) := Evl.Ex.new hp
theorem tyx_list {K : PySem.W.Frag} {H : Hp} {a : Addr} {xs : List V} (h : SqL K H a xs) : TyX K H (.ref a) (.type "list") := by
  rcases h with (h | ⟨o, h⟩) | ⟨o, its, n, h, hc, _⟩
  · exact .base (.lst h)
  · exact .base (.frz h)
  · exact .kList h hc
theorem tyx_tuple {K : PySem.W.Frag} {H : Hp} {a : Addr} {xs : List V} (h : SqT K H a xs) : TyX K H (.ref a) (.type "tuple") := by
  rcases h with (h | ⟨o, h⟩) | ⟨o, its, n, h, hc, _⟩
  · exact .base (.tup h)
  · exact .fTuple h
  · exact .kTuple h hc
theorem small {n : Nat} (h : n ≤ 100000) : n < sizeLine := Nat.lt_of_le_of_lt h (by decide)
theorem smallE {n : Nat} (h : n ≤ 100000) : n ≤ sizeLine := Nat.le_trans h (by decide)
/-- for .. in enumerate(list) -/
theorem for_enum {K : PySem.W.Frag} {a : Addr} {xs : List V} {g : TG} {tb : TS} {D : Ends} {σ : L2.St} {H : Hp} (Pv : Nat → L2.St → Hp → Prop) (h0 : Pv 0 σ H) (hl : ∀ i σ H, i ≤ xs.length → Pv i σ H → SqL K H a xs)
    (hs : ∀ i x T σ H, xs[i]? = some x → Pv i σ H → H T = none → g (.ref T) σ (upd H T (.tup [.int (i : Nat), x])) fun σ2 H2 => tb { D with nx := Pv (i + 1), ct := Pv (i + 1), bk := D.nx } σ2 H2) (hd : ∀ σ H, Pv xs.length σ H → D.nx σ H) :
    ∃ W : Nat → Nat → L2.St → Hp → Prop, (∃ m, W 0 m σ H) ∧ ∀ i m σ H, W i m σ H →
      ((Ite K a).stop i H ∧ D.nx σ H) ∨ ((Ite K a).go i H ∧ ∃ N : L2.St → Hp → Prop, (∀ σ' H', N σ' H' → ∃ m', m' < m ∧ W (i + 1) m' σ' H') ∧ ∀ x H', (Ite K a).yld i H x H' → g x σ H' fun σ2 H2 => tb { D with nx := N, ct := N, bk := D.nx } σ2 H2) := by
  refine ⟨fun i m σ H => m = xs.length - i ∧ i ≤ xs.length ∧ Pv i σ H, ⟨xs.length, by simp, Nat.zero_le _, h0⟩, ?_⟩
  rintro i m σ H ⟨rfl, hi, p⟩
  have q := hl i σ H hi p
  by_cases hlt : i < xs.length
  · refine .inr ⟨⟨xs, xs[i], q, by simp [hlt]⟩, Pv (i + 1), fun σ' H' p' => ⟨xs.length - (i + 1), by omega, rfl, hlt, p'⟩, fun x H' y => ?_⟩
    obtain ⟨T, z, rfl, hT, rfl, y⟩ := y
    exact hs i z T σ H (y xs q) p hT
  · have e : i = xs.length := by omega
    subst e
    exact .inl ⟨⟨xs, q, Nat.le_refl _⟩, hd σ H p⟩
/-- an item of a list by a number that is told -/
theorem at_nat {α : Type} {xs : List α} {i : Int} {j : Nat} {v : α} (e : i = (j : Int)) (h : xs[j]? = some v) : atI xs i = some v := e ▸ atI_nat h
theorem ix_nat {n j : Nat} {i : Int} (e : i = (j : Int)) (h : j < n) : ixN n i = some j := e ▸ Evl.ixN_nat h
/-! ### rules whose reading names the written part by itself (for the bodies and suites of a try) -/
def rLenK (K : PySem.W.Frag) : List V → Hp → VK → Prop := fun xs H Q => ∃ p ys, xs = [.ref p] ∧ (SqL K H p ys ∨ SqT K H p ys) ∧ Q (.int ys.length) H
theorem call_lenK {X : Cx} {K : PySem.W.Frag} (h : X.K = K := by rfl) : CallR X (.builtin "len") (rLenK K) := by
  subst h
  exact call_len_seq
theorem op_eqDK {X : Cx} {K : PySem.W.Frag} (hu : X.A.units + 64 < cLine) (h : X.K = K := by rfl) : OpR X (compareOp .Eq) (rEqD K) := by
  subst h
  exact op_eqD hu
theorem op_neDK {X : Cx} {K : PySem.W.Frag} (hu : X.A.units + 64 < cLine) (h : X.K = K := by rfl) : OpR X (compareOp .NotEq) (rNeD K) := by
  subst h
  exact op_neD hu
theorem call_isiK' {X : Cx} {K : PySem.W.Frag} (h : X.K = K := by rfl) : CallR X (.builtin "isinstance") (rIsi K) := by
  subst h
  exact call_isi
def rListK (K : PySem.W.Frag) : List V → Hp → VK → Prop := fun xs H Q => ∃ p ys, xs = [.ref p] ∧ (SqL K H p ys ∨ SqT K H p ys) ∧ ∀ l, H l = none → Q (.ref l) (upd H l (.lst ys))
theorem call_list_ofK {X : Cx} {K : PySem.W.Frag} (h : X.K = K := by rfl) : CallR X (.type "list") (rListK K) := by
  subst h
  exact call_list_of
theorem sl_listK {X : Cx} {K : PySem.W.Frag} (h : X.K = K := by rfl) : SlR X (rSlL K) := by
  subst h
  exact sl_list
/-! ### slices -/
theorem sIx_nat {n k : Nat} (d : Nat) (h : k ≤ n) : HT.sIx n d (some (k : Int)) = k := by
  simp only [HT.sIx]
  split <;> omega
theorem cut_to {xs : List V} {k : Nat} (h : k ≤ xs.length) : cutV xs none (some (k : Int)) = xs.take k := by
  unfold cutV
  rw [sIx_nat _ h]
  simp [HT.sIx]
theorem cut_from {xs : List V} {k : Nat} (h : k ≤ xs.length) : cutV xs (some (k : Int)) none = xs.drop k := by
  unfold cutV
  rw [sIx_nat _ h]
  simp only [HT.sIx]
  rw [List.take_of_length_le (by rw [List.length_drop]; omega)]
theorem cut_mid {xs : List V} {j k : Nat} (h1 : j ≤ k) (h : k ≤ xs.length) : cutV xs (some (j : Int)) (some (k : Int)) = (xs.drop j).take (k - j) := by
  unfold cutV
  rw [sIx_nat _ h, sIx_nat _ (Nat.le_trans h1 h)]
/-! ### data -/
mutual
theorem dp_mono {K : PySem.W.Frag} {H H' : Hp} (e : Same H H') : ∀ {d : PyData} {v : V}, Dp K H v d → Dp K H' v d
  | _, _, .non => .non
  | _, _, .bl b => .bl b
  | _, _, .int i => .int i
  | _, _, .str x => .str x
  | _, _, .lst h r => .lst (e.seq h) (dpAll_mono e r)
  | _, _, .tup h r => .tup (Evl.ex_t e h) (dpAll_mono e r)
theorem dpAll_mono {K : PySem.W.Frag} {H H' : Hp} (e : Same H H') : ∀ {ds : List PyData} {vs : List V}, DpAll K H vs ds → DpAll K H' vs ds
  | _, _, .nil => .nil
  | _, _, .cons h r => .cons (dp_mono e h) (dpAll_mono e r)
end
theorem dp_ints {K : PySem.W.Frag} {H : Hp} : ∀ (ns : List Int), DpAll K H (ns.map V.int) (ns.map PyData.int)
  | [] => .nil
  | n :: ns => .cons (.int n) (dp_ints ns)
theorem canLayAll_ints : ∀ (ns : List Int), PyData.canLayAll0 (ns.map PyData.int) = true
  | [] => rfl
  | n :: ns => by simp [PyData.canLayAll0, PyData.canLay0, canLayAll_ints ns]
theorem depthAll_ints : ∀ (ns : List Int), PyData.depthAll (ns.map PyData.int) = 0
  | [] => rfl
  | n :: ns => by simp [PyData.depthAll, PyData.depth, depthAll_ints ns]
theorem shaped_ints (ns : List Int) : SeqAt.shaped (.list (ns.map PyData.int)) = true := by
  simp [SeqAt.shaped, PyData.canLay0, PyData.depth, canLayAll_ints, depthAll_ints]
theorem eqvAll_ints : ∀ (ns ms : List Int), PyData.eqvAll (ns.map PyData.int) (ms.map PyData.int) = decide (ns = ms)
  | [], [] => by simp [PyData.eqvAll]
  | [], m :: ms => by simp [PyData.eqvAll]
  | n :: ns, [] => by simp [PyData.eqvAll]
  | n :: ns, m :: ms => by
    by_cases h : n = m <;> simp [PyData.eqvAll, PyData.eqv, eqvAll_ints ns ms, h]
theorem eqv_ints (ns ms : List Int) : PyData.eqv (.list (ns.map PyData.int)) (.list (ms.map PyData.int)) = decide (ns = ms) := by
  rw [PyData.eqv]
  exact eqvAll_ints ns ms
theorem shaped_pair (as bs : List Int) : SeqAt.shaped (.tuple [.list (as.map PyData.int), .list (bs.map PyData.int)]) = true := by
  simp [SeqAt.shaped, PyData.canLay0, PyData.canLayAll0, PyData.depth, PyData.depthAll, canLayAll_ints, depthAll_ints]
theorem eqv_refl' {d : PyData} (h : SeqAt.shaped d = true) : PyData.eqv d d = true := SeqAt.eqv_refl _ (SeqAt.canLay_of_shaped h)
theorem dp_list {K : PySem.W.Frag} {H : Hp} {a : Addr} {ns : List Int} (h : SqL K H a (ns.map V.int)) : Dp K H (.ref a) (.list (ns.map PyData.int)) := .lst h (dp_ints ns)
theorem get_ints {ns : List Int} {i : Nat} {y : V} (h : (ns.map V.int)[i]? = some y) : ∃ (hi : i < ns.length), y = V.int ns[i] := by
  rw [List.getElem?_map] at h
  by_cases hi : i < ns.length
  · rw [List.getElem?_eq_getElem hi] at h
    exact ⟨hi, (Option.some.inj h).symm⟩
  · rw [List.getElem?_eq_none (Nat.le_of_not_lt hi)] at h
    cases h
theorem take_snoc {α : Type} {l : List α} {i : Nat} (hi : i < l.length) : l.take (i + 1) = l.take i ++ [l[i]] := by
  rw [List.take_add_one, List.getElem?_eq_getElem hi]
  rfl
/-! ### the script's cells -/
def cell (ns : List Int) (k : Nat) : Int := ns.getD k 0
theorem cell_in {ns : List Int} {k : Nat} (hk : k < ns.length) : cell ns k = ns[k] := by simp [cell, List.getD_eq_getElem?_getD, List.getElem?_eq_getElem hk]
theorem cell_out {ns : List Int} {k : Nat} (hk : ¬ k < ns.length) : cell ns k = 0 := by simp [cell, List.getD_eq_getElem?_getD, List.getElem?_eq_none (Nat.le_of_not_lt hk)]
end Cm

/-! ### a generator expression that is used up at once: its body is read in a frame of its own, over the maker's abstract heap -/
namespace GX
open PySem PySem.Spec PyProof.Rows L2 Cm
open Sem (wp)
/-- the names of the generator's frame: the maker's slots, then more -/
abbrev gEnv (X : Cx) (scope : Scope) (C : Addr) (code : Value) : Env := genEnv scope (cloFrom X.env.cells scope.names []) C code builtinsNs X.env
/-- where the generator's body stands: entered at s4 -/
def gCx (X : Cx) (scope : Scope) (code : Value) (fp : List Addr) (s4 : Shared) (H4 : Hp) (B : Around) (ext : List Str) : Cx where
  prog := X.prog
  w := X.w
  K := X.K
  mg := X.mg
  base := X.base
  A := B
  N := X.N ++ ext
  s_0 := s4
  H_0 := H4
  env := gEnv X scope s4.heap.objs.size code
  outer := X.stack
  stack := gEnv X scope s4.heap.objs.size code :: X.stack
  ex := fp
  fn := fun _ => false
  calm := true
  pn := []
  xe := fun _ _ => False
/-- the slots that the body begins with -/
def gS (σ : L2.St) (own : List (Str × Nat)) (ext : List Str) : L2.St := wipe (σ ++ ext.map fun _ => none) (own.map (·.2))
/-- what the text of the expression has -/
structure GOk (N : List Str) (sc scope : Scope) (own : List (Str × Nat)) (ext : List Str) : Prop where
  nd : (N ++ ext).Nodup
  blk : BlkOk (N ++ ext) sc scope own
  co : scope.isCoroutine = false
  cell : ∀ y ∈ scope.names, y.2 ≠ .cell
  dot : scope.names.lookup (".0" : Str) = some NameKind.local
theorem wipe_keeps {σ : L2.St} : ∀ {vs : List Nat} {i : Nat} {v : V}, (wipe σ vs)[i]? = some (some v) → σ[i]? = some (some v) ∧ i ∉ vs
  | [], _, _, h => ⟨h, by simp⟩
  | j :: vs, i, v, h => by
    rw [wipe] at h
    by_cases e : j = i
    · subst e
      rw [List.getElem?_set_self'] at h
      cases q : (wipe σ vs)[j]? with
      | none => rw [q] at h; cases h
      | some u => rw [q] at h; cases h
    · rw [List.getElem?_set_ne e] at h
      obtain ⟨a, b⟩ := wipe_keeps h
      exact ⟨a, by simp only [List.mem_cons, not_or]; exact ⟨fun z => e z.symm, b⟩⟩
section
variable {X : Cx} {pins : List (Addr × Obj)} {σ : L2.St} {H4 H : Hp} {s4 s : Shared} {scope : Scope} {own : List (Str × Nat)} {ext : List Str} {code : Value} {fp : List Addr} {B : Around}
theorem cells_of (ok : ∀ y ∈ scope.names, y.2 = .free → ∃ c, X.env.cells.lookup y.1 = some c) {y : Str} {c : Addr} (e : (cloFrom X.env.cells scope.names []).lookup y = some c) : X.env.cells.lookup y = some c := by
  rcases cloFrom_mem (PySem.mem_of_lookup e) with q | ⟨q, r⟩
  · cases q
  · obtain ⟨c1, hc⟩ := ok _ q rfl
    have hc' : X.env.cells.lookup y = some c1 := hc
    rw [hc'] at r
    rw [hc', r]
    rfl
theorem cells_to {y : Str} (hl : scope.names.lookup y = some .free) : ∃ c, (cloFrom X.env.cells scope.names []).lookup y = some c :=
  mem_lookup (cloFrom_has (cells := X.env.cells) (acc := []) (PySem.mem_of_lookup hl))
theorem free_cells (I : Inv X pins σ H4 s4) (G : GOk X.N X.env.scope scope own ext) : ∀ y ∈ scope.names, y.2 = .free → ∃ c, X.env.cells.lookup y.1 = some c := fun y hy e => by
  rcases G.blk.free y hy e with k | k
  · exact I.ok.has _ (.inl k)
  · exact I.ok.has _ (.inr k)
/-- the body's frame over the maker's heap, at any later state -/
theorem gx_inv (I : Inv X pins σ H4 s4) (G : GOk X.N X.env.scope scope own ext) (hf : ∀ b ∈ fp, FpOk X pins H4 b) (hB : B.frames = some (gEnv X scope s4.heap.objs.size code :: X.stack)) (hh : B.handled = none)
    (os : s.os = s4.os) (bare : AllBare s.gens) (un : Un (frs X.stack) fp H4 H s4.heap s.heap) (hok : HOk X.prog X.w H s.heap) (hns : ∃ m, s.heap.Ns s4.heap.objs.size m) (hC : H s4.heap.objs.size = none) (lt : ∀ b ∈ fp, b < s4.heap.objs.size)
    {ps : List (Addr × Obj)} (hps : ∀ p ∈ ps, s.heap.get? p.1 = some p.2 ∧ H p.1 = none ∧ p.1 ≠ s4.heap.objs.size ∧ p.1 ∉ frs X.stack ∧ ∀ v, p.2.data ≠ .cell v) :
    Inv (gCx X scope code fp s4 H4 B ext) ps (gS σ own ext) H s := by
  have fc := free_cells I G
  have cm : ∀ {y c}, (cloFrom X.env.cells scope.names []).lookup y = some c → X.env.cells.lookup y = some c := fun {y c} e => cells_of fc e
  have e0 := I.env0
  have nfp : ∀ {y c}, X.env.cells.lookup y = some c → c ∉ fp := fun {y c} e z => (hf c z).2.2.2.2.1 y c e rfl
  have cellK : ∀ {y c v}, X.env.cells.lookup y = some c → s4.heap.IsCell c v → s.heap.IsCell c v := fun {y c v} e ⟨o, ho, hd⟩ => by
    obtain ⟨sl, q⟩ := un.any ho (I.freeC y c e) (nfp e)
    exact ⟨_, q, hd⟩
  have hfp : ∀ b ∈ fp, b ∉ frs X.stack := fun b hb z => by
    rcases List.mem_cons.mp (I.stkSub _ z) with e | e
    · exact (hf b hb).2.1 e
    · exact (hf b hb).2.2.1 e
  have hbase : ∀ b o, X.base.get? b = some o → b ∉ fp := fun b o e z => by
    rcases (hf b z).2.2.2.1 with q | q
    · exact I.ok.noex b o e q
    · exact absurd (Nat.lt_of_lt_of_le (Heap.lt_size e) (Nat.le_trans I.ok.bsz q)) (Nat.lt_irrefl _)
  obtain ⟨m, hm⟩ := hns
  refine ⟨⟨e0.mod, G.blk.kind, I.ok.glob, rfl, Nat.le_refl _, fun y z c e1 e2 => I.ok.inj y z c (cm e1) (cm e2), fun y hy => ?_, fun _ _ z _ => ?_, fun _ => hh, hB, .inr ⟨rfl, rfl⟩, fun b hb => ⟨Nat.ne_of_lt (lt b hb), fun y c e => fun z => nfp (cm e) (z ▸ hb)⟩, e0.bs, e0.bsz, hbase, hfp, e0.funs, e0.frf⟩,
    os, bare, un, ⟨m, hm, fun i y v e1 e2 e3 => ?_⟩, fun y c e => ?_, hC, fun y c e => ?_, fun q hq => ?_, hok, ?_⟩
  · have hy' : scope.names.lookup y = some .cell ∨ scope.names.lookup y = some .free := hy
    rcases hy' with hy' | hy'
    · exact absurd rfl (G.cell _ (PySem.mem_of_lookup hy'))
    · exact cells_to hy'
  · exact absurd (show false = true from z) (by decide)
  · have e1' : (X.N ++ ext)[i]? = some y := e1
    obtain ⟨q1, q2⟩ := wipe_keeps e2
    have e3' : Vis scope y := e3
    have own_no : scope.names.lookup y = some .local ∨ scope.names.lookup y = some .cell → False := fun k => by
      have hy : (y, NameKind.local) ∈ scope.names ∨ (y, NameKind.cell) ∈ scope.names := k.elim (fun k => .inl (PySem.mem_of_lookup k)) fun k => .inr (PySem.mem_of_lookup k)
      have own_or : y ∈ own.map (·.1) ∨ y ∉ X.N ++ ext := hy.elim (fun k => G.blk.own _ k (.inl rfl)) fun k => G.blk.own _ k (.inr rfl)
      rcases own_or with z | z
      · obtain ⟨p, hp, ep⟩ := List.mem_map.mp z
        have ei := G.blk.ix p hp
        rw [ep] at ei
        have : p.2 = i := nodup_ix G.nd ei e1'
        exact q2 (List.mem_map.mpr ⟨p, hp, this⟩)
      · exact z (List.mem_of_getElem? e1')
    have hfree : scope.names.lookup y = some .free := by
      rcases e3' with k | k | k
      · exact (own_no (.inl k)).elim
      · exact (own_no (.inr k)).elim
      · exact k
    have hi : i < σ.length := by
      by_cases hi : i < σ.length
      · exact hi
      · rw [List.getElem?_append_right (Nat.le_of_not_lt hi), List.getElem?_map] at q1
        cases q : ext[i - σ.length]? with
        | none => rw [q] at q1; cases q1
        | some u => rw [q] at q1; cases q1
    rw [List.getElem?_append_left hi] at q1
    rw [List.getElem?_append_left (by rw [← I.len]; exact hi)] at e1'
    have sck := G.blk.free _ (PySem.mem_of_lookup hfree) rfl
    obtain ⟨m2, _, hl⟩ := I.loc
    obtain ⟨u, ru, lk⟩ := hl i y v e1' q1 (sck.elim (fun k => .inr (.inl k)) fun k => .inr (.inr k))
    obtain ⟨c2, h2⟩ := cells_to (X := X) hfree
    refine ⟨u, ru, .inr ⟨.inr hfree, c2, h2, ?_⟩⟩
    rcases lk with ⟨k', _⟩ | ⟨_, c3, e', z⟩
    · have k' : X.env.scope.names.lookup y = some .local := k'
      rcases sck with k2 | k2 <;> rw [show X.env.scope.names.lookup y = _ from k2] at k' <;> cases k'
    · rw [cm h2] at e'
      cases e'
      exact cellK (cm h2) z
  · obtain ⟨v, z⟩ := I.cell y c (cm e)
    exact ⟨v, cellK (cm e) z⟩
  · obtain ⟨v, o, ho, hd⟩ := I.cell y c (cm e)
    exact un.free c o ho (I.freeC y c (cm e)) (nfp (cm e))
  · exact hps q (by simpa [gCx] using hq)
  · show (wipe _ _).length = _
    rw [wipe_length, List.length_append, List.length_map]
    show _ = (X.N ++ ext).length
    rw [List.length_append, I.len]
end
/-- what holds while the generator is awake or asleep; sx: what its consumer writes meanwhile -/
structure CO (X : Cx) (fp sx : List Addr) (s4 : Shared) (H4 H : Hp) (s : Shared) : Prop where
  os : s.os = s4.os
  bare : AllBare s.gens
  un : Un (frs X.stack) fp H4 H s4.heap s.heap
  hok : HOk X.prog X.w H s.heap
  ns : ∃ m, s.heap.Ns s4.heap.objs.size m
  free : H s4.heap.objs.size = none
  fr : ∀ b ∈ fp, H b = none
  sx : ∀ b ∈ sx, (∃ o, s.heap.get? b = some o ∧ ∀ v, o.data ≠ .cell v) ∧ H b = none ∧ b ≠ s4.heap.objs.size ∧ b ∉ frs X.stack ∧ b ∉ fp ∧ s4.heap.get? b = none
/-- what the consumer does while the generator sleeps -/
structure Kp (sx : List Addr) (s s' : Shared) : Prop where
  os : s'.os = s.os
  bare : AllBare s'.gens
  keep : ∀ b o, b ∉ sx → s.heap.get? b = some o → s'.heap.get? b = some o
  own : ∀ b ∈ sx, ∃ o, s'.heap.get? b = some o ∧ ∀ v, o.data ≠ .cell v
theorem CO.kp {X : Cx} {fp sx : List Addr} {s4 s s' : Shared} {H4 H : Hp} (h : CO X fp sx s4 H4 H s) (k : Kp sx s s') : CO X fp sx s4 H4 H s' := by
  have n4 : ∀ b o, s4.heap.get? b = some o → b ∉ sx := fun b o e z => by
    rw [(h.sx b z).2.2.2.2.2] at e
    cases e
  have nH : ∀ b u, H b = some u → b ∉ sx := fun b u e z => by
    rw [(h.sx b z).2.1] at e
    cases e
  refine ⟨k.os.trans h.os, k.bare, ⟨fun b o e n h1 h2 => k.keep b o (n4 b o e) (h.un.keep b o e n h1 h2), fun b o e n h1 h2 => ?_, h.un.free, fun b o e h2 => ?_, h.un.tups, h.un.frzs, h.un.tbls⟩, fun a o e => ?_, ?_, h.free, h.fr, fun b hb => ⟨k.own b hb, (h.sx b hb).2⟩⟩
  · obtain ⟨sl, q⟩ := h.un.slot b o e n h1 h2
    exact ⟨sl, k.keep b _ (n4 b o e) q⟩
  · obtain ⟨o', q⟩ := h.un.there b o e h2
    exact ⟨o', k.keep b _ (n4 b o e) q⟩
  · refine (h.hok a o e).stay (fun b u hb q => k.keep b u ?_ q) (fun _ z => z) fun _ _ z => z
    rcases hb with z | z
    · exact z ▸ nH a o e
    · exact nH b _ z
  · obtain ⟨m, o, es, ep, ho, r⟩ := h.ns
    exact ⟨m, o, es, ep, k.keep _ _ (fun z => (h.sx _ z).2.2.1 rfl) ho, r⟩
/-- all that does not change of a generator -/
structure GSt (X : Cx) (pins : List (Addr × Obj)) (σ : L2.St) (scope : Scope) (own : List (Str × Nat)) (ext : List Str) (tg : Expr) (code : Value) (H4 : Hp) (s4 : Shared) (J : It) (fp : List Addr) (it : Addr) (tn : Nat → Heap → Prop) : Prop where
  inv : Inv X pins σ H4 s4
  ok : GOk X.N X.env.scope scope own ext
  turn : Turn X.prog X.w X.K tg J fp it tn
  fpo : ∀ b ∈ fp, FpOk X pins H4 b
  lt : ∀ b ∈ fp, b < s4.heap.objs.size
section
variable {X : Cx} {pins : List (Addr × Obj)} {σ : L2.St} {H4 : Hp} {s4 : Shared} {scope : Scope} {own : List (Str × Nat)} {ext : List Str} {tg elt iter : Expr} {code : Value} {fp sx : List Addr} {J : It} {it : Addr} {tn : Nat → Heap → Prop} {pos : Pos}
/-- the loop's code -/
abbrev gLoop (X : Cx) (tg elt iter : Expr) (scope : Scope) (pos : Pos) (it : Addr) (s4 : Shared) (code : Value) : Code :=
  .compLoop (.GeneratorExp elt [⟨tg, iter, [], 0⟩] scope pos) 0 (.ref it) .none (gEnv X scope s4.heap.objs.size code)
abbrev gFirst (X : Cx) (tg elt iter : Expr) (scope : Scope) (pos : Pos) (it : Addr) (s4 : Shared) (code : Value) : Code :=
  .compStart (.GeneratorExp elt [⟨tg, iter, [], 0⟩] scope pos) 0 (.ref it) .none (gEnv X scope s4.heap.objs.size code)
def gY (X : Cx) (fp sx : List Addr) (s4 : Shared) (H4 : Hp) (tn : Nat → Heap → Prop) (W : Nat → Nat → Hp → Prop) (Yd : Nat → Nat → V → Hp → Prop) : Protocol := fun n s0 v s kap =>
  ∃ (y : V) (i m : Nat) (H : Hp), RelV y v ∧ Yd i m y H ∧ CO X fp sx s4 H4 H s ∧ tn (i + 1) s.heap ∧ (∀ b ∈ sx, s.heap.get? b = s0.heap.get? b) ∧ m ≤ n ∧ ∀ m' s', m' < m → W (i + 1) m' H → Kp sx s s' → kap (.send .none) s'
def gE (X : Cx) (fp sx : List Addr) (s4 : Shared) (H4 : Hp) (Dn : Hp → Prop) : Nat → Shared → Shared → Prop := fun _ s0 s => ∃ H, Dn H ∧ CO X fp sx s4 H4 H s ∧ ∀ b ∈ sx, s.heap.get? b = s0.heap.get? b
theorem CO.inv {H : Hp} {s : Shared} {B : Around} (S : GSt X pins σ scope own ext tg code H4 s4 J fp it tn) (h : CO X fp sx s4 H4 H s) (hB : B.frames = some (gEnv X scope s4.heap.objs.size code :: X.stack)) (hh : B.handled = none) :
    Inv (gCx X scope code fp s4 H4 B ext) (pinsAt sx s.heap) (gS σ own ext) H s := by
  refine gx_inv S.inv S.ok S.fpo hB hh h.os h.bare h.un h.hok h.ns h.free S.lt fun p hp => ?_
  obtain ⟨hb, e⟩ := of_pinsAt hp
  obtain ⟨⟨o, e', d⟩, h2, h3, h4, _⟩ := h.sx p.1 hb
  rw [e] at e'
  cases e'
  exact ⟨e, h2, h3, h4, d⟩
theorem CO.of_inv {H H' : Hp} {s s' : Shared} {B : Around} {σ' : L2.St} (h : CO X fp sx s4 H4 H s) (I : Inv (gCx X scope code fp s4 H4 B ext) (pinsAt sx s.heap) σ' H' s') (hf : ∀ b ∈ fp, H' b = none) : CO X fp sx s4 H4 H' s' ∧ ∀ b ∈ sx, s'.heap.get? b = s.heap.get? b := by
  have pin : ∀ b ∈ sx, ∀ o, s.heap.get? b = some o → s'.heap.get? b = some o ∧ H' b = none := fun b hb o e => by
    have z := I.pin (b, o) (List.mem_append_right _ (mem_pinsAt hb e))
    exact ⟨z.1, z.2.1⟩
  refine ⟨⟨I.os, I.bare, I.base, I.hok, ?_, I.free, hf, fun b hb => ?_⟩, fun b hb => ?_⟩
  · obtain ⟨m, hm, _⟩ := I.loc
    exact ⟨m, hm⟩
  · obtain ⟨⟨o, e, d⟩, h2, h3⟩ := h.sx b hb
    obtain ⟨p1, p2⟩ := pin b hb o e
    exact ⟨⟨o, p1, d⟩, p2, h3⟩
  · obtain ⟨⟨o, e, d⟩, _⟩ := h.sx b hb
    rw [e, (pin b hb o e).1]
theorem seg_loop {Ag : Around} (S : GSt X pins σ scope own ext tg code H4 s4 J fp it tn) (hfr : Ag.frames = some X.stack) (hh : Ag.handled = none) {g : TG} {te : TE}
    (hg : PG (gCx X scope code fp s4 H4 (Ag.over (gLoop X tg elt iter scope pos it s4 code) []) ext) tg g) (he : PE (gCx X scope code fp s4 H4 (Ag.over (gLoop X tg elt iter scope pos it s4 code) []) ext) elt te)
    (W : Nat → Nat → Hp → Prop) (Dn : Hp → Prop) (Yd : Nat → Nat → V → Hp → Prop)
    (turn : ∀ i m H, W i m H → (J.stop i H ∧ Dn H) ∨ (J.go i H ∧ ∃ Yn : V → Hp → Prop, (∀ v H3, Yn v H3 → Yd i m v H3) ∧ ∀ x H', J.yld i H x H' → g x (gS σ own ext) H' fun σ2 H2 => te σ2 H2 Yn)) :
    ∀ n i m H s, m < n → W i m H → CO X fp sx s4 H4 H s → tn i s.heap →
      Seg (model X.prog X.w) Ag (fun n s0 r s1 => r = .ok .next ∧ gE X fp sx s4 H4 Dn n s0 s1) (gY X fp sx s4 H4 tn W Yd) n s (gLoop X tg elt iter scope pos it s4 code) ((model X.prog X.w).den (gLoop X tg elt iter scope pos it s4 code)) [] s := by
  have hB : (Ag.over (gLoop X tg elt iter scope pos it s4 code) []).frames = some (gEnv X scope s4.heap.objs.size code :: X.stack) := by
    show pushEnvs [gEnv X scope s4.heap.objs.size code] (pushEnvs [] Ag.frames) = _
    rw [hfr]
    rfl
  have hBh : (Ag.over (gLoop X tg elt iter scope pos it s4 code) []).handled = none := hh
  intro n
  induction n with
  | zero => exact fun i m H s hm => absurd hm (Nat.not_lt_zero _)
  | succ n ih =>
    intro i m H s hm w0 h0 t0
    have I0 := CO.inv S h0 hB hBh
    have ff : ∀ {H' : Hp}, (∀ b ∈ fp, H' b = none) → ∀ b ∈ fp, FpOk (gCx X scope code fp s4 H4 (Ag.over (gLoop X tg elt iter scope pos it s4 code) []) ext) (pinsAt sx s.heap) H' b := fun hn b hb => by
      refine ⟨hn b hb, Nat.ne_of_lt (S.lt b hb), I0.ok.exfs b hb, .inl hb, (I0.ok.exf b hb).2, fun p hp z => ?_⟩
      have q := (of_pinsAt (show p ∈ pinsAt sx s.heap by simpa [gCx] using hp)).1
      exact (h0.sx p.1 q).2.2.2.2.1 (z ▸ hb)
    show Seg _ Ag _ _ _ s _ ((compTurn (.GeneratorExp elt [⟨tg, iter, [], 0⟩] scope pos) 0 (.ref it) .none (gEnv X scope s4.heap.objs.size code)).onRaise (leaving (gEnv X scope s4.heap.objs.size code))) [] s
    rw [compTurn_gen, Sem.onRaise_eq_wrap]
    refine seg_bind_wrap (wpAny_standAt ?_)
    rcases turn i m H w0 with ⟨stop, dn⟩ | ⟨go, Yn, hYn, step⟩
    · refine seg_bind_wrap (wpAny_mono (S.turn.done (gCx X scope code fp s4 H4 (Ag.over (gLoop X tg elt iter scope pos it s4 code) []) ext) rfl rfl rfl rfl i _ s _ H (fun _ _ => False) I0 (ff h0.fr) t0 stop) (fun r s1 hr => ?_) fun _ _ z => False.elim z)
      obtain ⟨rfl, I1⟩ := hr
      obtain ⟨c1, x1⟩ := h0.of_inv I1 h0.fr
      exact seg_end (.ok .next) ⟨rfl, H, dn, c1, x1⟩
    · refine seg_bind_wrap (wpAny_mono (S.turn.item (gCx X scope code fp s4 H4 (Ag.over (gLoop X tg elt iter scope pos it s4 code) []) ext) rfl rfl rfl rfl i _ s _ H (fun _ _ => False) I0 (ff h0.fr) t0 go) (fun r s1 hr => ?_) fun _ _ z => False.elim z)
      obtain ⟨u, rfl, h1⟩ := hr
      refine seg_bind_wrap (wpAny_mono h1 (fun _ s2 h2 => ?_) fun _ _ z => False.elim z)
      obtain ⟨x, H2, I2, rx, y2, t2, f2⟩ := h2
      have I2p := I2.pinned (ff f2) (S.turn.obj _ _ t2)
      refine seg_bind_wrap (wpAny_mono (hg.run _ s2 _ H2 x u _ I2p rx (step x H2 y2)) (fun _ s3 h3 => ?_) fun _ _ z => False.elim z)
      obtain ⟨σ3, H3, I3, q3⟩ := h3
      simp only [List.forIn_nil]
      refine seg_bind_wrap (wpAny_pure ?_)
      simp only [if_true]
      have hy : ∀ v, yieldOut (gEnv X scope s4.heap.objs.size code) v = yieldValue v := fun v => by
        have q : (gEnv X scope s4.heap.objs.size code).scope.isCoroutine = false := S.ok.co
        simp only [yieldOut, q, Bool.false_eq_true, if_false]
      simp only [hy]
      rw [Sem.bind_eq_wrap', Sem.bind_eq_wrap', Sem.wrap_wrap, Sem.wrap_wrap]
      refine seg_wrap (wpAny_mono (he.run _ s3 σ3 H3 _ I3 q3) (fun v s5 h5 => ?_) fun _ _ z => False.elim z)
      obtain ⟨y, H5, I5, ry, q5⟩ := h5
      have pf : ∀ b ∈ fp, ∀ o, s2.heap.get? b = some o → s5.heap.get? b = some o ∧ H5 b = none := fun b hb o e => by
        have z := I5.pin (b, o) (List.mem_append_right _ (List.mem_append_right _ (mem_pinsAt hb e)))
        exact ⟨z.1, z.2.1⟩
      have f5 : ∀ b ∈ fp, H5 b = none := fun b hb => by
        obtain ⟨o, e, _⟩ := S.turn.obj _ _ t2 b hb
        exact (pf b hb o e).2
      have t5 : tn (i + 1) s5.heap := S.turn.keep _ _ _ t2 fun b hb o e => (pf b hb o e).1
      obtain ⟨c5, x5⟩ := h0.of_inv I5.unpinned f5
      refine seg_at (seg_yield rfl rfl rfl ⟨y, i, m, H5, ry, hYn _ _ q5, c5, t5, x5, Nat.lt_succ_iff.mp hm, fun m' s' hm' w' kp => ?_⟩)
      refine seg_again rfl (ih (i + 1) m' H5 s' (Nat.lt_of_lt_of_le hm' (Nat.lt_succ_iff.mp hm)) w' (c5.kp kp) (S.turn.keep _ _ _ t5 fun b hb o e => kp.keep b o (fun z => (c5.sx b z).2.2.2.2.1 hb) e))
theorem seg_first {Ag : Around} (S : GSt X pins σ scope own ext tg code H4 s4 J fp it tn) (hh : Ag.handled = none) {R : GenEnd} {Y : Protocol} {n : Nat} {s0 s : Shared} (t0 : tn 0 s.heap)
    (loop : Seg (model X.prog X.w) Ag R Y n s0 (gLoop X tg elt iter scope pos it s4 code) ((model X.prog X.w).den (gLoop X tg elt iter scope pos it s4 code)) [] s) :
    Seg (model X.prog X.w) Ag R Y n s0 (gFirst X tg elt iter scope pos it s4 code) ((model X.prog X.w).den (gFirst X tg elt iter scope pos it s4 code)) [] s := by
  show Seg _ Ag _ _ _ s0 _ ((compStart (.GeneratorExp elt [⟨tg, iter, [], 0⟩] scope pos) 0 (.ref it) .none (gEnv X scope s4.heap.objs.size code)).onRaise (leaving (gEnv X scope s4.heap.objs.size code))) [] s
  unfold compStart
  rw [Sem.onRaise_eq_wrap]
  show Seg _ Ag _ _ _ s0 _ ((ask >>= _).wrap _ _ _ _) [] s
  refine seg_bind_wrap (wpAny_askSetting ?_)
  split
  · exact seg_again rfl loop
  · first
      | exact seg_bind_wrap (wpAny_rule (seg_bind_wrap (wpAny_standAt (seg_bind_wrap (S.turn.self _ 0 s _ _ t0 (seg_again rfl loop))))))
      | (refine seg_bind_wrap (wpAny_rule ?_); show Seg _ Ag _ _ _ s0 _ ((standAt iter.pos >>= _).wrap _ _ _ _) [] s; exact seg_bind_wrap (wpAny_standAt (seg_bind_wrap (S.turn.self _ 0 s _ _ t0 (seg_again rfl loop)))))
theorem lim_of {H : Hp} {s : Shared} (S : GSt X pins σ scope own ext tg code H4 s4 J fp it tn) (h : CO X fp sx s4 H4 H s) : s.heap.NoLimit := by
  refine S.inv.ok.mod.nolimit.keeps fun b o e => ?_
  obtain ⟨e1, e2⟩ := S.inv.bs b o e
  refine h.un.keep b o e1 e2 (fun z => ?_) fun z => ?_
  · have q := (S.inv.env0.funs.mem z).1
    rw [e] at q
    cases q
  · rcases (S.fpo b z).2.2.2.1 with q | q
    · exact S.inv.ok.noex b o e q
    · exact absurd (Nat.lt_of_lt_of_le (Heap.lt_size e) (Nat.le_trans S.inv.ok.bsz q)) (Nat.lt_irrefl _)
/-- the generator at ga, its state kept at gi, asleep; n: how often it may be woken -/
structure GA (X : Cx) (fp sx : List Addr) (s4 : Shared) (H4 : Hp) (tn : Nat → Heap → Prop) (W : Nat → Nat → Hp → Prop) (Dn : Hp → Prop) (Yd : Nat → Nat → V → Hp → Prop) (Ag : Around) (ga : Addr) (gi n : Nat) (s : Shared) : Prop where
  gen : s.heap.IsGen ga gi
  mem : ga ∈ sx
  co : ∃ H, CO X fp sx s4 H4 H s
  goes : ∃ gs, s.gens[gi]? = some gs ∧ ∀ s', Kp sx s s' → gs.Goes (model X.prog X.w) Ag (fun n s0 r s1 => r = .ok .next ∧ gE X fp sx s4 H4 Dn n s0 s1) (gY X fp sx s4 H4 tn W Yd) n (.send .none) s'
theorem AllBare.set {s : Shared} {g : Nat} {x : GenState} (h : AllBare s.gens) (hx : x.bare = true) : AllBare (s.setGen g x).gens := fun y hy => by
  obtain ⟨j, hj, e⟩ := Array.mem_iff_getElem.mp hy
  by_cases q : g = j
  · subst q
    simp [Shared.setGen] at e
    exact e ▸ hx
  · have hj' : j < s.gens.size := by simpa [Shared.setGen] using hj
    have e2 : y = s.gens[j] := by
      rw [← e]
      simp only [Shared.setGen]
      exact Array.getElem_setIfInBounds_ne hj' q
    rw [e2]
    exact h _ (Array.getElem_mem hj')
theorem CO.any {H : Hp} {s s' : Shared} (h : CO X fp sx s4 H4 H s) (os : s'.os = s.os) (bare : AllBare s'.gens) (k : ∀ b o, s.heap.get? b = some o → s'.heap.get? b = some o) : CO X fp sx s4 H4 H s' :=
  h.kp ⟨os, bare, fun b o _ e => k b o e, fun b hb => let ⟨⟨o, e, d⟩, _⟩ := h.sx b hb; ⟨o, k b o e, d⟩⟩
theorem gen_next {Ap : Around} {W : Nat → Nat → Hp → Prop} {Dn : Hp → Prop} {Yd : Nat → Nat → V → Hp → Prop} {ga : Addr} {gi n : Nat} {s : Shared} {E : Value → Shared → Prop} (S : GSt X pins σ scope own ext tg code H4 s4 J fp it tn) (hh : Ap.handled = none) (hd : Ap.depth < recursionLimit)
    (h : GA X fp sx s4 H4 tn W Dn Yd Ap.in1 ga gi (n + 1) s) :
    wpAny (model X.prog X.w) Ap (pyNext (.ref ga)) (fun r s1 => (r = none ∧ ∃ H, Dn H ∧ CO X fp sx s4 H4 H s1 ∧ ∀ b ∈ sx, s1.heap.get? b = s.heap.get? b) ∨
      ∃ v y i m H, r = some v ∧ RelV y v ∧ Yd i m y H ∧ CO X fp sx s4 H4 H s1 ∧ (∀ b ∈ sx, s1.heap.get? b = s.heap.get? b) ∧ m ≤ n ∧ ∀ m', m' < m → W (i + 1) m' H → GA X fp sx s4 H4 tn W Dn Yd Ap.in1 ga gi n s1) E s := by
  obtain ⟨hg, hm, ⟨H0, c0⟩, gs, hgs, hgo⟩ := h
  have hlt : gi + 1 ≤ s.gens.size := by
    by_cases q : gi < s.gens.size
    · exact q
    · rw [Array.getElem?_eq_none (Nat.le_of_not_lt q)] at hgs
      cases hgs
  refine GenW.wpAny_gsz hlt (wpAny_pyNext_genexpQ (P := gE X fp sx s4 H4 Dn) hh (lim_of S c0) hd hg hgs (hgo _ ⟨rfl, AllBare.set c0.bare rfl, fun _ _ _ e => e, fun b hb => (c0.sx b hb).1⟩) (fun v s1 gs' hb hy hsz => ?_) (fun s1 he h' hk _ => ?_))
  · obtain ⟨y, i, m, H, ry, yd, c1, t1, x1, hmn, hka⟩ := hy
    have c2 : CO X fp sx s4 H4 H (s1.setGen gi gs') := c1.any rfl (AllBare.set c1.bare hb) fun _ _ e => e
    refine .inr ⟨v, y, i, m, H, rfl, ry, yd, c2, x1, hmn, fun m' hm' w' => ⟨?_, hm, ⟨H, c2⟩, gs', ?_, fun s' kp => ?_⟩⟩
    · obtain ⟨o, nm, qn, ho, r⟩ := hg
      exact ⟨o, nm, qn, (x1 ga hm).trans ho, r⟩
    · have hsz2 : gi < s1.gens.size := by
        have q : (s1.setGen gi gs').gens.size = s1.gens.size := GenW.setGen_size _ _ _
        rw [q] at hsz
        exact hsz
      simp [Shared.setGen, hsz2]
    · exact hka m' s' hm' w' ⟨kp.os, kp.bare, kp.keep, kp.own⟩
  · obtain ⟨H, dn, c1, x1⟩ := he
    have c2 : CO X fp sx s4 H4 H { s1.setGen gi .finished with heap := h' } := c1.any rfl (AllBare.set c1.bare rfl) hk
    refine .inl ⟨rfl, H, dn, c2, fun b hb => ?_⟩
    obtain ⟨⟨o, e, _⟩, _⟩ := c1.sx b hb
    exact (hk b o e).trans (e.symm.trans (x1 b hb))
theorem any_walk {W : Nat → Nat → Hp → Prop} {QT QF : Hp → Prop} {ga : Addr} {gi : Nat} {R : Result → Shared → Prop} (S : GSt X pins σ scope own ext tg code H4 s4 J fp it tn) (hh : X.A.handled = none) (hd : X.A.depth < recursionLimit)
    (hR : ∀ (b : Bool) (H : Hp) (s' : Shared), (if b = true then QT H else QF H) → CO X fp sx s4 H4 H s' → R (.ok (.ret (.bool b))) s') :
    ∀ n s, GA X fp sx s4 H4 tn W QF (fun i m y H => ∃ b, y = V.bl b ∧ if b = true then QT H else ∃ m', m' < m ∧ W (i + 1) m' H) X.A.in1.in1 ga gi (n + 1) s → codeAny (model X.prog X.w) X.A (.builtin "any.loop" ⟨[.ref ga], []⟩) R s := by
  intro n
  induction n with
  | zero =>
    intro s h
    refine codeAny_builtin F.entry_any_loop ?_
    rw [Around.under_plainId F.plain_any_loop _]
    show wpAny _ X.A.in1 (pyNext (.ref ga) >>= _) _ _ s
    refine wpAny_bind (wpAny_mono (gen_next (E := fun _ _ => False) S hh hd h) (fun r s1 hr => ?_) fun _ _ z => False.elim z)
    rcases hr with ⟨rfl, H, dn, c1, _⟩ | ⟨v, y, i, m, H, rfl, ry, ⟨b, rfl, yd⟩, c1, _, hm, _⟩
    · exact wpAny_bind (wpAny_rule (wpAny_pure (hR false H s1 (iteF dn) c1)))
    · obtain rfl : v = Value.bool b := ry
      refine wpAny_bind (wpAny_holding (wpAny_truthy_bool (wpAny_bind (wpAny_letGo ?_))))
      cases b with
      | true => exact wpAny_bind (wpAny_rule (wpAny_pure (hR true H s1 yd c1)))
      | false =>
        obtain ⟨m', hm', _⟩ : ∃ m', m' < m ∧ W (i + 1) m' H := yd
        omega
  | succ n ih =>
    intro s h
    refine codeAny_builtin F.entry_any_loop ?_
    rw [Around.under_plainId F.plain_any_loop _]
    show wpAny _ X.A.in1 (pyNext (.ref ga) >>= _) _ _ s
    refine wpAny_bind (wpAny_mono (gen_next (E := fun _ _ => False) S hh hd h) (fun r s1 hr => ?_) fun _ _ z => False.elim z)
    rcases hr with ⟨rfl, H, dn, c1, _⟩ | ⟨v, y, i, m, H, rfl, ry, ⟨b, rfl, yd⟩, c1, _, hm, more⟩
    · exact wpAny_bind (wpAny_rule (wpAny_pure (hR false H s1 (iteF dn) c1)))
    · obtain rfl : v = Value.bool b := ry
      refine wpAny_bind (wpAny_holding (wpAny_truthy_bool (wpAny_bind (wpAny_letGo ?_))))
      cases b with
      | true => exact wpAny_bind (wpAny_rule (wpAny_pure (hR true H s1 yd c1)))
      | false =>
        obtain ⟨m', hm', w'⟩ : ∃ m', m' < m ∧ W (i + 1) m' H := yd
        exact wpAny_pure ⟨plainId_quiet F.plain_any_loop _, ih s1 (more m' hm' w')⟩
theorem all_walk {W : Nat → Nat → Hp → Prop} {QT QF : Hp → Prop} {ga : Addr} {gi : Nat} {R : Result → Shared → Prop} (S : GSt X pins σ scope own ext tg code H4 s4 J fp it tn) (hh : X.A.handled = none) (hd : X.A.depth < recursionLimit)
    (hR : ∀ (b : Bool) (H : Hp) (s' : Shared), (if b = true then QT H else QF H) → CO X fp sx s4 H4 H s' → R (.ok (.ret (.bool b))) s') :
    ∀ n s, GA X fp sx s4 H4 tn W QT (fun i m y H => ∃ b, y = V.bl b ∧ if b = false then QF H else ∃ m', m' < m ∧ W (i + 1) m' H) X.A.in1.in1 ga gi (n + 1) s → codeAny (model X.prog X.w) X.A (.builtin "all.loop" ⟨[.ref ga], []⟩) R s := by
  intro n
  induction n with
  | zero =>
    intro s h
    refine codeAny_builtin F.entry_all_loop ?_
    rw [Around.under_plainId F.plain_all_loop _]
    show wpAny _ X.A.in1 (pyNext (.ref ga) >>= _) _ _ s
    refine wpAny_bind (wpAny_mono (gen_next (E := fun _ _ => False) S hh hd h) (fun r s1 hr => ?_) fun _ _ z => False.elim z)
    rcases hr with ⟨rfl, H, dn, c1, _⟩ | ⟨v, y, i, m, H, rfl, ry, ⟨b, rfl, yd⟩, c1, _, hm, _⟩
    · exact wpAny_bind (wpAny_rule (wpAny_pure (hR true H s1 (iteT dn) c1)))
    · obtain rfl : v = Value.bool b := ry
      refine wpAny_bind (wpAny_holding (wpAny_truthy_bool (wpAny_bind (wpAny_letGo ?_))))
      cases b with
      | false => exact wpAny_bind (wpAny_rule (wpAny_pure (hR false H s1 yd c1)))
      | true =>
        obtain ⟨m', hm', _⟩ : ∃ m', m' < m ∧ W (i + 1) m' H := yd
        omega
  | succ n ih =>
    intro s h
    refine codeAny_builtin F.entry_all_loop ?_
    rw [Around.under_plainId F.plain_all_loop _]
    show wpAny _ X.A.in1 (pyNext (.ref ga) >>= _) _ _ s
    refine wpAny_bind (wpAny_mono (gen_next (E := fun _ _ => False) S hh hd h) (fun r s1 hr => ?_) fun _ _ z => False.elim z)
    rcases hr with ⟨rfl, H, dn, c1, _⟩ | ⟨v, y, i, m, H, rfl, ry, ⟨b, rfl, yd⟩, c1, _, hm, more⟩
    · exact wpAny_bind (wpAny_rule (wpAny_pure (hR true H s1 (iteT dn) c1)))
    · obtain rfl : v = Value.bool b := ry
      refine wpAny_bind (wpAny_holding (wpAny_truthy_bool (wpAny_bind (wpAny_letGo ?_))))
      cases b with
      | false => exact wpAny_bind (wpAny_rule (wpAny_pure (hR false H s1 yd c1)))
      | true =>
        obtain ⟨m', hm', w'⟩ : ∃ m', m' < m ∧ W (i + 1) m' H := yd
        exact wpAny_pure ⟨plainId_quiet F.plain_all_loop _, ih s1 (more m' hm' w')⟩
end
/-! ### made -/
section
variable {X : Cx} {pins : List (Addr × Obj)} {σ : L2.St} {H : Hp} {s : Shared} {scope : Scope} {own : List (Str × Nat)} {ext : List Str} {tg elt iter : Expr} {pos : Pos} {c P : Addr} {wi : TI} {k : Nat}
theorem gen_eval {R : It → Hp → Prop} {Q' : Value → Shared → Prop} (hr : Room k X.A) (TB : GxR.TabB X.base X.mg c P) (hcode : X.env.code = .ref c) (G : GOk X.N X.env.scope scope own ext) (hi : PI X tg iter wi) (hs : ∀ v, genFold iter X.env v = pure v)
    (I : Inv X pins σ H s) (h : wi σ H fun J H1 => GxR.TabG H1 P ∧ R J H1)
    (hQ : ∀ (J : It) (fp : List Addr) (it : Addr) (tn : Nat → Heap → Prop) (H1 H4 : Hp) (s4 s5 : Shared) (code : Value) (ga : Addr) (gi : Nat), R J H1 → GxR.Tabbed P H1 H4 → GSt X pins σ scope own ext tg code H4 s4 J fp it tn → tn 0 s5.heap → CO X fp [ga] s4 H4 H4 s5 →
      s5.heap.IsGen ga gi → s5.gens[gi]? = some (.fresh (gFirst X tg elt iter scope pos it s4 code)) → Q' (.ref ga) s5) :
    wpAny (model X.prog X.w) X.A (eval (.GeneratorExp elt [⟨tg, iter, [], 0⟩] scope pos) X.env) Q' X.xe s := by
  refine wpAny_GeneratorExp_make G.co (closure_ok (free_cells I G)) G.cell G.dot G.blk.kind hr.depth (thn (hi.run pins s σ H _ I h) fun xv s1 h1 => thn h1 fun itv s2 h2 => ?_) hs
  obtain ⟨it, fp, tn, J, H1, rfl, I2, T, t2, f2, ⟨ps, hP, ht⟩, q⟩ := h2
  have hPs : s2.heap.get? P = some { cls := .none, data := .fields ps } := I2.hok P _ hP
  have cd : PySem.W.CodeHd s2.heap c P := TB.code.keeps fun b u e => I2.bk b u e
  have nP : ∀ b ∈ fp, b ≠ P := fun b hb z => by
    have z2 := (f2 b hb).1
    rw [z, hP] at z2
    cases z2
  refine ⟨I2.nolimit, ?_⟩
  have cont : ∀ (code : Value) (h3 : Heap) (tk : Nat) (more : Array Value), Heap.ExtBut P s2.heap h3 → h3.get? P = some { cls := .none, data := .fields (ps ++ more) } → TriplesOk (ps ++ more).toList →
      wpAny (model X.prog X.w) X.A (builtinsFor X.env.globals X.env.builtins) (fun bi s₄ => ∀ h', h'.Ns s₄.heap.objs.size (fun y => if y = ".0" then some (.ref it) else none) → Heap.SameBut s₄.heap.objs.size (s₄.heap.push { cls := .type "frame", data := .dict #[] }) h' →
          Q' (.ref h'.objs.size) { s₄ with
            gens := s₄.gens.push (.fresh (.compStart (.GeneratorExp elt [⟨tg, iter, [], 0⟩] scope pos) 0 (.ref it) .none (genEnv scope (cloFrom X.env.cells scope.names []) s₄.heap.objs.size code bi X.env))),
            toks := s₄.toks + 1 + 1 + 1,
            heap := h'.push { cls := .type "generator", data := .fields #[.int s₄.gens.size 0, .str "<genexpr>" (s₄.toks + 1), .str (X.env.qual ++ "<genexpr>") (s₄.toks + 1 + 1)] } }) X.xe { s2 with heap := h3, toks := tk } := by
    intro code h3 tk more hx h3P ht3
    have I4 := GxR.inv_tab (more := more) (h' := h3) (g' := s2.gens) (d' := s2.drawn) (t' := tk) I2 hP (fun b u hb e => hx b u hb e) h3P I2.bare
    obtain ⟨bm, ob, e1, e2, e3, e4, e5, e6, e7, e8⟩ := TB.bm
    refine wpAny_builtinsFor (m := X.mg) (by rw [I4.ok.glob]; exact I4.mod.glob.keeps I4.bk) e1 e2 (I4.bk _ _ e5) e6 e7 e8 ?_
    intro h' hn' hs'
    have keep1 : ∀ b o, h3.get? b = some o → h'.get? b = some o := fun b o e => hs'.extBut b o (Nat.ne_of_lt (Heap.lt_size e)) (Heap.get?_push_of_some _ e)
    have sz' : h'.objs.size = h3.objs.size + 1 := by rw [hs'.1, Heap.size_push]
    have keep5 : ∀ b o, h3.get? b = some o → (h'.push { cls := .type "generator", data := .fields #[.int s2.gens.size 0, .str "<genexpr>" (tk + 1), .str (X.env.qual ++ "<genexpr>") (tk + 1 + 1)] }).get? b = some o := fun b o e => Heap.get?_push_of_some _ (keep1 b o e)
    have f4 : ∀ b ∈ fp, FpOk X pins (upd H1 P (.tbl (ps ++ more))) b := fun b hb => ⟨by rw [upd_ne (nP b hb)]; exact (f2 b hb).1, (f2 b hb).2⟩
    have t4 : tn 0 h3 := T.keep _ _ _ t2 fun b hb o e => hx b o (nP b hb) e
    have lt : ∀ b ∈ fp, b < h3.objs.size := fun b hb => by
      obtain ⟨o, e, _⟩ := T.obj _ _ t4 b hb
      exact Heap.lt_size e
    have S : GSt X pins σ scope own ext tg code (upd H1 P (.tbl (ps ++ more))) { s2 with heap := h3, toks := tk } J fp it tn := ⟨I4, G, T, f4, lt⟩
    have nga : ∀ b, h3.objs.size ≤ b → upd H1 P (.tbl (ps ++ more)) b = none := fun b hb => I4.hok.fresh hb
    refine hQ J fp it tn H1 _ { s2 with heap := h3, toks := tk } _ code h'.objs.size s2.gens.size q ⟨⟨_, upd_same, ht3⟩, fun b hb => upd_ne hb⟩ S (T.keep _ _ _ t4 fun b hb o e => keep5 b o e) ⟨rfl, AllBare.push I2.bare rfl, Un.kept keep5, I4.hok.kept keep5, ⟨_, hn'.push _⟩, nga _ (Nat.le_refl _), fun b hb => (f4 b hb).1, fun b hb => ?_⟩ ?_ ?_
    · obtain rfl : b = h'.objs.size := by simpa using hb
      refine ⟨⟨_, Heap.get?_push_size _ rfl, fun v z => by cases z⟩, nga _ (by omega), ?_, fun z => ?_, fun z => ?_, ?_⟩
      · show h'.objs.size ≠ h3.objs.size
        omega
      · rcases List.mem_cons.mp (I4.stkSub _ z) with e | e
        · have z2 := I4.lt
          rw [← e] at z2
          have z3 : h'.objs.size < h3.objs.size := z2
          omega
        · exact I4.nofs (show h3.objs.size ≤ h'.objs.size by omega) e
      · have q5 : (h'.objs.size : Nat) < h3.objs.size := lt _ z
        omega
      · show h3.get? h'.objs.size = none
        cases e : h3.get? h'.objs.size with
        | none => rfl
        | some o =>
          have q5 : (h'.objs.size : Nat) < h3.objs.size := Heap.lt_size e
          omega
    · exact ⟨_, _, _, Heap.get?_push_size _ rfl, rfl, rfl, rfl⟩
    · exact Array.getElem?_push_size ..
  cases hf : codeAmong pos ps.toList with
  | none =>
    refine wpAny_genexprCodeX hcode (cd.code hPs ht) (cd.tab hPs) hf fun c' h' tk hx hge hlt hco' _ htab' _ => ?_
    obtain ⟨o1, vs, f1, tf, fl, tg', inF, tx, tt, op, _, _, _, _, _, _, _, _, _, htr, _⟩ := hco'
    exact cont _ h' tk _ hx htab'.2 htr
  | some cv =>
    refine wpAny_genexprCode_hit hcode (cd.code hPs ht) hf ?_
    exact cont cv s2.heap s2.toks #[] (Heap.ExtBut.refl _ _) (by simpa using hPs) (by simpa using ht)
/-- any(..), all(..) of the expression; behind it the def's table may have grown -/
def tGen (P : Addr) (wi : TI) (g : TG) (te : TE) (own : List (Str × Nat)) (ext : List Str) (stopAt : Bool) : TE := fun σ H Q => wi σ H fun J H1 => GxR.TabG H1 P ∧ ∀ H2, GxR.Tabbed P H1 H2 → ∃ W : Nat → Nat → Hp → Prop, (∃ m, W 0 m H2) ∧
  ∀ i m H, W i m H → (J.stop i H ∧ Q (.bl (!stopAt)) H) ∨ (J.go i H ∧ ∃ N : Hp → Prop, (∀ H', N H' → ∃ m', m' < m ∧ W (i + 1) m' H') ∧ ∀ x H', J.yld i H x H' → g x (gS σ own ext) H' fun σ2 H2 => te σ2 H2 fun v H3 => ∃ b, v = V.bl b ∧ if b = stopAt then Q (.bl stopAt) H3 else N H3)
theorem turn_of {J : It} {g : TG} {te : TE} {σg : L2.St} {W : Nat → Nat → Hp → Prop} {Q : VK} {st : Bool} (turn : ∀ i m H, W i m H → (J.stop i H ∧ Q (.bl (!st)) H) ∨ (J.go i H ∧ ∃ N : Hp → Prop, (∀ H', N H' → ∃ m', m' < m ∧ W (i + 1) m' H') ∧
      ∀ x H', J.yld i H x H' → g x σg H' fun σ2 H2 => te σ2 H2 fun v H3 => ∃ b, v = V.bl b ∧ if b = st then Q (.bl st) H3 else N H3)) (i m : Nat) (H : Hp) (w : W i m H) :
    (J.stop i H ∧ Q (.bl (!st)) H) ∨ (J.go i H ∧ ∃ Yn : V → Hp → Prop, (∀ v H3, Yn v H3 → ∃ b, v = V.bl b ∧ if b = st then Q (.bl st) H3 else ∃ m', m' < m ∧ W (i + 1) m' H3) ∧ ∀ x H', J.yld i H x H' → g x σg H' fun σ2 H2 => te σ2 H2 Yn) := by
  rcases turn i m H w with z | ⟨go, N, hN, step⟩
  · exact .inl z
  · refine .inr ⟨go, _, fun v H3 ⟨b, e, q⟩ => ⟨b, e, ?_⟩, step⟩
    by_cases hb : b = st
    · rw [if_pos hb] at q ⊢
      exact q
    · rw [if_neg hb] at q ⊢
      exact hN _ q
theorem room_over {Ag : Around} {c : Code} (hr : Room (k + 1) Ag) (h1 : c.weight = 1) (h2 : c.cUnits = 3) : Room k (Ag.over c []) := by
  refine ⟨hr.hd, ?_, ?_⟩
  · have := hr.dp
    show Ag.depth + frameCount [] + c.weight + 3 * k + 5 < _
    rw [h1]
    show Ag.depth + 0 + 1 + 3 * k + 5 < _
    omega
  · have := hr.un
    show Ag.units + unitsOf [] + c.cUnits + 16 * k + 200 < _
    rw [h2]
    show Ag.units + 0 + 3 + 16 * k + 200 < _
    omega
theorem room_in1 {Ag : Around} (hr : Room (k + 1) Ag) : Room k Ag.in1.in1 := by
  refine ⟨hr.hd, ?_, ?_⟩
  · have := hr.dp
    show Ag.depth + 3 * k + 5 < _
    omega
  · have := hr.un
    show Ag.units + 1 + 1 + 16 * k + 200 < _
    omega
theorem EP_of {H4 H' : Hp} {s4 s' : Shared} {J : It} {fp sx : List Addr} {it : Addr} {tn : Nat → Heap → Prop} {code : Value} {Q : VK} {v : V} {u : Value} (S : GSt X pins σ scope own ext tg code H4 s4 J fp it tn) (h : CO X fp sx s4 H4 H' s') (r : RelV v u) (q : Q v H') : EP X pins σ Q u s' :=
  ⟨v, H', S.inv.call' h.os h.un h.hok h.bare fun b hb => ⟨(S.fpo b hb).2.2.2.1, (S.fpo b hb).2.1, (S.fpo b hb).2.2.2.2.1, (S.fpo b hb).2.2.2.2.2⟩, r, q⟩
section
variable {g : TG} {te : TE} {p cpos : Pos}
theorem pe_anyG (hr : Room (k + 2) X.A) (hg : Gl X "any") (hm : X.mg "any" = none) (TB : GxR.TabB X.base X.mg c P) (hcode : X.env.code = .ref c) (G : GOk X.N X.env.scope scope own ext) (hi : PI X tg iter wi)
    (ht : ∀ (code : Value) (fp : List Addr) (s4 : Shared) (H4 : Hp) (B : Around), PG (gCx X scope code fp s4 H4 B ext) tg g) (he : ∀ (code : Value) (fp : List Addr) (s4 : Shared) (H4 : Hp) (B : Around), Room k B → PE (gCx X scope code fp s4 H4 B ext) elt te)
    (hs : ∀ v, genFold iter X.env v = pure v := by intro _; rfl) (hst : starEach [.GeneratorExp elt [⟨tg, iter, [], 0⟩] scope pos] X.env = (false, eval (.GeneratorExp elt [⟨tg, iter, [], 0⟩] scope pos) X.env) :: starEach [] X.env := by rfl) :
    PE X (.Call (.Name "any" p) [.GeneratorExp elt [⟨tg, iter, [], 0⟩] scope pos] [] cpos) (tGen P wi g te own ext true) := by
  constructor
  intro pins s σ H Q I h
  refine wpAny_Call_Name_kw (ld_blt I hg hm boot_any (PyProof.Rows.callWith_builtin1 ?_ hst (by rfl)))
  rw [hst]
  show wpAny _ _ (spliced ((false, eval (.GeneratorExp elt [⟨tg, iter, [], 0⟩] scope pos) X.env) :: backTo cpos (starEach [] X.env))) _ _ s
  refine Calls.spliced_cons (gen_eval hr TB hcode G hi hs I h fun J fp it tn H1 H4 s4 s5 code ga gi q htab S t5 c5 hgen hgs => Calls.spliced_nil ?_)
  obtain ⟨W, ⟨m, w0⟩, turn⟩ := q H4 htab
  have rm : Room k (X.A.in1.in1.over (gLoop X tg elt iter scope pos it s4 code) []) := room_over (room_in1 hr) rfl rfl
  refine call_function_tree F.kind_any F.plain_any F.entry_any (F.args_any1 _) ?_
  unfold Builtin.«any»
  refine wpAny_bind (m := oneArg "any" _) (wpAny_pure (wpAny_bind (wpAny_pyIter_gen hgen ?_)))
  refine wpAny_pure ⟨plainId_quiet F.plain_any_loop _, any_walk (W := W) (QT := Q (.bl true)) (QF := Q (.bl false)) S hr.hd hr.depth (fun b H' s' hb hc => EP_of (v := .bl b) S hc rfl (by cases b <;> exact hb)) m s5 ⟨hgen, List.mem_cons_self, ⟨H4, c5⟩, _, hgs, fun s' kp => ⟨rfl, ?_⟩⟩⟩
  have t6 : tn 0 s'.heap := S.turn.keep _ _ _ t5 fun b hb o e => kp.keep b o (fun z => (c5.sx b z).2.2.2.2.1 hb) e
  exact seg_first (Ag := X.A.in1.in1) S hr.hd t6 (seg_loop (Ag := X.A.in1.in1) S S.inv.ok.frames hr.hd (ht ..) (he _ _ _ _ _ rm) W _ _ (turn_of (st := true) turn) (m + 1) 0 m H4 s' (Nat.lt_succ_self m) w0 (c5.kp kp) t6)
theorem pe_allG (hr : Room (k + 2) X.A) (hg : Gl X "all") (hm : X.mg "all" = none) (hb : bootBuiltins "all" = some (.builtin "all")) (TB : GxR.TabB X.base X.mg c P) (hcode : X.env.code = .ref c) (G : GOk X.N X.env.scope scope own ext) (hi : PI X tg iter wi)
    (ht : ∀ (code : Value) (fp : List Addr) (s4 : Shared) (H4 : Hp) (B : Around), PG (gCx X scope code fp s4 H4 B ext) tg g) (he : ∀ (code : Value) (fp : List Addr) (s4 : Shared) (H4 : Hp) (B : Around), Room k B → PE (gCx X scope code fp s4 H4 B ext) elt te)
    (hs : ∀ v, genFold iter X.env v = pure v := by intro _; rfl) (hst : starEach [.GeneratorExp elt [⟨tg, iter, [], 0⟩] scope pos] X.env = (false, eval (.GeneratorExp elt [⟨tg, iter, [], 0⟩] scope pos) X.env) :: starEach [] X.env := by rfl) :
    PE X (.Call (.Name "all" p) [.GeneratorExp elt [⟨tg, iter, [], 0⟩] scope pos] [] cpos) (tGen P wi g te own ext false) := by
  constructor
  intro pins s σ H Q I h
  refine wpAny_Call_Name_kw (ld_blt I hg hm hb (PyProof.Rows.callWith_builtin1 ?_ hst (by rfl)))
  rw [hst]
  show wpAny _ _ (spliced ((false, eval (.GeneratorExp elt [⟨tg, iter, [], 0⟩] scope pos) X.env) :: backTo cpos (starEach [] X.env))) _ _ s
  refine Calls.spliced_cons (gen_eval hr TB hcode G hi hs I h fun J fp it tn H1 H4 s4 s5 code ga gi q htab S t5 c5 hgen hgs => Calls.spliced_nil ?_)
  obtain ⟨W, ⟨m, w0⟩, turn⟩ := q H4 htab
  have rm : Room k (X.A.in1.in1.over (gLoop X tg elt iter scope pos it s4 code) []) := room_over (room_in1 hr) rfl rfl
  refine call_function_tree F.kind_all F.plain_all F.entry_all (F.args_all1 _) ?_
  unfold Builtin.«all»
  refine wpAny_bind (m := oneArg "all" _) (wpAny_pure (wpAny_bind (wpAny_pyIter_gen hgen ?_)))
  refine wpAny_pure ⟨plainId_quiet F.plain_all_loop _, all_walk (W := W) (QT := Q (.bl true)) (QF := Q (.bl false)) S hr.hd hr.depth (fun b H' s' hb hc => EP_of (v := .bl b) S hc rfl (by cases b <;> exact hb)) m s5 ⟨hgen, List.mem_cons_self, ⟨H4, c5⟩, _, hgs, fun s' kp => ⟨rfl, ?_⟩⟩⟩
  have t6 : tn 0 s'.heap := S.turn.keep _ _ _ t5 fun b hb o e => kp.keep b o (fun z => (c5.sx b z).2.2.2.2.1 hb) e
  exact seg_first (Ag := X.A.in1.in1) S hr.hd t6 (seg_loop (Ag := X.A.in1.in1) S S.inv.ok.frames hr.hd (ht ..) (he _ _ _ _ _ rm) W _ _ (turn_of (st := false) turn) (m + 1) 0 m H4 s' (Nat.lt_succ_self m) w0 (c5.kp kp) t6)
end
end
end GX

/-! ### defs that hold a generator expression: their code objects' tables, and the end of a law that calls them -/
namespace GX
open PySem PySem.Spec PyProof.Rows L2 Cm
/-- the def x stands at some address, its code object at c -/
structure FunC (K : PySem.W.Frag) (x : Str) (st : Stmt) (f : Addr) (fd : FuncData) (c : Addr) : Prop where
  ex : ∃ (oc : Value) (od : Option Addr) (kV doc pm : Value) (an : Option Addr) (ct : Value) (osl : Array (Option Value)),
    fd = PySem.W.fnOf x x (defArgs st) (defBody st) (defScope st) .none kV doc pm an (.ref c) ct ∧ K.lookup f = some ⟨oc, od, .func fd, osl⟩ ∧ PySem.W.codeIn K (.ref c) x = true
  kp : PySem.W.keepIn K (.ref f) = true
def DnC (K : PySem.W.Frag) (mg : Str → Option Value) (x : Str) (st : Stmt) (ps : List Str) (c : Addr) : Prop := ∃ (f : Addr) (fd : FuncData), FunC K x st f fd c ∧ mg x = some (.ref f) ∧ Binds K fd ps []
theorem dnc_mk {K : PySem.W.Frag} {h : Heap} {mg : Str → Option Value} {x : Str} {ps : List Str} {st : Stmt} {f c : Addr} {oc : Value} {od an : Option Addr} {osl : Array (Option Value)} {kV doc pm ct : Value} (X : K.In h) (G : h.Ns mainGlobals mg) (a : PySem.W.nsIn K mainGlobals x = some (some (.ref f)))
    (l : K.lookup f = some ⟨oc, od, .func (PySem.W.fnOf x x (defArgs st) (defBody st) (defScope st) .none kV doc pm an (.ref c) ct), osl⟩) (e : PySem.W.codeIn K (.ref c) x = true) (k : PySem.W.keepIn K (.ref f) = true)
    (hb : ∀ (kV doc pm : Value) (an : Option Addr) (cdv ct : Value) (us : List Value), us.length = ps.length → bindArgs (PySem.W.fnOf x x (defArgs st) (defBody st) (defScope st) .none kV doc pm an cdv ct) ⟨us, []⟩ = pure (ps.zip us)) : DnC K mg x st ps c :=
  ⟨f, _, ⟨⟨_, _, _, _, _, _, _, _, rfl, l, e⟩, k⟩, PySem.W.mg_of X G a, (fun_mk l e k).binds hb⟩
theorem okc_of {P : Program} {w : World} {K : PySem.W.Frag} {mg : Str → Option Value} {base : Heap} {CX : CXT} {k : Nat} {x : Str} {st : Stmt} {N ps : List Str} {sp : Sp} {c : Addr} (d : DnC K mg x st ps c) (S : FnScope N ps (defScope st)) (len : ∀ vs H Q E, sp vs H Q E → vs.length = ps.length)
    (hbody : ∀ (f : Addr) (A : Around) (outer : List Env) (s : Shared) (H : Hp) (vs : List V) (Q : VK) (E : XK), Room k (A.deeper (envOfC x (defScope st) s.heap.objs.size f (.ref c))) → sp vs H Q E →
      ∃ t, PSs (cxOf CX P w K mg base N x (defScope st) f (.ref c) A outer s H E) (defBody st) t ∧ t { nx := fun _ H' => Q .non H', rt := Q } (L2.start N vs) H) : Ok P w K mg base CX (k + 1) x ps sp := by
  obtain ⟨f, fd, ⟨⟨oc, od, kV, doc, pm, an, ct, osl, rfl, lk, hcd⟩, kp⟩, g, b⟩ := d
  exact ⟨f, _, fn_of lk hcd S len fun A outer s H vs Q E hr hsp => hbody f A outer s H vs Q E hr hsp, g, kp, b⟩
theorem tb_of {base : Heap} {mg : Str → Option Value} {c P : Addr} (h : LamX.TabB base mg c P) : GxR.TabB base mg c P := ⟨h.code, h.bm, h.gP⟩
/-- law's promise where tables may grow -/
def spLawT (K : PySem.W.Frag) (Ps : List Addr) : Sp := fun vs H Q _ => ∃ (a : Addr) (ns : List Int), vs = [.ref a] ∧ SqL K H a (ns.map V.int) ∧ ns.length ≤ 63 ∧ (∀ P ∈ Ps, GxR.TabG H P) ∧ ∀ H', Q (.bl true) H'
theorem no_tab {K : PySem.W.Frag} {h : Heap} {P : Addr} (X : K.In h) (n : PySem.W.noTabs K = true) (e : h.get? P = some (PySem.W.tabObj #[])) : K.lookup P = none := by
  cases q : K.lookup P with
  | none => rfl
  | some o =>
    have z := X P o q
    rw [e] at z
    cases z
    have z2 := List.all_eq_true.mp n (P, _) (PySem.W.mem_of_lookupK q)
    exact absurd (show false = true from z2) (by decide)
theorem tabIn_mk {K : PySem.W.Frag} {x : Str} {f c P : Addr} {oc cc : Value} {od ce : Option Addr} {fd : FuncData} {sl cg : Array (Option Value)} {vs : Array Value} (h1 : PySem.W.nsIn K mainGlobals x = some (some (.ref f)))
    (h2 : K.lookup f = some ⟨oc, od, .func fd, sl⟩) (h3 : fd.code = .ref c) (h4 : K.lookup c = some ⟨cc, ce, .fields vs, cg⟩) (h5 : vs[11]? = some (.ref P)) : PySem.W.tabIn K x = some (c, P) := by
  unfold PySem.W.tabIn
  simp only [h1, h2, h3, h4, h5]
theorem walk_gx {l : PySem.W.OpenLaw} {k : Nat} {q : Program} {loose : List Str} {XP : (Str → Option Value) → Heap → Prop} {YP : World → Heap → Prop} {d : DefRec} {K : Params → PySem.W.Frag} {names : List Str} (hn : l.most = some 63) (hdf : d.params.defaults = []) (hr : Room k callerA)
    (hY : ∀ (w : World) (h : Heap), YP w h → (K w.params).In h) (hnt : ∀ w : World, PySem.W.noTabs (K w.params) = true) (hrec : ∀ x ∈ names, ((PyProof.Rows.recsOf q).find? fun e => e.name == x).isSome = true)
    (F : ∀ (w : World) (mg : Str → Option Value) (fa : Addr) (h : Heap), (K w.params).In h → h.Ns mainGlobals mg → mg d.name = some (.ref fa) → ∃ (fd : FuncData) (cs : List (Str × Addr × Addr)), (∀ t ∈ cs, t.1 ∈ names ∧ PySem.W.tabIn (K w.params) t.1 = some t.2) ∧
      (∀ (s : Shared) (u : Value), BindsTo s fd ⟨[u], []⟩ [("script", u)]) ∧ ∀ base : Heap, (K w.params).In base → base.Ns mainGlobals mg → (∀ t ∈ cs, LamX.TabB base mg t.2.1 t.2.2) → FnOk l.prog w (K w.params) mg base CX0 k fa fd ["script"] (spLawT (K w.params) (cs.map (·.2.2)))) :
    PySem.W.WalkO q loose XP YP l.row.toRowW d [] (fun f vs => PySem.call f vs) := by
  refine Att.attach_callB hn hdf fun w s0 s1 mg mb fa o pm cd doc a vs ns G Y ho hd hcd hmg hobj hints hlen hbits hg => ?_
  have KX := hY w _ Y
  obtain ⟨fd, cs, hcs, hb, hF⟩ := F w mg fa _ KX G.T.g hmg
  have tab : ∀ t ∈ cs, PySem.W.CodeHd s1.heap t.2.1 t.2.2 ∧ s1.heap.get? t.2.2 = some (PySem.W.tabObj #[]) := fun t ht => by
    obtain ⟨h1, h2⟩ := hcs t ht
    obtain ⟨dr, hdr⟩ := Option.isSome_iff_exists.mp (hrec _ h1)
    exact PySem.W.tab_of G.T KX hdr h2
  have of2 : ∀ p ∈ cs.map (·.2), ∃ t ∈ cs, t.2 = p := fun p hp => List.mem_map.mp hp
  refine LamX.law_callTs (cs := cs.map (·.2)) (sp := spLawT (K w.params) (cs.map (·.2.2))) KX G.T.g G.T.b G.T.builtins G.T.nolimit hg (fun p hp => ?_) (fun p hp => ?_) (fun p hp => ?_) G.T.bmain hobj hints (Nat.le_trans hlen (by decide)) hr (fun base k1 k2 k3 => hF base k1 k2 fun t ht => k3 t.2 (List.mem_map.mpr ⟨t, ht, rfl⟩)) hb (fun H hH hS => ?_) (fun _ _ _ z => z)
  · obtain ⟨t, ht, rfl⟩ := of2 p hp
    exact (tab t ht).2
  · obtain ⟨t, ht, rfl⟩ := of2 p hp
    exact no_tab KX (hnt w) (tab t ht).2
  · obtain ⟨t, ht, rfl⟩ := of2 p hp
    exact (tab t ht).1
  · refine ⟨a, ns, rfl, hS, hlen, fun P hP => ?_, fun _ => rfl⟩
    obtain ⟨t, ht, rfl⟩ := List.mem_map.mp hP
    exact ⟨#[], hH t.2 (List.mem_map.mpr ⟨t, ht, rfl⟩), True.intro⟩
/-! ### heaps in which tables may have grown -/
/-- all but tables stays; tables stay tables -/
structure Sm (H H' : Hp) : Prop where
  keep : ∀ b o, H b = some o → (∀ ps, o ≠ .tbl ps) → H' b = some o
  tab : ∀ P, GxR.TabG H P → GxR.TabG H' P
theorem Sm.refl (H : Hp) : Sm H H := ⟨fun _ _ e _ => e, fun _ t => t⟩
theorem Sm.trans {H H1 H2 : Hp} (a : Sm H H1) (b : Sm H1 H2) : Sm H H2 := ⟨fun c o e n => b.keep c o (a.keep c o e n) n, fun P t => b.tab P (a.tab P t)⟩
theorem Sm.of {H H' : Hp} (e : Same H H') : Sm H H' := ⟨fun b o q _ => e b o q, fun P ⟨ps, q, t⟩ => ⟨ps, e _ _ q, t⟩⟩
theorem Sm.tabbed {H H' : Hp} {P : Addr} (h : GxR.TabG H P) (e : GxR.Tabbed P H H') : Sm H H' := by
  obtain ⟨ps, hP, _⟩ := h
  refine ⟨fun b o q n => ?_, fun P' t => ?_⟩
  · rw [e.2 b fun z => n ps (Option.some.inj (q.symm.trans (z ▸ hP)))]
    exact q
  · by_cases z : P' = P
    · rw [z]
      exact e.1
    · obtain ⟨ps', q, t'⟩ := t
      exact ⟨ps', by rw [e.2 _ z]; exact q, t'⟩
theorem Sm.l {H H' : Hp} (e : Sm H H') {a : Addr} {xs : List V} (h : H a = some (.lst xs)) : H' a = some (.lst xs) := e.keep _ _ h fun _ z => by cases z
theorem Sm.t {H H' : Hp} (e : Sm H H') {a : Addr} {xs : List V} (h : H a = some (.tup xs)) : H' a = some (.tup xs) := e.keep _ _ h fun _ z => by cases z
theorem Sm.seq {K : PySem.W.Frag} {H H' : Hp} (e : Sm H H') {a : Addr} {xs : List V} (h : SqL K H a xs) : SqL K H' a xs := by
  rcases h with (h | ⟨o, h⟩) | h
  · exact .inl (.inl (e.l h))
  · exact .inl (.inr ⟨o, e.keep _ _ h fun _ z => by cases z⟩)
  · exact .inr h
theorem Sm.tup {K : PySem.W.Frag} {H H' : Hp} (e : Sm H H') {a : Addr} {xs : List V} (h : SqT K H a xs) : SqT K H' a xs := by
  rcases h with (h | ⟨o, h⟩) | h
  · exact .inl (.inl (e.t h))
  · exact .inl (.inr ⟨o, e.keep _ _ h fun _ z => by cases z⟩)
  · exact .inr h
mutual
theorem Sm.dp {K : PySem.W.Frag} {H H' : Hp} (e : Sm H H') : ∀ {d : PyData} {v : V}, Dp K H v d → Dp K H' v d
  | _, _, .non => .non
  | _, _, .bl b => .bl b
  | _, _, .int i => .int i
  | _, _, .str x => .str x
  | _, _, .lst h r => .lst (e.seq h) (e.dpAll r)
  | _, _, .tup h r => .tup (e.tup h) (e.dpAll r)
theorem Sm.dpAll {K : PySem.W.Frag} {H H' : Hp} (e : Sm H H') : ∀ {ds : List PyData} {vs : List V}, DpAll K H vs ds → DpAll K H' vs ds
  | _, _, .nil => .nil
  | _, _, .cons h r => .cons (e.dp h) (e.dpAll r)
end
/-! ### the forms one uses -/
section
variable {K : PySem.W.Frag} {a : Addr} {xs : List V} {g : TG} {te : TE} {σg : L2.St} {H1 : Hp} {P : Addr} {Q : VK} {st : Bool}
/-- over a list -/
theorem gen_list (Pv : Nat → Hp → Prop) (h0 : ∀ H2, GxR.Tabbed P H1 H2 → Pv 0 H2) (hl : ∀ i H, i ≤ xs.length → Pv i H → SqL K H a xs)
    (hs : ∀ i x H, xs[i]? = some x → Pv i H → g x σg H fun σ2 H2 => te σ2 H2 fun v H3 => ∃ b, v = V.bl b ∧ if b = st then Q (.bl st) H3 else Pv (i + 1) H3) (hd : ∀ H, Pv xs.length H → Q (.bl (!st)) H) :
    ∀ H2, GxR.Tabbed P H1 H2 → ∃ W : Nat → Nat → Hp → Prop, (∃ m, W 0 m H2) ∧ ∀ i m H, W i m H → ((Itl K a).stop i H ∧ Q (.bl (!st)) H) ∨ ((Itl K a).go i H ∧ ∃ N : Hp → Prop, (∀ H', N H' → ∃ m', m' < m ∧ W (i + 1) m' H') ∧
      ∀ x H', (Itl K a).yld i H x H' → g x σg H' fun σ2 H2 => te σ2 H2 fun v H3 => ∃ b, v = V.bl b ∧ if b = st then Q (.bl st) H3 else N H3) := by
  intro H2 tb
  refine ⟨fun i m H => m = xs.length - i ∧ i ≤ xs.length ∧ Pv i H, ⟨xs.length, by simp, Nat.zero_le _, h0 H2 tb⟩, ?_⟩
  rintro i m H ⟨rfl, hi, p⟩
  have q := hl i H hi p
  by_cases hlt : i < xs.length
  · refine .inr ⟨⟨xs, xs[i], q, List.getElem?_eq_getElem hlt⟩, Pv (i + 1), fun H' p' => ⟨xs.length - (i + 1), by omega, rfl, hlt, p'⟩, fun x H' y => ?_⟩
    obtain ⟨rfl, y⟩ := y
    exact hs i x H' (y xs q) p
  · obtain rfl : i = xs.length := by omega
    exact .inl ⟨⟨xs, q, Nat.le_refl _⟩, hd H p⟩
/-- over a tuple -/
theorem gen_listQ {QF QT : Hp → Prop} (Pv : Nat → Hp → Prop) (h0 : ∀ H2, GxR.Tabbed P H1 H2 → Pv 0 H2) (hl : ∀ i H, i ≤ xs.length → Pv i H → SqL K H a xs)
    (hs : ∀ i x H, xs[i]? = some x → Pv i H → g x σg H fun σ2 H2 => te σ2 H2 fun v H3 => ∃ b, v = V.bl b ∧ if b = st then QF H3 else Pv (i + 1) H3) (hd : ∀ H, Pv xs.length H → QT H) :
    ∀ H2, GxR.Tabbed P H1 H2 → ∃ W : Nat → Nat → Hp → Prop, (∃ m, W 0 m H2) ∧ ∀ i m H, W i m H → ((Itl K a).stop i H ∧ QT H) ∨ ((Itl K a).go i H ∧ ∃ N : Hp → Prop, (∀ H', N H' → ∃ m', m' < m ∧ W (i + 1) m' H') ∧
      ∀ x H', (Itl K a).yld i H x H' → g x σg H' fun σ2 H2 => te σ2 H2 fun v H3 => ∃ b, v = V.bl b ∧ if b = st then QF H3 else N H3) := by
  intro H2 tb
  refine ⟨fun i m H => m = xs.length - i ∧ i ≤ xs.length ∧ Pv i H, ⟨xs.length, by simp, Nat.zero_le _, h0 H2 tb⟩, ?_⟩
  rintro i m H ⟨rfl, hi, p⟩
  have q := hl i H hi p
  by_cases hlt : i < xs.length
  · refine .inr ⟨⟨xs, xs[i], q, List.getElem?_eq_getElem hlt⟩, Pv (i + 1), fun H' p' => ⟨xs.length - (i + 1), by omega, rfl, hlt, p'⟩, fun x H' y => ?_⟩
    obtain ⟨rfl, y⟩ := y
    exact hs i x H' (y xs q) p
  · obtain rfl : i = xs.length := by omega
    exact .inl ⟨⟨xs, q, Nat.le_refl _⟩, hd H p⟩
/-- over a tuple -/
theorem gen_tup (Pv : Nat → Hp → Prop) (h0 : ∀ H2, GxR.Tabbed P H1 H2 → Pv 0 H2) (hl : ∀ i H, i ≤ xs.length → Pv i H → SqT K H a xs)
    (hs : ∀ i x H, xs[i]? = some x → Pv i H → g x σg H fun σ2 H2 => te σ2 H2 fun v H3 => ∃ b, v = V.bl b ∧ if b = st then Q (.bl st) H3 else Pv (i + 1) H3) (hd : ∀ H, Pv xs.length H → Q (.bl (!st)) H) :
    ∀ H2, GxR.Tabbed P H1 H2 → ∃ W : Nat → Nat → Hp → Prop, (∃ m, W 0 m H2) ∧ ∀ i m H, W i m H → ((Itt K a).stop i H ∧ Q (.bl (!st)) H) ∨ ((Itt K a).go i H ∧ ∃ N : Hp → Prop, (∀ H', N H' → ∃ m', m' < m ∧ W (i + 1) m' H') ∧
      ∀ x H', (Itt K a).yld i H x H' → g x σg H' fun σ2 H2 => te σ2 H2 fun v H3 => ∃ b, v = V.bl b ∧ if b = st then Q (.bl st) H3 else N H3) := by
  intro H2 tb
  refine ⟨fun i m H => m = xs.length - i ∧ i ≤ xs.length ∧ Pv i H, ⟨xs.length, by simp, Nat.zero_le _, h0 H2 tb⟩, ?_⟩
  rintro i m H ⟨rfl, hi, p⟩
  have q := hl i H hi p
  by_cases hlt : i < xs.length
  · refine .inr ⟨⟨xs, xs[i], q, List.getElem?_eq_getElem hlt⟩, Pv (i + 1), fun H' p' => ⟨xs.length - (i + 1), by omega, rfl, hlt, p'⟩, fun x H' y => ?_⟩
    obtain ⟨rfl, y⟩ := y
    exact hs i x H' (y xs q) p
  · obtain rfl : i = xs.length := by omega
    exact .inl ⟨⟨xs, q, Nat.le_refl _⟩, hd H p⟩
end
end GX

/-! ### sum of a generator expression -/
namespace GX
open PySem PySem.Spec PyProof.Rows L2 Cm
open Sem (wp)
theorem hu_rm {k : Nat} {A : Around} (hr : Room k A) : A.units + 64 < cLine := by
  have := hr.un
  omega
/-- the total stands in the list at SA -/
def TotAt (SA : Addr) (a : Int) (s : Shared) : Prop := ∃ (t : Tok) (c : Nat), s.heap.get? SA = some { cls := .type "list", dict := none, data := .seq #[.int a t] c, slots := #[] }
theorem TotAt.one {SA : Addr} {a b : Int} {s : Shared} (h : TotAt SA a s) (h2 : TotAt SA b s) : a = b := by
  obtain ⟨t, c, e⟩ := h
  obtain ⟨t2, c2, e2⟩ := h2
  rw [e] at e2
  injection e2 with e2
  injection e2 with _ _ e2 _
  injection e2 with e2 _
  have e3 := congrArg (fun (x : Array Value) => x[0]?) e2
  simp at e3
  exact e3.1
theorem TotAt.at {SA : Addr} {a : Int} {s s' : Shared} (h : TotAt SA a s) (e : s'.heap.get? SA = s.heap.get? SA) : TotAt SA a s' := by
  obtain ⟨t, c, q⟩ := h
  exact ⟨t, c, e.trans q⟩
section
variable {X : Cx} {pins : List (Addr × Obj)} {σ : L2.St} {H4 : Hp} {s4 : Shared} {scope : Scope} {own : List (Str × Nat)} {ext : List Str} {tg elt iter : Expr} {code : Value} {fp sx : List Addr} {J : It} {it : Addr} {tn : Nat → Heap → Prop} {pos : Pos}
def gYS (X : Cx) (fp sx : List Addr) (s4 : Shared) (H4 : Hp) (tn : Nat → Heap → Prop) (SA : Addr) (W : Nat → Nat → Int → Hp → Prop) (Yd : Nat → Nat → Int → V → Hp → Prop) : Protocol := fun n s0 v s kap =>
  ∃ (y : V) (i m : Nat) (a : Int) (H : Hp), TotAt SA a s0 ∧ RelV y v ∧ Yd i m a y H ∧ CO X fp sx s4 H4 H s ∧ tn (i + 1) s.heap ∧ (∀ b ∈ sx, s.heap.get? b = s0.heap.get? b) ∧ m ≤ n ∧ ∀ m' a' s', m' < m → W (i + 1) m' a' H → TotAt SA a' s' → Kp sx s s' → kap (.send .none) s'
def gES (X : Cx) (fp sx : List Addr) (s4 : Shared) (H4 : Hp) (SA : Addr) (Dn : Int → Hp → Prop) : Nat → Shared → Shared → Prop := fun _ s0 s => ∃ a H, TotAt SA a s0 ∧ Dn a H ∧ CO X fp sx s4 H4 H s ∧ ∀ b ∈ sx, s.heap.get? b = s0.heap.get? b
theorem seg_loopS {Ag : Around} {SA : Addr} (S : GSt X pins σ scope own ext tg code H4 s4 J fp it tn) (hfr : Ag.frames = some X.stack) (hh : Ag.handled = none) {g : TG} {te : TE}
    (hg : PG (gCx X scope code fp s4 H4 (Ag.over (gLoop X tg elt iter scope pos it s4 code) []) ext) tg g) (he : PE (gCx X scope code fp s4 H4 (Ag.over (gLoop X tg elt iter scope pos it s4 code) []) ext) elt te)
    (W : Nat → Nat → Int → Hp → Prop) (Dn : Int → Hp → Prop) (Yd : Nat → Nat → Int → V → Hp → Prop)
    (turn : ∀ i m a H, W i m a H → (J.stop i H ∧ Dn a H) ∨ (J.go i H ∧ ∃ Yn : V → Hp → Prop, (∀ v H3, Yn v H3 → Yd i m a v H3) ∧ ∀ x H', J.yld i H x H' → g x (gS σ own ext) H' fun σ2 H2 => te σ2 H2 Yn)) :
    ∀ n i m a H s, m < n → W i m a H → TotAt SA a s → CO X fp sx s4 H4 H s → tn i s.heap →
      Seg (model X.prog X.w) Ag (fun n s0 r s1 => r = .ok .next ∧ gES X fp sx s4 H4 SA Dn n s0 s1) (gYS X fp sx s4 H4 tn SA W Yd) n s (gLoop X tg elt iter scope pos it s4 code) ((model X.prog X.w).den (gLoop X tg elt iter scope pos it s4 code)) [] s := by
  have hB : (Ag.over (gLoop X tg elt iter scope pos it s4 code) []).frames = some (gEnv X scope s4.heap.objs.size code :: X.stack) := by
    show pushEnvs [gEnv X scope s4.heap.objs.size code] (pushEnvs [] Ag.frames) = _
    rw [hfr]
    rfl
  have hBh : (Ag.over (gLoop X tg elt iter scope pos it s4 code) []).handled = none := hh
  intro n
  induction n with
  | zero => exact fun i m a H s hm => absurd hm (Nat.not_lt_zero _)
  | succ n ih =>
    intro i m a H s hm w0 a0 h0 t0
    have I0 := CO.inv S h0 hB hBh
    have ff : ∀ {H' : Hp}, (∀ b ∈ fp, H' b = none) → ∀ b ∈ fp, FpOk (gCx X scope code fp s4 H4 (Ag.over (gLoop X tg elt iter scope pos it s4 code) []) ext) (pinsAt sx s.heap) H' b := fun hn b hb => by
      refine ⟨hn b hb, Nat.ne_of_lt (S.lt b hb), I0.ok.exfs b hb, .inl hb, (I0.ok.exf b hb).2, fun p hp z => ?_⟩
      have q := (of_pinsAt (show p ∈ pinsAt sx s.heap by simpa [gCx] using hp)).1
      exact (h0.sx p.1 q).2.2.2.2.1 (z ▸ hb)
    show Seg _ Ag _ _ _ s _ ((compTurn (.GeneratorExp elt [⟨tg, iter, [], 0⟩] scope pos) 0 (.ref it) .none (gEnv X scope s4.heap.objs.size code)).onRaise (leaving (gEnv X scope s4.heap.objs.size code))) [] s
    rw [compTurn_gen, Sem.onRaise_eq_wrap]
    refine seg_bind_wrap (wpAny_standAt ?_)
    rcases turn i m a H w0 with ⟨stop, dn⟩ | ⟨go, Yn, hYn, step⟩
    · refine seg_bind_wrap (wpAny_mono (S.turn.done (gCx X scope code fp s4 H4 (Ag.over (gLoop X tg elt iter scope pos it s4 code) []) ext) rfl rfl rfl rfl i _ s _ H (fun _ _ => False) I0 (ff h0.fr) t0 stop) (fun r s1 hr => ?_) fun _ _ z => False.elim z)
      obtain ⟨rfl, I1⟩ := hr
      obtain ⟨c1, x1⟩ := h0.of_inv I1 h0.fr
      exact seg_end (.ok .next) ⟨rfl, a, H, a0, dn, c1, x1⟩
    · refine seg_bind_wrap (wpAny_mono (S.turn.item (gCx X scope code fp s4 H4 (Ag.over (gLoop X tg elt iter scope pos it s4 code) []) ext) rfl rfl rfl rfl i _ s _ H (fun _ _ => False) I0 (ff h0.fr) t0 go) (fun r s1 hr => ?_) fun _ _ z => False.elim z)
      obtain ⟨u, rfl, h1⟩ := hr
      refine seg_bind_wrap (wpAny_mono h1 (fun _ s2 h2 => ?_) fun _ _ z => False.elim z)
      obtain ⟨x, H2, I2, rx, y2, t2, f2⟩ := h2
      have I2p := I2.pinned (ff f2) (S.turn.obj _ _ t2)
      refine seg_bind_wrap (wpAny_mono (hg.run _ s2 _ H2 x u _ I2p rx (step x H2 y2)) (fun _ s3 h3 => ?_) fun _ _ z => False.elim z)
      obtain ⟨σ3, H3, I3, q3⟩ := h3
      simp only [List.forIn_nil]
      refine seg_bind_wrap (wpAny_pure ?_)
      simp only [if_true]
      have hy : ∀ v, yieldOut (gEnv X scope s4.heap.objs.size code) v = yieldValue v := fun v => by
        have q : (gEnv X scope s4.heap.objs.size code).scope.isCoroutine = false := S.ok.co
        simp only [yieldOut, q, Bool.false_eq_true, if_false]
      simp only [hy]
      rw [Sem.bind_eq_wrap', Sem.bind_eq_wrap', Sem.wrap_wrap, Sem.wrap_wrap]
      refine seg_wrap (wpAny_mono (he.run _ s3 σ3 H3 _ I3 q3) (fun v s5 h5 => ?_) fun _ _ z => False.elim z)
      obtain ⟨y, H5, I5, ry, q5⟩ := h5
      have pf : ∀ b ∈ fp, ∀ o, s2.heap.get? b = some o → s5.heap.get? b = some o ∧ H5 b = none := fun b hb o e => by
        have z := I5.pin (b, o) (List.mem_append_right _ (List.mem_append_right _ (mem_pinsAt hb e)))
        exact ⟨z.1, z.2.1⟩
      have f5 : ∀ b ∈ fp, H5 b = none := fun b hb => by
        obtain ⟨o, e, _⟩ := S.turn.obj _ _ t2 b hb
        exact (pf b hb o e).2
      have t5 : tn (i + 1) s5.heap := S.turn.keep _ _ _ t2 fun b hb o e => (pf b hb o e).1
      obtain ⟨c5, x5⟩ := h0.of_inv I5.unpinned f5
      refine seg_at (seg_yield rfl rfl rfl ⟨y, i, m, a, H5, a0, ry, hYn _ _ q5, c5, t5, x5, Nat.lt_succ_iff.mp hm, fun m' a' s' hm' w' at' kp => ?_⟩)
      refine seg_again rfl (ih (i + 1) m' a' H5 s' (Nat.lt_of_lt_of_le hm' (Nat.lt_succ_iff.mp hm)) w' at' (c5.kp kp) (S.turn.keep _ _ _ t5 fun b hb o e => kp.keep b o (fun z => (c5.sx b z).2.2.2.2.1 hb) e))
/-- the generator at ga, asleep, the total a at SA -/
structure GAS (X : Cx) (fp sx : List Addr) (s4 : Shared) (H4 : Hp) (tn : Nat → Heap → Prop) (SA : Addr) (W : Nat → Nat → Int → Hp → Prop) (Dn : Int → Hp → Prop) (Yd : Nat → Nat → Int → V → Hp → Prop) (Ag : Around) (a : Int) (ga : Addr) (gi n : Nat) (s : Shared) : Prop where
  gen : s.heap.IsGen ga gi
  mem : ga ∈ sx
  mem2 : SA ∈ sx
  ne : ga ≠ SA
  co : ∃ H, CO X fp sx s4 H4 H s
  goes : ∃ gs, s.gens[gi]? = some gs ∧ ∀ s', TotAt SA a s' → Kp sx s s' → gs.Goes (model X.prog X.w) Ag (fun n s0 r s1 => r = .ok .next ∧ gES X fp sx s4 H4 SA Dn n s0 s1) (gYS X fp sx s4 H4 tn SA W Yd) n (.send .none) s'
theorem Kp.trans {s s' s'' : Shared} (a : Kp sx s s') (b : Kp sx s' s'') : Kp sx s s'' := ⟨b.os.trans a.os, b.bare, fun c o n e => b.keep c o n (a.keep c o n e), b.own⟩
theorem gen_nextS {Ap : Around} {SA : Addr} {a : Int} {W : Nat → Nat → Int → Hp → Prop} {Dn : Int → Hp → Prop} {Yd : Nat → Nat → Int → V → Hp → Prop} {ga : Addr} {gi n : Nat} {s : Shared} {E : Value → Shared → Prop} (S : GSt X pins σ scope own ext tg code H4 s4 J fp it tn) (hh : Ap.handled = none) (hd : Ap.depth < recursionLimit)
    (ha : TotAt SA a s) (h : GAS X fp sx s4 H4 tn SA W Dn Yd Ap.in1 a ga gi (n + 1) s) :
    wpAny (model X.prog X.w) Ap (pyNext (.ref ga)) (fun r s1 => (r = none ∧ ∃ H, Dn a H ∧ CO X fp sx s4 H4 H s1 ∧ TotAt SA a s1) ∨
      ∃ v y i m H, r = some v ∧ RelV y v ∧ Yd i m a y H ∧ CO X fp sx s4 H4 H s1 ∧ TotAt SA a s1 ∧ m ≤ n ∧ ∀ m' a' s', m' < m → W (i + 1) m' a' H → Kp sx s1 s' → s'.gens = s1.gens → s'.heap.get? ga = s1.heap.get? ga → GAS X fp sx s4 H4 tn SA W Dn Yd Ap.in1 a' ga gi n s') E s := by
  obtain ⟨hg, hm, hm2, hne, ⟨H0, c0⟩, gs, hgs, hgo⟩ := h
  have hlt : gi + 1 ≤ s.gens.size := by
    by_cases q : gi < s.gens.size
    · exact q
    · rw [Array.getElem?_eq_none (Nat.le_of_not_lt q)] at hgs
      cases hgs
  refine GenW.wpAny_gsz hlt (wpAny_pyNext_genexpQ (P := gES X fp sx s4 H4 SA Dn) hh (lim_of S c0) hd hg hgs (hgo _ ha ⟨rfl, AllBare.set c0.bare rfl, fun _ _ _ e => e, fun b hb => (c0.sx b hb).1⟩) (fun v s1 gs' hb hy hsz => ?_) (fun s1 he h' hk _ => ?_))
  · obtain ⟨y, i, m, a1, H, at1, ry, yd, c1, t1, x1, hmn, hka⟩ := hy
    obtain rfl : a1 = a := at1.one ha
    have c2 : CO X fp sx s4 H4 H (s1.setGen gi gs') := c1.any rfl (AllBare.set c1.bare hb) fun _ _ e => e
    have at2 : TotAt SA a1 (s1.setGen gi gs') := ha.at (x1 SA hm2)
    refine .inr ⟨v, y, i, m, H, rfl, ry, yd, c2, at2, hmn, fun m' a' s' hm' w' kp hgens hga => ⟨?_, hm, hm2, hne, ⟨H, c2.kp kp⟩, gs', ?_, fun s'' ta kp2 => ?_⟩⟩
    · obtain ⟨o, nm, qn, ho, r⟩ := hg
      exact ⟨o, nm, qn, hga.trans ((x1 ga hm).trans ho), r⟩
    · have hsz2 : gi < s1.gens.size := by
        have q : (s1.setGen gi gs').gens.size = s1.gens.size := GenW.setGen_size _ _ _
        rw [q] at hsz
        exact hsz
      rw [hgens]
      simp [Shared.setGen, hsz2]
    · have kk := kp.trans kp2
      exact hka m' a' s'' hm' w' ta ⟨kk.os, kk.bare, kk.keep, kk.own⟩
  · obtain ⟨a1, H, at1, dn, c1, x1⟩ := he
    obtain rfl : a1 = a := at1.one ha
    have c2 : CO X fp sx s4 H4 H { s1.setGen gi .finished with heap := h' } := c1.any rfl (AllBare.set c1.bare rfl) hk
    refine .inl ⟨rfl, H, dn, c2, ?_⟩
    obtain ⟨t, c, e⟩ := ha
    exact ⟨t, c, hk _ _ ((x1 SA hm2).trans e)⟩
theorem kp_upd {SA : Addr} {s : Shared} {o : Obj} {f : Obj → Obj} {t : Tok} {H : Hp} (c : CO X fp sx s4 H4 H s) (hm : SA ∈ sx) (hS : s.heap.get? SA = some o) (hf : s.heap.update SA f = s.heap.update SA f) (hd : ∃ o', (s.heap.update SA f).get? SA = some o' ∧ ∀ v, o'.data ≠ .cell v) :
    Kp sx s { s with heap := s.heap.update SA f, toks := t } := by
  refine ⟨rfl, c.bare, fun b o' n e => (Heap.get?_update_other _ _ (fun h : SA = b => n (h ▸ hm))).trans e, fun b hb => ?_⟩
  by_cases q : SA = b
  · subst q
    exact hd
  · obtain ⟨⟨o', e, d⟩, _⟩ := c.sx b hb
    exact ⟨o', (Heap.get?_update_other _ _ q).trans e, d⟩
theorem sum_walk {W : Nat → Nat → Int → Hp → Prop} {QD : Int → Hp → Prop} {SA ga : Addr} {gi : Nat} {R : Result → Shared → Prop} (S : GSt X pins σ scope own ext tg code H4 s4 J fp it tn) (hh : X.A.handled = none) (hd : X.A.depth < recursionLimit)
    (hR : ∀ (a : Int) (t : Tok) (H : Hp) (s' : Shared), QD a H → CO X fp sx s4 H4 H s' → R (.ok (.ret (.int a t))) s') :
    ∀ (n : Nat) (s : Shared) (a : Int) (st : Int), (st = 0 ∨ st = 2) → TotAt SA a s → GAS X fp sx s4 H4 tn SA W QD (fun i m a y H => ∃ b, y = V.int b ∧ ∃ m', m' < m ∧ W (i + 1) m' (a + b) H) X.A.in1.in1 a ga gi (n + 1) s →
      codeAny (model X.prog X.w) X.A (.builtin "sum.loop" ⟨[.ref ga, .ref SA, rawInt st, rawInt 0], []⟩) R s := by
  intro n
  induction n with
  | zero =>
    intro s a st hst hat h
    obtain ⟨tA, c0, hS⟩ := id hat
    refine codeAny_builtin F.entry_sum_loop ?_
    rw [Around.under_plainId F.plain_sum_loop _]
    show wpAny _ X.A.in1 (seqItems? (.ref SA) >>= _) _ _ s
    refine wpAny_bind (wpAny_seqItems hS rfl ?_)
    show wpAny _ X.A.in1 (tryCatch (pyNext (.ref ga)) _ >>= _) _ _ s
    refine wpAny_bind (wpAny_tryCatch (wpAny_mono (gen_nextS (E := fun _ _ => False) S hh hd hat h) (fun r s1 hr => ?_) fun _ _ z => False.elim z))
    rcases hr with ⟨rfl, H, dn, c1, _⟩ | ⟨v, y, i, m, H, rfl, ry, ⟨b, rfl, m', hm', w'⟩, c1, at1, hm, more⟩
    · exact wpAny_pure (hR a tA H s1 dn c1)
    · omega
  | succ n ih =>
    intro s a st hst hat h
    have gmem := h.mem2
    have gne := h.ne
    obtain ⟨tA, c0, hS⟩ := id hat
    refine codeAny_builtin F.entry_sum_loop ?_
    rw [Around.under_plainId F.plain_sum_loop _]
    show wpAny _ X.A.in1 (seqItems? (.ref SA) >>= _) _ _ s
    refine wpAny_bind (wpAny_seqItems hS rfl ?_)
    show wpAny _ X.A.in1 (tryCatch (pyNext (.ref ga)) _ >>= _) _ _ s
    refine wpAny_bind (wpAny_tryCatch (wpAny_mono (gen_nextS (E := fun _ _ => False) S hh hd hat h) (fun r s' hr => ?_) fun _ _ z => False.elim z))
    rcases hr with ⟨rfl, H, dn, c1, _⟩ | ⟨v, y, i, m, H, rfl, ry, ⟨b, rfl, m', hm', w'⟩, c1, at1, hm, more⟩
    · exact wpAny_pure (hR a tA H s' dn c1)
    obtain ⟨t, rfl⟩ : ∃ t, v = Value.int b t := ry
    obtain ⟨tB, c1', hS'⟩ := id at1
    have go : ∀ (s'' : Shared) (st' : Int), (st' = 0 ∨ st' = 2) → TotAt SA (a + b) s'' → Kp sx s' s'' → s''.gens = s'.gens → s''.heap.get? ga = s'.heap.get? ga → codeAny (model X.prog X.w) X.A (.builtin "sum.loop" ⟨[.ref ga, .ref SA, rawInt st', rawInt 0], []⟩) R s'' :=
      fun s'' st' h1 h2 h3 h4 h5 => ih s'' (a + b) st' h1 h2 (more m' (a + b) s'' hm' w' h3 h4 h5)
    rcases hst with rfl | rfl
    · show wpAny _ X.A.in1 (if (_ : Bool) = true then (mkInt (a + b) >>= _) else _) _ _ _
      split
      · refine wpAny_bind (wpAny_mkInt ?_)
        show wpAny _ X.A.in1 (updateSeq SA (fun _ => #[.int (a + b) s'.toks]) >>= _) _ _ _
        refine wpAny_bind ?_
        refine wpAny_updateSeq hS' rfl (wpAny_pure ⟨plainId_quiet F.plain_sum_loop _, go _ 0 (.inl rfl) ⟨_, _, Heap.get?_update_self _ hS' rfl⟩ (kp_upd c1 gmem hS' rfl ⟨_, Heap.get?_update_self _ hS' rfl, fun v z => by cases z⟩) rfl (Heap.get?_update_other _ _ gne.symm)⟩)
      · refine wpAny_bind (wpAny_rule ?_)
        refine wpAny_bind (wpAny_attempt (wpAny_holding (wpAny_add_int ?_)))
        show wpAny _ X.A.in1 (updateSeq SA (fun _ => #[.int (a + b) s'.toks]) >>= _) _ _ _
        refine wpAny_bind (wpAny_updateSeq hS' rfl ?_)
        have hS₂ := Heap.get?_update_self (Obj.mapSeq fun _ => #[Value.int (a + b) s'.toks]) hS' rfl
        refine wpAny_bind (wpAny_letGo ?_)
        have k1 : Kp sx s' { s' with heap := s'.heap.update SA (Obj.mapSeq fun _ => #[Value.int (a + b) s'.toks]), toks := s'.toks + 1 } := kp_upd c1 gmem hS' rfl ⟨_, hS₂, fun v z => by cases z⟩
        refine wpAny_bind (wpAny_updateSeq hS₂ rfl (wpAny_pure ⟨plainId_quiet F.plain_sum_loop _, go _ 2 (.inr rfl) ⟨_, _, Heap.get?_update_self _ hS₂ rfl⟩ (k1.trans (kp_upd (c1.kp k1) gmem hS₂ rfl ⟨_, Heap.get?_update_self _ hS₂ rfl, fun v z => by cases z⟩)) rfl ((Heap.get?_update_other _ _ gne.symm).trans (Heap.get?_update_other _ _ gne.symm))⟩))
    · show wpAny _ X.A.in1 ((holding [Value.int b t] (binaryOp .Add (.int a tA) (.int b t))).attempt >>= _) _ _ _
      refine wpAny_bind (wpAny_attempt (wpAny_holding (wpAny_add_int ?_)))
      show wpAny _ X.A.in1 (updateSeq SA (fun _ => #[.int (a + b) s'.toks]) >>= _) _ _ _
      refine wpAny_bind (wpAny_updateSeq hS' rfl ?_)
      have hS₂ := Heap.get?_update_self (Obj.mapSeq fun _ => #[Value.int (a + b) s'.toks]) hS' rfl
      refine wpAny_bind (wpAny_letGo ?_)
      have k1 : Kp sx s' { s' with heap := s'.heap.update SA (Obj.mapSeq fun _ => #[Value.int (a + b) s'.toks]), toks := s'.toks + 1 } := kp_upd c1 gmem hS' rfl ⟨_, hS₂, fun v z => by cases z⟩
      refine wpAny_bind (wpAny_updateSeq hS₂ rfl (wpAny_pure ⟨plainId_quiet F.plain_sum_loop _, go _ 2 (.inr rfl) ⟨_, _, Heap.get?_update_self _ hS₂ rfl⟩ (k1.trans (kp_upd (c1.kp k1) gmem hS₂ rfl ⟨_, Heap.get?_update_self _ hS₂ rfl, fun v z => by cases z⟩)) rfl ((Heap.get?_update_other _ _ gne.symm).trans (Heap.get?_update_other _ _ gne.symm))⟩))
/-- one more object of the consumer's own -/
theorem CO.more {H : Hp} {s s' : Shared} {o : Obj} (S : GSt X pins σ scope own ext tg code H4 s4 J fp it tn) (h : CO X fp sx s4 H4 H s) (os : s'.os = s.os) (bare : AllBare s'.gens) (hk : ∀ b u, s.heap.get? b = some u → s'.heap.get? b = some u) (hS : s'.heap.get? s.heap.objs.size = some o) (hd : ∀ v, o.data ≠ .cell v) : CO X fp (s.heap.objs.size :: sx) s4 H4 H s' := by
  have c := h.any os bare hk
  obtain ⟨m, ob, es, ep, ho, r⟩ := h.ns
  have l4 : s4.heap.objs.size < s.heap.objs.size := Heap.lt_size ho
  have new : ∀ b, s.heap.objs.size ≤ b → H b = none := fun b hb => h.hok.fresh hb
  refine ⟨c.os, c.bare, c.un, c.hok, c.ns, c.free, c.fr, fun b hb => ?_⟩
  rcases List.mem_cons.mp hb with e | e
  · rw [e]
    refine ⟨⟨o, hS, hd⟩, new _ (Nat.le_refl _), Nat.ne_of_gt l4, fun z => ?_, fun z => ?_, ?_⟩
    · rcases List.mem_cons.mp (S.inv.stkSub _ z) with e | e
      · have z2 := S.inv.lt
        rw [← e] at z2
        exact absurd (Nat.lt_trans l4 z2) (Nat.lt_irrefl _)
      · exact S.inv.nofs (Nat.le_of_lt l4) e
    · exact absurd (Nat.lt_trans l4 (S.lt _ z)) (Nat.lt_irrefl _)
    · cases q : s4.heap.get? s.heap.objs.size with
      | none => rfl
      | some u => exact absurd (Nat.lt_trans l4 (Heap.lt_size q)) (Nat.lt_irrefl _)
  · exact c.sx b e
end
section
variable {X : Cx} {pins : List (Addr × Obj)} {σ : L2.St} {H : Hp} {s : Shared} {scope : Scope} {own : List (Str × Nat)} {ext : List Str} {tg elt iter : Expr} {pos p cpos : Pos} {c P : Addr} {wi : TI} {k : Nat} {g : TG} {te : TE}
/-- sum(..) of the expression over ints -/
def tSumG (P : Addr) (wi : TI) (g : TG) (te : TE) (own : List (Str × Nat)) (ext : List Str) : TE := fun σ H Q => wi σ H fun J H1 => GxR.TabG H1 P ∧ ∀ H2, GxR.Tabbed P H1 H2 → ∃ W : Nat → Nat → Int → Hp → Prop, (∃ m, W 0 m 0 H2) ∧
  ∀ i m a H, W i m a H → (J.stop i H ∧ Q (.int a) H) ∨ (J.go i H ∧ ∃ N : Int → Hp → Prop, (∀ a' H', N a' H' → ∃ m', m' < m ∧ W (i + 1) m' a' H') ∧ ∀ x H', J.yld i H x H' → g x (gS σ own ext) H' fun σ2 H2 => te σ2 H2 fun v H3 => ∃ b, v = V.int b ∧ N (a + b) H3)
theorem pe_sumG (hr : Room (k + 2) X.A) (hg : Gl X "sum") (hm : X.mg "sum" = none) (TB : GxR.TabB X.base X.mg c P) (hcode : X.env.code = .ref c) (G : GOk X.N X.env.scope scope own ext) (hi : PI X tg iter wi)
    (ht : ∀ (code : Value) (fp : List Addr) (s4 : Shared) (H4 : Hp) (B : Around), PG (gCx X scope code fp s4 H4 B ext) tg g) (he : ∀ (code : Value) (fp : List Addr) (s4 : Shared) (H4 : Hp) (B : Around), Room k B → PE (gCx X scope code fp s4 H4 B ext) elt te)
    (hb : bootBuiltins "sum" = some (.builtin "sum") := by decide +kernel)
    (hs : ∀ v, genFold iter X.env v = pure v := by intro _; rfl) (hst : starEach [.GeneratorExp elt [⟨tg, iter, [], 0⟩] scope pos] X.env = (false, eval (.GeneratorExp elt [⟨tg, iter, [], 0⟩] scope pos) X.env) :: starEach [] X.env := by rfl) :
    PE X (.Call (.Name "sum" p) [.GeneratorExp elt [⟨tg, iter, [], 0⟩] scope pos] [] cpos) (tSumG P wi g te own ext) := by
  constructor
  intro pins s σ H Q I h
  refine wpAny_Call_Name_kw (ld_blt I hg hm hb (PyProof.Rows.callWith_builtin1 ?_ hst (by rfl)))
  rw [hst]
  show wpAny _ _ (spliced ((false, eval (.GeneratorExp elt [⟨tg, iter, [], 0⟩] scope pos) X.env) :: backTo cpos (starEach [] X.env))) _ _ s
  refine Calls.spliced_cons (gen_eval hr TB hcode G hi hs I h fun J fp it tn H1 H4 s4 s5 code ga gi q htab S t5 c5 hgen hgs => Calls.spliced_nil ?_)
  obtain ⟨W, ⟨m, w0⟩, turn⟩ := q H4 htab
  have rm : Room k (X.A.in1.in1.over (gLoop X tg elt iter scope pos it s4 code) []) := room_over (room_in1 hr) rfl rfl
  refine call_function_tree F.kind_sum F.plain_sum F.entry_sum (F.args_sum1 _) ?_
  unfold Builtin.«sum»
  simp only [List.length_cons, List.length_nil]
  rw [if_neg (by decide)]
  refine wpAny_bind (wpAny_of_eq (show Builtin.Builtins.bindParams "sum" ["start"] 0 { } = pure [none] from rfl) ?_)
  refine wpAny_bind (wpAny_pyIter_gen hgen ?_)
  refine wpAny_bind (wpAny_mkInt ?_)
  refine wpAny_bind (wpAny_pure ?_)
  simp only [List.forIn_cons, List.forIn_nil]
  refine wpAny_bind (wpAny_bind (wpAny_bind (wpAny_isInstance (T := "int") (b := false) (typeIs_int _ _ _) PySem.sub_int_str ?_)))
  simp only [Bool.false_eq_true, if_false]
  refine wpAny_pure (wpAny_bind (wpAny_bind (wpAny_isInstance (T := "int") (b := false) (typeIs_int _ _ _) PySem.sub_int_bytes ?_)))
  simp only [Bool.false_eq_true, if_false]
  refine wpAny_pure (wpAny_bind (wpAny_bind (wpAny_isInstance (T := "int") (b := false) (typeIs_int _ _ _) PySem.sub_int_bytearray ?_)))
  simp only [Bool.false_eq_true, if_false]
  refine wpAny_pure (wpAny_pure ?_)
  refine wpAny_bind (wpAny_newObj_type ?_)
  have gaS : ga < s5.heap.objs.size := by
    obtain ⟨o, nm, qn, ho, _⟩ := hgen
    exact Heap.lt_size ho
  refine wpAny_pure ⟨plainId_quiet F.plain_sum_loop _, ?_⟩
  have hk : ∀ (b : Addr) (u : Obj), s5.heap.get? b = some u → (s5.heap.push { cls := .type "list", data := .seq #[.int 0 s5.toks] }).get? b = some u := fun b u e => Heap.get?_push_of_some _ e
  have hS : (s5.heap.push { cls := .type "list", data := .seq #[.int 0 s5.toks] }).get? s5.heap.objs.size = some { cls := .type "list", data := .seq #[.int 0 s5.toks] } := Heap.get?_push_size _ rfl
  have c6 := CO.more (s' := { s5 with heap := s5.heap.push { cls := .type "list", data := .seq #[.int 0 s5.toks] }, toks := s5.toks + 1 }) S c5 rfl c5.bare hk hS (fun v z => by cases z)
  have t6 : tn 0 (s5.heap.push { cls := .type "list", data := .seq #[.int 0 s5.toks] }) := S.turn.keep _ _ _ t5 fun b hb o e => hk b o e
  have hat : TotAt s5.heap.objs.size 0 { s5 with heap := s5.heap.push { cls := .type "list", data := .seq #[.int 0 s5.toks] }, toks := s5.toks + 1 } := ⟨_, _, hS⟩
  refine sum_walk (W := W) (QD := fun a H' => Q (.int a) H') S hr.hd hr.depth (fun a t H' s' hb hc => EP_of (v := .int a) S hc ⟨t, rfl⟩ hb) m _ 0 0 (.inl rfl) hat ⟨?_, List.mem_cons_of_mem _ List.mem_cons_self, List.mem_cons_self, Nat.ne_of_lt gaS, ⟨H4, c6⟩, _, hgs, fun s' ta kp => ⟨rfl, ?_⟩⟩
  · obtain ⟨o, nm, qn, ho, r⟩ := hgen
    exact ⟨o, nm, qn, hk _ _ ho, r⟩
  have t7 : tn 0 s'.heap := S.turn.keep _ _ _ t6 fun b hb o e => kp.keep b o (fun z => (c6.sx b z).2.2.2.2.1 hb) e
  refine seg_first (Ag := X.A.in1.in1) S hr.hd t7 (seg_loopS (Ag := X.A.in1.in1) S S.inv.ok.frames hr.hd (ht ..) (he _ _ _ _ _ rm) W _ _ (fun i m a H w => ?_) (m + 1) 0 m 0 H4 s' (Nat.lt_succ_self m) w0 ta (c6.kp kp) t7)
  rcases turn i m a H w with z | ⟨go, N, hN, step⟩
  · exact .inl z
  · exact .inr ⟨go, _, fun v H3 ⟨b, e, q⟩ => ⟨b, e, hN _ _ q⟩, step⟩
end
/-! ### readings over any walk -/
section
variable {J : It} {n : Nat} {G : Hp → Prop} {Y : Nat → Hp → V → Hp → Prop} {g : TG} {te : TE} {σg : L2.St} {H1 : Hp} {P : Addr} {Q : VK} {st : Bool}
/-- any, all over any walk -/
theorem gen_it (w : Walk J n G Y) (Pv : Nat → Hp → Prop) (h0 : ∀ H2, GxR.Tabbed P H1 H2 → Pv 0 H2) (hG : ∀ i H, i ≤ n → Pv i H → G H)
    (hs : ∀ i x H H', i < n → Pv i H → Y i H x H' → g x σg H' fun σ2 H2 => te σ2 H2 fun v H3 => ∃ b, v = V.bl b ∧ if b = st then Q (.bl st) H3 else Pv (i + 1) H3) (hd : ∀ H, Pv n H → Q (.bl (!st)) H) :
    ∀ H2, GxR.Tabbed P H1 H2 → ∃ W : Nat → Nat → Hp → Prop, (∃ m, W 0 m H2) ∧ ∀ i m H, W i m H → (J.stop i H ∧ Q (.bl (!st)) H) ∨ (J.go i H ∧ ∃ N : Hp → Prop, (∀ H', N H' → ∃ m', m' < m ∧ W (i + 1) m' H') ∧
      ∀ x H', J.yld i H x H' → g x σg H' fun σ2 H2 => te σ2 H2 fun v H3 => ∃ b, v = V.bl b ∧ if b = st then Q (.bl st) H3 else N H3) := by
  intro H2 tb
  refine ⟨fun i m H => m = n - i ∧ i ≤ n ∧ Pv i H, ⟨n, by simp, Nat.zero_le _, h0 H2 tb⟩, ?_⟩
  rintro i m H ⟨rfl, hi, p⟩
  have q := hG i H hi p
  by_cases hlt : i < n
  · exact .inr ⟨w.goes i H hlt q, Pv (i + 1), fun H' p' => ⟨n - (i + 1), by omega, rfl, hlt, p'⟩, fun x H' y => hs i x H H' hlt p (w.yields i H x H' hlt q y)⟩
  · obtain rfl : i = n := by omega
    exact .inl ⟨w.stops H q, hd H p⟩
/-- sum over any walk: Pv also tells the total -/
theorem sum_it (w : Walk J n G Y) (Pv : Nat → Int → Hp → Prop) (h0 : ∀ H2, GxR.Tabbed P H1 H2 → Pv 0 0 H2) (hG : ∀ i a H, i ≤ n → Pv i a H → G H)
    (hs : ∀ i a x H H', i < n → Pv i a H → Y i H x H' → g x σg H' fun σ2 H2 => te σ2 H2 fun v H3 => ∃ b, v = V.int b ∧ Pv (i + 1) (a + b) H3) (hd : ∀ a H, Pv n a H → Q (.int a) H) :
    ∀ H2, GxR.Tabbed P H1 H2 → ∃ W : Nat → Nat → Int → Hp → Prop, (∃ m, W 0 m 0 H2) ∧ ∀ i m a H, W i m a H → (J.stop i H ∧ Q (.int a) H) ∨ (J.go i H ∧ ∃ N : Int → Hp → Prop, (∀ a' H', N a' H' → ∃ m', m' < m ∧ W (i + 1) m' a' H') ∧
      ∀ x H', J.yld i H x H' → g x σg H' fun σ2 H2 => te σ2 H2 fun v H3 => ∃ b, v = V.int b ∧ N (a + b) H3) := by
  intro H2 tb
  refine ⟨fun i m a H => m = n - i ∧ i ≤ n ∧ Pv i a H, ⟨n, by simp, Nat.zero_le _, h0 H2 tb⟩, ?_⟩
  rintro i m a H ⟨rfl, hi, p⟩
  have q := hG i a H hi p
  by_cases hlt : i < n
  · exact .inr ⟨w.goes i H hlt q, Pv (i + 1), fun a' H' p' => ⟨n - (i + 1), by omega, rfl, hlt, p'⟩, fun x H' y => hs i a x H H' hlt p (w.yields i H x H' hlt q y)⟩
  · obtain rfl : i = n := by omega
    exact .inl ⟨w.stops H q, hd a H p⟩
end
end GX

/-! ### sum of a generator expression with one if -/
namespace GX
open PySem PySem.Spec PyProof.Rows L2 Cm
open Sem (wp)
abbrev fLoop (X : Cx) (tg elt iter cd : Expr) (scope : Scope) (pos : Pos) (it : Addr) (s4 : Shared) (code : Value) : Code :=
  .compLoop (.GeneratorExp elt [⟨tg, iter, [cd], 0⟩] scope pos) 0 (.ref it) .none (gEnv X scope s4.heap.objs.size code)
abbrev fFirst (X : Cx) (tg elt iter cd : Expr) (scope : Scope) (pos : Pos) (it : Addr) (s4 : Shared) (code : Value) : Code :=
  .compStart (.GeneratorExp elt [⟨tg, iter, [cd], 0⟩] scope pos) 0 (.ref it) .none (gEnv X scope s4.heap.objs.size code)
section
variable {X : Cx} {pins : List (Addr × Obj)} {σ : L2.St} {H4 : Hp} {s4 : Shared} {scope : Scope} {own : List (Str × Nat)} {ext : List Str} {tg elt iter cd : Expr} {code : Value} {fp sx : List Addr} {J : It} {it : Addr} {tn : Nat → Heap → Prop} {pos : Pos}
theorem seg_firstF {Ag : Around} (S : GSt X pins σ scope own ext tg code H4 s4 J fp it tn) (hh : Ag.handled = none) {R : GenEnd} {Y : Protocol} {n : Nat} {s0 s : Shared} (t0 : tn 0 s.heap)
    (loop : Seg (model X.prog X.w) Ag R Y n s0 (fLoop X tg elt iter cd scope pos it s4 code) ((model X.prog X.w).den (fLoop X tg elt iter cd scope pos it s4 code)) [] s) :
    Seg (model X.prog X.w) Ag R Y n s0 (fFirst X tg elt iter cd scope pos it s4 code) ((model X.prog X.w).den (fFirst X tg elt iter cd scope pos it s4 code)) [] s := by
  show Seg _ Ag _ _ _ s0 _ ((compStart (.GeneratorExp elt [⟨tg, iter, [cd], 0⟩] scope pos) 0 (.ref it) .none (gEnv X scope s4.heap.objs.size code)).onRaise (leaving (gEnv X scope s4.heap.objs.size code))) [] s
  unfold compStart
  rw [Sem.onRaise_eq_wrap]
  show Seg _ Ag _ _ _ s0 _ ((ask >>= _).wrap _ _ _ _) [] s
  refine seg_bind_wrap (wpAny_askSetting ?_)
  split
  · exact seg_again rfl loop
  · first
      | exact seg_bind_wrap (wpAny_rule (seg_bind_wrap (wpAny_standAt (seg_bind_wrap (S.turn.self _ 0 s _ _ t0 (seg_again rfl loop))))))
      | (refine seg_bind_wrap (wpAny_rule ?_); show Seg _ Ag _ _ _ s0 _ ((standAt iter.pos >>= _).wrap _ _ _ _) [] s; exact seg_bind_wrap (wpAny_standAt (seg_bind_wrap (S.turn.self _ 0 s _ _ t0 (seg_again rfl loop)))))
theorem seg_loopF {Ag : Around} {SA : Addr} (S : GSt X pins σ scope own ext tg code H4 s4 J fp it tn) (hfr : Ag.frames = some X.stack) (hh : Ag.handled = none) {g : TG} {te : TE} {tt : TT}
    (hg : PG (gCx X scope code fp s4 H4 (Ag.over (fLoop X tg elt iter cd scope pos it s4 code) []) ext) tg g) (he : PE (gCx X scope code fp s4 H4 (Ag.over (fLoop X tg elt iter cd scope pos it s4 code) []) ext) elt te)
    (hc : PT (gCx X scope code fp s4 H4 (Ag.over (fLoop X tg elt iter cd scope pos it s4 code) []) ext) cd tt)
    (W : Nat → Nat → Int → Hp → Prop) (Dn : Int → Hp → Prop) (Yd : Nat → Nat → Int → V → Hp → Prop)
    (turn : ∀ i m a H, W i m a H → (J.stop i H ∧ Dn a H) ∨ (J.go i H ∧ ∃ (Yn : V → Hp → Prop) (Nn : Hp → Prop), (∀ v H3, Yn v H3 → Yd i m a v H3) ∧ (∀ H3, Nn H3 → ∃ m', m' < m ∧ W (i + 1) m' a H3) ∧
      ∀ x H', J.yld i H x H' → g x (gS σ own ext) H' fun σ2 H2 => tt σ2 H2 fun b H3 => if b = true then te σ2 H3 Yn else Nn H3)) :
    ∀ m n i a H s0 s, m < n → W i m a H → TotAt SA a s0 → (∀ b ∈ sx, s.heap.get? b = s0.heap.get? b) → CO X fp sx s4 H4 H s → tn i s.heap →
      Seg (model X.prog X.w) Ag (fun n s0 r s1 => r = .ok .next ∧ gES X fp sx s4 H4 SA Dn n s0 s1) (gYS X fp sx s4 H4 tn SA W Yd) n s0 (fLoop X tg elt iter cd scope pos it s4 code) ((model X.prog X.w).den (fLoop X tg elt iter cd scope pos it s4 code)) [] s := by
  have hB : (Ag.over (fLoop X tg elt iter cd scope pos it s4 code) []).frames = some (gEnv X scope s4.heap.objs.size code :: X.stack) := by
    show pushEnvs [gEnv X scope s4.heap.objs.size code] (pushEnvs [] Ag.frames) = _
    rw [hfr]
    rfl
  have hBh : (Ag.over (fLoop X tg elt iter cd scope pos it s4 code) []).handled = none := hh
  intro m
  induction m using Nat.strongRecOn with
  | ind m ih =>
    intro n i a H s0 s hm w0 a0 es h0 t0
    have I0 := CO.inv S h0 hB hBh
    have ff : ∀ {H' : Hp}, (∀ b ∈ fp, H' b = none) → ∀ b ∈ fp, FpOk (gCx X scope code fp s4 H4 (Ag.over (fLoop X tg elt iter cd scope pos it s4 code) []) ext) (pinsAt sx s.heap) H' b := fun hn b hb => by
      refine ⟨hn b hb, Nat.ne_of_lt (S.lt b hb), I0.ok.exfs b hb, .inl hb, (I0.ok.exf b hb).2, fun p hp z => ?_⟩
      have q := (of_pinsAt (show p ∈ pinsAt sx s.heap by simpa [gCx] using hp)).1
      exact (h0.sx p.1 q).2.2.2.2.1 (z ▸ hb)
    show Seg _ Ag _ _ _ s0 _ ((compTurn (.GeneratorExp elt [⟨tg, iter, [cd], 0⟩] scope pos) 0 (.ref it) .none (gEnv X scope s4.heap.objs.size code)).onRaise (leaving (gEnv X scope s4.heap.objs.size code))) [] s
    rw [compTurn_gen, Sem.onRaise_eq_wrap]
    refine seg_bind_wrap (wpAny_standAt ?_)
    rcases turn i m a H w0 with ⟨stop, dn⟩ | ⟨go, Yn, Nn, hYn, hNn, step⟩
    · refine seg_bind_wrap (wpAny_mono (S.turn.done (gCx X scope code fp s4 H4 (Ag.over (fLoop X tg elt iter cd scope pos it s4 code) []) ext) rfl rfl rfl rfl i _ s _ H (fun _ _ => False) I0 (ff h0.fr) t0 stop) (fun r s1 hr => ?_) fun _ _ z => False.elim z)
      obtain ⟨rfl, I1⟩ := hr
      obtain ⟨c1, x1⟩ := h0.of_inv I1 h0.fr
      exact seg_end (.ok .next) ⟨rfl, a, H, a0, dn, c1, fun b hb => (x1 b hb).trans (es b hb)⟩
    · refine seg_bind_wrap (wpAny_mono (S.turn.item (gCx X scope code fp s4 H4 (Ag.over (fLoop X tg elt iter cd scope pos it s4 code) []) ext) rfl rfl rfl rfl i _ s _ H (fun _ _ => False) I0 (ff h0.fr) t0 go) (fun r s1 hr => ?_) fun _ _ z => False.elim z)
      obtain ⟨u, rfl, h1⟩ := hr
      refine seg_bind_wrap (wpAny_mono h1 (fun _ s2 h2 => ?_) fun _ _ z => False.elim z)
      obtain ⟨x, H2, I2, rx, y2, t2, f2⟩ := h2
      have I2p := I2.pinned (ff f2) (S.turn.obj _ _ t2)
      refine seg_bind_wrap (wpAny_mono (hg.run _ s2 _ H2 x u _ I2p rx (step x H2 y2)) (fun _ s3 h3 => ?_) fun _ _ z => False.elim z)
      obtain ⟨σ3, H3, I3, q3⟩ := h3
      simp only [List.forIn_cons, List.forIn_nil, if_true]
      refine seg_bind_wrap (wpAny_bind (wpAny_bind (wpAny_mono (hc.run _ s3 σ3 H3 _ I3 q3) (fun ok s4' h4 => ?_) fun _ _ z => False.elim z)))
      obtain ⟨H4', I4, q4⟩ := h4
      refine wpAny_pure (wpAny_pure ?_)
      have pf : ∀ {H5 : Hp} {s5 : Shared} {σ5 : L2.St}, Inv (gCx X scope code fp s4 H4 (Ag.over (fLoop X tg elt iter cd scope pos it s4 code) []) ext) (pinsAt sx s.heap ++ pinsAt fp s2.heap) σ5 H5 s5 → (∀ b ∈ fp, H5 b = none) ∧ tn (i + 1) s5.heap := fun {H5 s5 σ5} I5 => by
        have pf : ∀ b ∈ fp, ∀ o, s2.heap.get? b = some o → s5.heap.get? b = some o ∧ H5 b = none := fun b hb o e => by
          have z := I5.pin (b, o) (List.mem_append_right _ (List.mem_append_right _ (mem_pinsAt hb e)))
          exact ⟨z.1, z.2.1⟩
        exact ⟨fun b hb => by
          obtain ⟨o, e, _⟩ := S.turn.obj _ _ t2 b hb
          exact (pf b hb o e).2, S.turn.keep _ _ _ t2 fun b hb o e => (pf b hb o e).1⟩
      cases ok with
      | false =>
        simp only [Bool.false_eq_true, if_false]
        obtain ⟨m', hm', w'⟩ := hNn _ q4
        obtain ⟨f5, t5⟩ := pf I4
        obtain ⟨c5, x5⟩ := h0.of_inv I4.unpinned f5
        exact seg_again rfl (ih m' hm' n (i + 1) a H4' s0 s4' (by omega) w' a0 (fun b hb => (x5 b hb).trans (es b hb)) c5 t5)
      | true =>
        simp only [if_true]
        obtain ⟨n, rfl⟩ : ∃ k, n = k + 1 := ⟨n - 1, by omega⟩
        have hy : ∀ v, yieldOut (gEnv X scope s4.heap.objs.size code) v = yieldValue v := fun v => by
          have q : (gEnv X scope s4.heap.objs.size code).scope.isCoroutine = false := S.ok.co
          simp only [yieldOut, q, Bool.false_eq_true, if_false]
        simp only [hy]
        rw [Sem.bind_eq_wrap', Sem.bind_eq_wrap', Sem.wrap_wrap, Sem.wrap_wrap]
        refine seg_wrap (wpAny_mono (he.run _ s4' σ3 H4' _ I4 q4) (fun v s5 h5 => ?_) fun _ _ z => False.elim z)
        obtain ⟨y, H5, I5, ry, q5⟩ := h5
        obtain ⟨f5, t5⟩ := pf I5
        obtain ⟨c5, x5⟩ := h0.of_inv I5.unpinned f5
        refine seg_at (seg_yield rfl rfl rfl ⟨y, i, m, a, H5, a0, ry, hYn _ _ q5, c5, t5, fun b hb => (x5 b hb).trans (es b hb), Nat.lt_succ_iff.mp hm, fun m' a' s' hm' w' at' kp => ?_⟩)
        refine seg_again rfl (ih m' hm' n (i + 1) a' H5 s' s' (Nat.lt_of_lt_of_le hm' (Nat.lt_succ_iff.mp hm)) w' at' (fun _ _ => rfl) (c5.kp kp) (S.turn.keep _ _ _ t5 fun b hb o e => kp.keep b o (fun z => (c5.sx b z).2.2.2.2.1 hb) e))
end
section
variable {X : Cx} {pins : List (Addr × Obj)} {σ : L2.St} {H : Hp} {s : Shared} {scope : Scope} {own : List (Str × Nat)} {ext : List Str} {tg elt iter cd : Expr} {pos p cpos : Pos} {c P : Addr} {wi : TI} {k : Nat} {g : TG} {te : TE} {tt : TT}
theorem gen_evalF {R : It → Hp → Prop} {Q' : Value → Shared → Prop} (hr : Room k X.A) (TB : GxR.TabB X.base X.mg c P) (hcode : X.env.code = .ref c) (G : GOk X.N X.env.scope scope own ext) (hi : PI X tg iter wi) (hs : ∀ v, genFold iter X.env v = pure v)
    (I : Inv X pins σ H s) (h : wi σ H fun J H1 => GxR.TabG H1 P ∧ R J H1)
    (hQ : ∀ (J : It) (fp : List Addr) (it : Addr) (tn : Nat → Heap → Prop) (H1 H4 : Hp) (s4 s5 : Shared) (code : Value) (ga : Addr) (gi : Nat), R J H1 → GxR.Tabbed P H1 H4 → GSt X pins σ scope own ext tg code H4 s4 J fp it tn → tn 0 s5.heap → CO X fp [ga] s4 H4 H4 s5 →
      s5.heap.IsGen ga gi → s5.gens[gi]? = some (.fresh (fFirst X tg elt iter cd scope pos it s4 code)) → Q' (.ref ga) s5) :
    wpAny (model X.prog X.w) X.A (eval (.GeneratorExp elt [⟨tg, iter, [cd], 0⟩] scope pos) X.env) Q' X.xe s := by
  refine wpAny_GeneratorExp_make G.co (closure_ok (free_cells I G)) G.cell G.dot G.blk.kind hr.depth (thn (hi.run pins s σ H _ I h) fun xv s1 h1 => thn h1 fun itv s2 h2 => ?_) hs
  obtain ⟨it, fp, tn, J, H1, rfl, I2, T, t2, f2, ⟨ps, hP, ht⟩, q⟩ := h2
  have hPs : s2.heap.get? P = some { cls := .none, data := .fields ps } := I2.hok P _ hP
  have cdh : PySem.W.CodeHd s2.heap c P := TB.code.keeps fun b u e => I2.bk b u e
  have nP : ∀ b ∈ fp, b ≠ P := fun b hb z => by
    have z2 := (f2 b hb).1
    rw [z, hP] at z2
    cases z2
  refine ⟨I2.nolimit, ?_⟩
  have cont : ∀ (code : Value) (h3 : Heap) (tk : Nat) (more : Array Value), Heap.ExtBut P s2.heap h3 → h3.get? P = some { cls := .none, data := .fields (ps ++ more) } → TriplesOk (ps ++ more).toList →
      wpAny (model X.prog X.w) X.A (builtinsFor X.env.globals X.env.builtins) (fun bi s₄ => ∀ h', h'.Ns s₄.heap.objs.size (fun y => if y = ".0" then some (.ref it) else none) → Heap.SameBut s₄.heap.objs.size (s₄.heap.push { cls := .type "frame", data := .dict #[] }) h' →
          Q' (.ref h'.objs.size) { s₄ with
            gens := s₄.gens.push (.fresh (.compStart (.GeneratorExp elt [⟨tg, iter, [cd], 0⟩] scope pos) 0 (.ref it) .none (genEnv scope (cloFrom X.env.cells scope.names []) s₄.heap.objs.size code bi X.env))),
            toks := s₄.toks + 1 + 1 + 1,
            heap := h'.push { cls := .type "generator", data := .fields #[.int s₄.gens.size 0, .str "<genexpr>" (s₄.toks + 1), .str (X.env.qual ++ "<genexpr>") (s₄.toks + 1 + 1)] } }) X.xe { s2 with heap := h3, toks := tk } := by
    intro code h3 tk more hx h3P ht3
    have I4 := GxR.inv_tab (more := more) (h' := h3) (g' := s2.gens) (d' := s2.drawn) (t' := tk) I2 hP (fun b u hb e => hx b u hb e) h3P I2.bare
    obtain ⟨bm, ob, e1, e2, e3, e4, e5, e6, e7, e8⟩ := TB.bm
    refine wpAny_builtinsFor (m := X.mg) (by rw [I4.ok.glob]; exact I4.mod.glob.keeps I4.bk) e1 e2 (I4.bk _ _ e5) e6 e7 e8 ?_
    intro h' hn' hs'
    have keep1 : ∀ b o, h3.get? b = some o → h'.get? b = some o := fun b o e => hs'.extBut b o (Nat.ne_of_lt (Heap.lt_size e)) (Heap.get?_push_of_some _ e)
    have sz' : h'.objs.size = h3.objs.size + 1 := by rw [hs'.1, Heap.size_push]
    have keep5 : ∀ b o, h3.get? b = some o → (h'.push { cls := .type "generator", data := .fields #[.int s2.gens.size 0, .str "<genexpr>" (tk + 1), .str (X.env.qual ++ "<genexpr>") (tk + 1 + 1)] }).get? b = some o := fun b o e => Heap.get?_push_of_some _ (keep1 b o e)
    have f4 : ∀ b ∈ fp, FpOk X pins (upd H1 P (.tbl (ps ++ more))) b := fun b hb => ⟨by rw [upd_ne (nP b hb)]; exact (f2 b hb).1, (f2 b hb).2⟩
    have t4 : tn 0 h3 := T.keep _ _ _ t2 fun b hb o e => hx b o (nP b hb) e
    have lt : ∀ b ∈ fp, b < h3.objs.size := fun b hb => by
      obtain ⟨o, e, _⟩ := T.obj _ _ t4 b hb
      exact Heap.lt_size e
    have S : GSt X pins σ scope own ext tg code (upd H1 P (.tbl (ps ++ more))) { s2 with heap := h3, toks := tk } J fp it tn := ⟨I4, G, T, f4, lt⟩
    have nga : ∀ b, h3.objs.size ≤ b → upd H1 P (.tbl (ps ++ more)) b = none := fun b hb => I4.hok.fresh hb
    refine hQ J fp it tn H1 _ { s2 with heap := h3, toks := tk } _ code h'.objs.size s2.gens.size q ⟨⟨_, upd_same, ht3⟩, fun b hb => upd_ne hb⟩ S (T.keep _ _ _ t4 fun b hb o e => keep5 b o e) ⟨rfl, AllBare.push I2.bare rfl, Un.kept keep5, I4.hok.kept keep5, ⟨_, hn'.push _⟩, nga _ (Nat.le_refl _), fun b hb => (f4 b hb).1, fun b hb => ?_⟩ ?_ ?_
    · obtain rfl : b = h'.objs.size := by simpa using hb
      refine ⟨⟨_, Heap.get?_push_size _ rfl, fun v z => by cases z⟩, nga _ (by omega), ?_, fun z => ?_, fun z => ?_, ?_⟩
      · show h'.objs.size ≠ h3.objs.size
        omega
      · rcases List.mem_cons.mp (I4.stkSub _ z) with e | e
        · have z2 := I4.lt
          rw [← e] at z2
          have z3 : h'.objs.size < h3.objs.size := z2
          omega
        · exact I4.nofs (show h3.objs.size ≤ h'.objs.size by omega) e
      · have q5 : (h'.objs.size : Nat) < h3.objs.size := lt _ z
        omega
      · show h3.get? h'.objs.size = none
        cases e : h3.get? h'.objs.size with
        | none => rfl
        | some o =>
          have q5 : (h'.objs.size : Nat) < h3.objs.size := Heap.lt_size e
          omega
    · exact ⟨_, _, _, Heap.get?_push_size _ rfl, rfl, rfl, rfl⟩
    · exact Array.getElem?_push_size ..
  cases hf : codeAmong pos ps.toList with
  | none =>
    refine wpAny_genexprCodeX hcode (cdh.code hPs ht) (cdh.tab hPs) hf fun c' h' tk hx hge hlt hco' _ htab' _ => ?_
    obtain ⟨o1, vs, f1, tf, fl, tg', inF, tx, tt, op, _, _, _, _, _, _, _, _, _, htr, _⟩ := hco'
    exact cont _ h' tk _ hx htab'.2 htr
  | some cv =>
    refine wpAny_genexprCode_hit hcode (cdh.code hPs ht) hf ?_
    exact cont cv s2.heap s2.toks #[] (Heap.ExtBut.refl _ _) (by simpa using hPs) (by simpa using ht)
/-- sum(.. if ..) of the expression over ints -/
def tSumF (P : Addr) (wi : TI) (g : TG) (te : TE) (tt : TT) (own : List (Str × Nat)) (ext : List Str) : TE := fun σ H Q => wi σ H fun J H1 => GxR.TabG H1 P ∧ ∀ H2, GxR.Tabbed P H1 H2 → ∃ W : Nat → Nat → Int → Hp → Prop, (∃ m, W 0 m 0 H2) ∧
  ∀ i m a H, W i m a H → (J.stop i H ∧ Q (.int a) H) ∨ (J.go i H ∧ ∃ N : Int → Hp → Prop, (∀ a' H', N a' H' → ∃ m', m' < m ∧ W (i + 1) m' a' H') ∧ ∀ x H', J.yld i H x H' → g x (gS σ own ext) H' fun σ2 H2 => tt σ2 H2 fun b H3 => if b = true then te σ2 H3 fun v H5 => ∃ b, v = V.int b ∧ N (a + b) H5 else N a H3)
theorem pe_sumF (hr : Room (k + 2) X.A) (hg : Gl X "sum") (hm : X.mg "sum" = none) (TB : GxR.TabB X.base X.mg c P) (hcode : X.env.code = .ref c) (G : GOk X.N X.env.scope scope own ext) (hi : PI X tg iter wi)
    (ht : ∀ (code : Value) (fp : List Addr) (s4 : Shared) (H4 : Hp) (B : Around), PG (gCx X scope code fp s4 H4 B ext) tg g) (he : ∀ (code : Value) (fp : List Addr) (s4 : Shared) (H4 : Hp) (B : Around), Room k B → PE (gCx X scope code fp s4 H4 B ext) elt te) (hc : ∀ (code : Value) (fp : List Addr) (s4 : Shared) (H4 : Hp) (B : Around), Room k B → PT (gCx X scope code fp s4 H4 B ext) cd tt)
    (hb : bootBuiltins "sum" = some (.builtin "sum") := by decide +kernel)
    (hs : ∀ v, genFold iter X.env v = pure v := by intro _; rfl) (hst : starEach [.GeneratorExp elt [⟨tg, iter, [cd], 0⟩] scope pos] X.env = (false, eval (.GeneratorExp elt [⟨tg, iter, [cd], 0⟩] scope pos) X.env) :: starEach [] X.env := by rfl) :
    PE X (.Call (.Name "sum" p) [.GeneratorExp elt [⟨tg, iter, [cd], 0⟩] scope pos] [] cpos) (tSumF P wi g te tt own ext) := by
  constructor
  intro pins s σ H Q I h
  refine wpAny_Call_Name_kw (ld_blt I hg hm hb (PyProof.Rows.callWith_builtin1 ?_ hst (by rfl)))
  rw [hst]
  show wpAny _ _ (spliced ((false, eval (.GeneratorExp elt [⟨tg, iter, [cd], 0⟩] scope pos) X.env) :: backTo cpos (starEach [] X.env))) _ _ s
  refine Calls.spliced_cons (gen_evalF hr TB hcode G hi hs I h fun J fp it tn H1 H4 s4 s5 code ga gi q htab S t5 c5 hgen hgs => Calls.spliced_nil ?_)
  obtain ⟨W, ⟨m, w0⟩, turn⟩ := q H4 htab
  have rm : Room k (X.A.in1.in1.over (fLoop X tg elt iter cd scope pos it s4 code) []) := room_over (room_in1 hr) rfl rfl
  refine call_function_tree F.kind_sum F.plain_sum F.entry_sum (F.args_sum1 _) ?_
  unfold Builtin.«sum»
  simp only [List.length_cons, List.length_nil]
  rw [if_neg (by decide)]
  refine wpAny_bind (wpAny_of_eq (show Builtin.Builtins.bindParams "sum" ["start"] 0 { } = pure [none] from rfl) ?_)
  refine wpAny_bind (wpAny_pyIter_gen hgen ?_)
  refine wpAny_bind (wpAny_mkInt ?_)
  refine wpAny_bind (wpAny_pure ?_)
  simp only [List.forIn_cons, List.forIn_nil]
  refine wpAny_bind (wpAny_bind (wpAny_bind (wpAny_isInstance (T := "int") (b := false) (typeIs_int _ _ _) PySem.sub_int_str ?_)))
  simp only [Bool.false_eq_true, if_false]
  refine wpAny_pure (wpAny_bind (wpAny_bind (wpAny_isInstance (T := "int") (b := false) (typeIs_int _ _ _) PySem.sub_int_bytes ?_)))
  simp only [Bool.false_eq_true, if_false]
  refine wpAny_pure (wpAny_bind (wpAny_bind (wpAny_isInstance (T := "int") (b := false) (typeIs_int _ _ _) PySem.sub_int_bytearray ?_)))
  simp only [Bool.false_eq_true, if_false]
  refine wpAny_pure (wpAny_pure ?_)
  refine wpAny_bind (wpAny_newObj_type ?_)
  have gaS : ga < s5.heap.objs.size := by
    obtain ⟨o, nm, qn, ho, _⟩ := hgen
    exact Heap.lt_size ho
  refine wpAny_pure ⟨plainId_quiet F.plain_sum_loop _, ?_⟩
  have hk : ∀ (b : Addr) (u : Obj), s5.heap.get? b = some u → (s5.heap.push { cls := .type "list", data := .seq #[.int 0 s5.toks] }).get? b = some u := fun b u e => Heap.get?_push_of_some _ e
  have hS : (s5.heap.push { cls := .type "list", data := .seq #[.int 0 s5.toks] }).get? s5.heap.objs.size = some { cls := .type "list", data := .seq #[.int 0 s5.toks] } := Heap.get?_push_size _ rfl
  have c6 := CO.more (s' := { s5 with heap := s5.heap.push { cls := .type "list", data := .seq #[.int 0 s5.toks] }, toks := s5.toks + 1 }) S c5 rfl c5.bare hk hS (fun v z => by cases z)
  have t6 : tn 0 (s5.heap.push { cls := .type "list", data := .seq #[.int 0 s5.toks] }) := S.turn.keep _ _ _ t5 fun b hb o e => hk b o e
  have hat : TotAt s5.heap.objs.size 0 { s5 with heap := s5.heap.push { cls := .type "list", data := .seq #[.int 0 s5.toks] }, toks := s5.toks + 1 } := ⟨_, _, hS⟩
  refine sum_walk (W := W) (QD := fun a H' => Q (.int a) H') S hr.hd hr.depth (fun a t H' s' hb hc => EP_of (v := .int a) S hc ⟨t, rfl⟩ hb) m _ 0 0 (.inl rfl) hat ⟨?_, List.mem_cons_of_mem _ List.mem_cons_self, List.mem_cons_self, Nat.ne_of_lt gaS, ⟨H4, c6⟩, _, hgs, fun s' ta kp => ⟨rfl, ?_⟩⟩
  · obtain ⟨o, nm, qn, ho, r⟩ := hgen
    exact ⟨o, nm, qn, hk _ _ ho, r⟩
  have t7 : tn 0 s'.heap := S.turn.keep _ _ _ t6 fun b hb o e => kp.keep b o (fun z => (c6.sx b z).2.2.2.2.1 hb) e
  refine seg_firstF (Ag := X.A.in1.in1) S hr.hd t7 (seg_loopF (Ag := X.A.in1.in1) S S.inv.ok.frames hr.hd (ht ..) (he _ _ _ _ _ rm) (hc _ _ _ _ _ rm) W _ _ (fun i m a H w => ?_) m (m + 1) 0 0 H4 s' s' (Nat.lt_succ_self m) w0 ta (fun _ _ => rfl) (c6.kp kp) t7)
  rcases turn i m a H w with z | ⟨go, N, hN, step⟩
  · exact .inl z
  · exact .inr ⟨go, _, fun H3 => N a H3, fun v H3 ⟨b, e, q⟩ => ⟨b, e, hN _ _ q⟩, fun H3 q => hN _ _ q, step⟩
end
section
variable {J : It} {n : Nat} {G : Hp → Prop} {Y : Nat → Hp → V → Hp → Prop} {g : TG} {te : TE} {tt : TT} {σg : L2.St} {H1 : Hp} {P : Addr} {Q : VK}
/-- the same with an if, over any walk -/
theorem sum_itF (w : Walk J n G Y) (Pv : Nat → Int → Hp → Prop) (h0 : ∀ H2, GxR.Tabbed P H1 H2 → Pv 0 0 H2) (hG : ∀ i a H, i ≤ n → Pv i a H → G H)
    (hs : ∀ i a x H H', i < n → Pv i a H → Y i H x H' → g x σg H' fun σ2 H2 => tt σ2 H2 fun b H3 => if b = true then te σ2 H3 fun v H5 => ∃ b, v = V.int b ∧ Pv (i + 1) (a + b) H5 else Pv (i + 1) a H3) (hd : ∀ a H, Pv n a H → Q (.int a) H) :
    ∀ H2, GxR.Tabbed P H1 H2 → ∃ W : Nat → Nat → Int → Hp → Prop, (∃ m, W 0 m 0 H2) ∧ ∀ i m a H, W i m a H → (J.stop i H ∧ Q (.int a) H) ∨ (J.go i H ∧ ∃ N : Int → Hp → Prop, (∀ a' H', N a' H' → ∃ m', m' < m ∧ W (i + 1) m' a' H') ∧
      ∀ x H', J.yld i H x H' → g x σg H' fun σ2 H2 => tt σ2 H2 fun b H3 => if b = true then te σ2 H3 fun v H5 => ∃ b, v = V.int b ∧ N (a + b) H5 else N a H3) := by
  intro H2 tb
  refine ⟨fun i m a H => m = n - i ∧ i ≤ n ∧ Pv i a H, ⟨n, by simp, Nat.zero_le _, h0 H2 tb⟩, ?_⟩
  rintro i m a H ⟨rfl, hi, p⟩
  have q := hG i a H hi p
  by_cases hlt : i < n
  · exact .inr ⟨w.goes i H hlt q, Pv (i + 1), fun a' H' p' => ⟨n - (i + 1), by omega, rfl, hlt, p'⟩, fun x H' y => hs i a x H H' hlt p (w.yields i H x H' hlt q y)⟩
  · obtain rfl : i = n := by omega
    exact .inl ⟨w.stops H q, hd a H p⟩
end
end GX

/-! ### own classes: made, their properties, their methods -/
namespace CL
open PySem PySem.Spec PyProof.Rows L2 Cm
/-- the class x at C has the __init__ st -/
def DnI (K : PySem.W.Frag) (mg : Str → Option Value) (x qual : Str) (C : Addr) (st : Stmt) (ps : List Str) : Prop := ∃ (g : Addr) (fd : FuncData), Mk K C g ∧ mg x = some (.ref C) ∧ Fun K "__init__" qual st g fd ∧ Binds K fd ps []
/-- the class at C has the property f -/
def DnP (K : PySem.W.Frag) (C : Addr) (f qual : Str) (st : Stmt) (ps : List Str) : Prop := ∃ (p g : Addr) (fd : FuncData), PropOf K C f p g ∧ Fun K f qual st g fd ∧ Binds K fd ps []
/-- the class at C has the method f -/
def DnM (K : PySem.W.Frag) (C : Addr) (f qual : Str) (st : Stmt) (ps : List Str) : Prop := ∃ (g : Addr) (fd : FuncData), Meth K C f g ∧ Fun K f qual st g fd ∧ Binds K fd ps []
section
variable {K : PySem.W.Frag} {h : Heap} {mg : Str → Option Value} {x qual f : Str} {C p g : Addr} {st : Stmt} {ps : List Str} {oc kV doc pm cdv ct : Value} {od an : Option Addr} {sl : Array (Option Value)}
theorem dni_mk (X : K.In h) (G : h.Ns mainGlobals mg) (a : PySem.W.nsIn K mainGlobals x = some (some (.ref C))) (m : PySem.W.makesIn K C = true) (i : PySem.W.findIn K (.ref C) "__init__" = some (some (.ref g))) (t : PySem.W.isFn K (.ref g) = true) (kc : PySem.W.keepIn K (.ref C) = true)
    (l : K.lookup g = some ⟨oc, od, .func (PySem.W.fnOf "__init__" qual (defArgs st) (defBody st) (defScope st) .none kV doc pm an cdv ct), sl⟩) (c : PySem.W.codeIn K cdv qual = true) (k : PySem.W.keepIn K (.ref g) = true)
    (hb : ∀ (kV doc pm : Value) (an : Option Addr) (cdv ct : Value) (us : List Value), us.length = ps.length → bindArgs (PySem.W.fnOf "__init__" qual (defArgs st) (defBody st) (defScope st) .none kV doc pm an cdv ct) ⟨us, []⟩ = pure (ps.zip us)) : DnI K mg x qual C st ps :=
  ⟨g, _, ⟨m, i, t, kc⟩, PySem.W.mg_of X G a, fun_mk l c k, (fun_mk l c k).binds hb⟩
theorem dnp_mk (a : PySem.W.findIn K (.ref C) f = some (some (.ref p))) (b : PySem.W.specialIn K (.ref p) "__get__" = some (some (.builtin "property.__get__"))) (t : PySem.W.takesIn K (.ref p) = some true) {rest : List Value} (r : PySem.W.recIn K p "property" = some (.ref g :: rest))
    (l : K.lookup g = some ⟨oc, od, .func (PySem.W.fnOf f qual (defArgs st) (defBody st) (defScope st) .none kV doc pm an cdv ct), sl⟩) (c : PySem.W.codeIn K cdv qual = true) (k : PySem.W.keepIn K (.ref g) = true)
    (hb : ∀ (kV doc pm : Value) (an : Option Addr) (cdv ct : Value) (us : List Value), us.length = ps.length → bindArgs (PySem.W.fnOf f qual (defArgs st) (defBody st) (defScope st) .none kV doc pm an cdv ct) ⟨us, []⟩ = pure (ps.zip us)) : DnP K C f qual st ps :=
  ⟨p, g, _, ⟨a, b, t, _, r⟩, fun_mk l c k, (fun_mk l c k).binds hb⟩
theorem dnm_mk (a : PySem.W.findIn K (.ref C) f = some (some (.ref g))) (t : PySem.W.isFn K (.ref g) = true)
    (l : K.lookup g = some ⟨oc, od, .func (PySem.W.fnOf f qual (defArgs st) (defBody st) (defScope st) .none kV doc pm an cdv ct), sl⟩) (c : PySem.W.codeIn K cdv qual = true) (k : PySem.W.keepIn K (.ref g) = true)
    (hb : ∀ (kV doc pm : Value) (an : Option Addr) (cdv ct : Value) (us : List Value), us.length = ps.length → bindArgs (PySem.W.fnOf f qual (defArgs st) (defBody st) (defScope st) .none kV doc pm an cdv ct) ⟨us, []⟩ = pure (ps.zip us)) : DnM K C f qual st ps :=
  ⟨g, _, ⟨a, t, k⟩, fun_mk l c k, (fun_mk l c k).binds hb⟩
end
section
variable (P : Program) (w : World) (K : PySem.W.Frag) (mg : Str → Option Value) (base : Heap) (CX : CXT) (k : Nat)
def OkI (x : Str) (C : Addr) (ps : List Str) (sp : Sp) : Prop := ∃ (g : Addr) (fd : FuncData), FnOk P w K mg base CX k g fd ps sp ∧ Mk K C g ∧ mg x = some (.ref C) ∧ Binds K fd ps []
def OkP (C : Addr) (f : Str) (ps : List Str) (sp : Sp) : Prop := ∃ (p g : Addr) (fd : FuncData), FnOk P w K mg base CX k g fd ps sp ∧ PropOf K C f p g ∧ Binds K fd ps []
def OkM (C : Addr) (f : Str) (ps : List Str) (sp : Sp) : Prop := ∃ (g : Addr) (fd : FuncData), FnOk P w K mg base CX k g fd ps sp ∧ Meth K C f g ∧ Binds K fd ps []
end
section
variable {P : Program} {w : World} {K : PySem.W.Frag} {mg : Str → Option Value} {base : Heap} {CX : CXT} {k : Nat} {x f qual : Str} {C : Addr} {st : Stmt} {ps : List Str} {sp : Sp}
theorem oki_of (d : DnI K mg x qual C st ps) (h : ∀ g fd, Fun K "__init__" qual st g fd → FnOk P w K mg base CX k g fd ps sp) : OkI P w K mg base CX k x C ps sp := by
  obtain ⟨g, fd, M, hm, F, b⟩ := d
  exact ⟨g, fd, h g fd F, M, hm, b⟩
theorem okp_of (d : DnP K C f qual st ps) (h : ∀ g fd, Fun K f qual st g fd → FnOk P w K mg base CX k g fd ps sp) : OkP P w K mg base CX k C f ps sp := by
  obtain ⟨p, g, fd, hp, F, b⟩ := d
  exact ⟨p, g, fd, h g fd F, hp, b⟩
theorem okm_of (d : DnM K C f qual st ps) (h : ∀ g fd, Fun K f qual st g fd → FnOk P w K mg base CX k g fd ps sp) : OkM P w K mg base CX k C f ps sp := by
  obtain ⟨g, fd, hp, F, b⟩ := d
  exact ⟨g, fd, h g fd F, hp, b⟩
end
section
variable {X : Cx} {CX : CXT} {k : Nat} {C : Addr} {ps : List Str} {sp : Sp} {E : XK} {Es : L2.St → XK} {x f : Str} {p pos apos : Pos} {e : Expr} {es : List Expr} {ta : TE} {t : TA}
/-- e.f, a property -/
theorem pe_propO (he : PE X e ta) (c : Cls X.K C) (G : OkP X.prog X.w X.K X.mg X.base CX k C f ps sp) (hr : Room (k + 1) X.A) (hx : Passes CX X.nox E) (hab : attributeBase e f X.env (eval e X.env) = eval e X.env := by rfl) :
    PE X (.Attribute e f pos) (tProp C sp [] E ta) := by
  obtain ⟨p, g, fd, F, hp, b⟩ := G
  exact pe_prop he c hp F hr b .nil hx hab
/-- C(e, ..) -/
theorem pe_makeO (G : OkI X.prog X.w X.K X.mg X.base CX k x C ps sp) (hr : Room (k + 1) X.A) (hx : Passes CX X E) (ha : PA X (e :: es) t) (hg : Gl X x := by rfl)
    (hdb : (x == ("__debug__" : Str)) = false := by decide) (he : starEach (e :: es) X.env = (false, eval e X.env) :: starEach es X.env := by rfl) (hpl : (backTo pos (starEach es X.env)).any (·.1) = false := by rfl) :
    PE X (.Call (.Name x p) (e :: es) [] pos) (tMake C sp [] E t) := by
  obtain ⟨g, fd, F, M, hm, b⟩ := G
  exact pe_make M F hr hg hm b .nil hx ha hdb he hpl
/-- C(e, ..) where what it raises is wished for at the slots -/
def tMakeT (C : Addr) (sp : Sp) (Es : L2.St → XK) (t : TA) : TE := fun σ H Q => t σ H fun vs Hm => ∀ o d, Hm o = none → Hm d = none → d ≠ o →
  sp (.ref o :: vs) (upd (upd Hm d (.own o)) o (.ins C d [])) (fun v He => v = .non ∧ Q (.ref o) He) (Es σ)
theorem make_at {pins : List (Addr × Obj)} {σ : L2.St} {Hm : Hp} {sm : Shared} {Q : VK} {us : List Value} {vs : List V} {g : Addr} {fd : FuncData} (M : Mk X.K C g) (F : FnOk X.prog X.w X.K X.mg X.base CX k g fd ps sp) (hr : Room (k + 1) X.A) (hb : Binds X.K fd ps [])
    (px : PassesAt CX X σ (Es σ)) (J : Inv X pins σ Hm sm) (r : Vals vs us)
    (want : ∀ o d, Hm o = none → Hm d = none → d ≠ o → sp (.ref o :: vs) (upd (upd Hm d (.own o)) o (.ins C d [])) (fun v He => v = .non ∧ Q (.ref o) He) (Es σ)) :
    wpAny (model X.prog X.w) X.A (call (.ref C) us) (EP X pins σ Q) X.xe sm := by
  have n0 := J.hok.fresh (Nat.le_refl sm.heap.objs.size)
  have n1 := J.hok.fresh (Nat.le_succ sm.heap.objs.size)
  have wh := want _ _ n1 n0 (Nat.ne_of_lt (Nat.lt_succ_self _))
  have Jm := Inv.made (C := C) J
  have rr : Vals (V.ref (sm.heap.objs.size + 1) :: vs) (Value.ref (sm.heap.objs.size + 1) :: us) := .cons rfl r
  have len : (Value.ref (sm.heap.objs.size + 1) :: us).length = ps.length := by rw [← rr.length]; exact F.len _ _ _ _ wh
  have bd := hb _ (Value.ref (sm.heap.objs.size + 1) :: us) Jm.kIn (by rw [List.append_nil]; exact len)
  rw [List.append_nil] at bd
  have go := F.run _ X.stack _ _ ⟨Value.ref (sm.heap.objs.size + 1) :: us, []⟩ _ _ _ (Es σ) (hr.make C us []) (Jm.env0.make C us []) bd rr wh
  refine wpAny_call (make_map (f := g) J.kIn M.makes M.init (beq_iff_eq.mp M.fn) (codeAny_mono go fun res se got => ?_))
  match res, got with
  | .error er, got => exact px pins _ _ er se Jm got
  | .ok (.ret u), got =>
    obtain ⟨v, He, Je, rv, ev, qe⟩ := Jm.after got
    cases ev
    exact ⟨rv, ⟨V.ref (sm.heap.objs.size + 1), He, Je, rfl, qe⟩⟩
  | .ok .next, got => exact got.elim
  | .ok .brk, got => exact got.elim
  | .ok .cont, got => exact got.elim
theorem pe_makeT (G : OkI X.prog X.w X.K X.mg X.base CX k x C ps sp) (hr : Room (k + 1) X.A) (px : ∀ σ, PassesAt CX X σ (Es σ)) (ha : PA X (e :: es) t) (hg : Gl X x := by rfl)
    (hdb : (x == ("__debug__" : Str)) = false := by decide) (he : starEach (e :: es) X.env = (false, eval e X.env) :: starEach es X.env := by rfl) (hpl : (backTo pos (starEach es X.env)).any (·.1) = false := by rfl) :
    PE X (.Call (.Name x p) (e :: es) [] pos) (tMakeT C sp Es t) := by
  obtain ⟨g, fd, F, M, hm, b⟩ := G
  constructor
  intro pins sm σ Hm Q J want
  refine wpAny_Call_Name_kw (ld_glob J hg hm ?_ hdb)
  refine PySem.W.callWith_K (h₀ := X.base) J.ok.mod.kin M.kp ?_ he hpl
  refine thn (ha.run pos pins sm σ Hm _ J want) fun us sn ⟨vs, Hn, Jn, r, wn⟩ => ?_
  exact ⟨Jn.kIn, make_at M F hr b (px σ) Jn r wn⟩
end
end CL

/-! ### three comparisons in a row -/
namespace CH3
open PySem PySem.Spec PyProof.Rows L2 Cm
open Sem (wp)
variable {X : Cx} {a b c d : Expr} {pos : Pos} {ta tb tc td : TE}
/-- the rest of a row, from its second comparison on: y stands to its left -/
def tRest (r2 r3 : R2) (tc td : TE) (y : V) : TE := fun σ H Q => tc σ H fun u H4 => r2 y u H4 fun z H5 => ∃ k, z = V.bl k ∧ (if k = true then td σ H5 fun v H6 => r3 u v H6 Q else Q (.bl false) H5)
def tThree (r1 r2 r3 : R2) (ta tb tc td : TE) : TE := fun σ H Q => ta σ H fun x H1 => tb σ H1 fun y H2 => r1 x y H2 fun z H3 => ∃ k, z = V.bl k ∧ (if k = true then tRest r2 r3 tc td y σ H3 Q else Q (.bl false) H3)
theorem pe_three {op1 op2 op3 : CmpOp} {r1 r2 r3 : R2} (h1 : OpR X (compareOp op1) r1) (h2 : OpR X (compareOp op2) r2) (h3 : OpR X (compareOp op3) r3) (ha : PE X a ta) (hb : PE X b tb) (hc : PE X c tc) (hd : PE X d td)
    (hm : lastMarks [op1, op2, op3] [b, c, d] = false := by with_unfolding_all rfl) : PE X (.Compare a [op1, op2, op3] [b, c, d] pos) (tThree r1 r2 r3 ta tb tc td) := by
  constructor
  intro pins s σ H Q I h
  refine Compare_chain ?_ hm
  refine thn (ha.run pins s σ H _ I h) ?_
  rintro v s1 ⟨x, H1, I1, e1, q1⟩
  refine chain_link ?_
  refine thn (hb.run pins s1 σ H1 _ I1 q1) ?_
  rintro u s2 ⟨y, H2, I2, e2, q2⟩
  refine thn (h1 pins s2 σ H2 x y v u _ I2 e1 e2 q2) ?_
  rintro _ s3 ⟨z, H3, I3, e3, k, rfl, q3⟩
  cases e3
  refine wpAny_truthy_bool ?_
  cases k
  · exact ite_ff ⟨.bl false, H3, I3, rfl, q3⟩
  refine ite_tt (chain_link ?_)
  refine thn (hc.run pins s3 σ H3 _ I3 q3) ?_
  rintro u4 s4 ⟨y4, H4, I4, e4, q4⟩
  refine thn (h2 pins s4 σ H4 y y4 u u4 _ I4 e2 e4 q4) ?_
  rintro _ s5 ⟨z5, H5, I5, e5, k, rfl, q5⟩
  cases e5
  refine wpAny_truthy_bool ?_
  cases k
  · exact ite_ff ⟨.bl false, H5, I5, rfl, q5⟩
  refine ite_tt (chain_last ?_)
  refine thn (hd.run pins s5 σ H5 _ I5 q5) ?_
  rintro u6 s6 ⟨y6, H6, I6, e6, q6⟩
  exact h3 pins s6 σ H6 y4 y6 u4 u6 Q I6 e4 e6 q6
theorem pt_three {op1 op2 op3 : CmpOp} {r1 r2 r3 : R2} (h1 : OpR X (compareOp op1) r1) (h2 : OpR X (compareOp op2) r2) (h3 : OpR X (compareOp op3) r3) (ha : PE X a ta) (hb : PE X b tb) (hc : PE X c tc) (hd : PE X d td)
    (hm : lastMarks [op1, op2, op3] [b, c, d] = false := by with_unfolding_all rfl) : PT X (.Compare a [op1, op2, op3] [b, c, d] pos) (tTest (tThree r1 r2 r3 ta tb tc td)) := by
  constructor
  intro pins s σ H Q I h
  refine isTrue_chain ?_ hm
  refine thn (ha.run pins s σ H _ I h) ?_
  rintro v s1 ⟨x, H1, I1, e1, q1⟩
  refine test_link ?_
  refine thn (hb.run pins s1 σ H1 _ I1 q1) ?_
  rintro u s2 ⟨y, H2, I2, e2, q2⟩
  refine thn (h1 pins s2 σ H2 x y v u _ I2 e1 e2 q2) ?_
  rintro _ s3 ⟨z, H3, I3, e3, k, rfl, q3⟩
  cases e3
  refine wpAny_truthy_bool ?_
  cases k
  · obtain ⟨k', e', q'⟩ := q3
    cases e'
    exact ite_ff ⟨H3, I3, q'⟩
  refine ite_tt (test_link ?_)
  refine thn (hc.run pins s3 σ H3 _ I3 q3) ?_
  rintro u4 s4 ⟨y4, H4, I4, e4, q4⟩
  refine thn (h2 pins s4 σ H4 y y4 u u4 _ I4 e2 e4 q4) ?_
  rintro _ s5 ⟨z5, H5, I5, e5, k, rfl, q5⟩
  cases e5
  refine wpAny_truthy_bool ?_
  cases k
  · obtain ⟨k', e', q'⟩ := q5
    cases e'
    exact ite_ff ⟨H5, I5, q'⟩
  refine ite_tt (test_last ?_)
  refine thn (hd.run pins s5 σ H5 _ I5 q5) ?_
  rintro u6 s6 ⟨y6, H6, I6, e6, q6⟩
  refine thn (h3 pins s6 σ H6 y4 y6 u4 u6 _ I6 e4 e6 q6) ?_
  rintro _ s7 ⟨z7, H7, I7, e7, k, rfl, q7⟩
  cases e7
  exact wpAny_truthy_bool ⟨H7, I7, q7⟩
/-- three tests of ints -/
theorem three {p q r : Prop} [Decidable p] [Decidable q] [Decidable r] {A B : Prop} (h1 : p ∧ q ∧ r → A) (h2 : ¬ (p ∧ q ∧ r) → B) : if (decide (p ∧ q ∧ r)) = true then A else B := by
  by_cases h : p ∧ q ∧ r
  · rw [if_pos (decide_eq_true h)]
    exact h1 h
  · rw [if_neg (by simpa using h)]
    exact h2 h
end CH3

/-! ### a tuple target, the written part named -/
namespace TK
open PySem PySem.Spec PyProof.Rows L2 Cm
theorem pg_tupK {X : Cx} {K : PySem.W.Frag} {es : List Expr} {k : Nat} {pos : Pos} {t : TGs} {n : Nat} (hK : X.K = K) (hc : X.calm = true) (h : PGs X es t)
    (hn : (assignEach es X.env).length = n := by rfl) (hst : (assignEach es X.env).findIdx? (·.1) = none := by rfl) : PG X (.Tuple es k pos) (gTup K n t) := by
  subst hK
  exact pg_tup hc h hn hst
theorem op_notInK {X : Cx} {K : PySem.W.Frag} (h : X.K = K := by rfl) : OpR X (compareOp .NotIn) (rIn K true) := by
  subst h
  exact op_notIn_seq
theorem op_inK {X : Cx} {K : PySem.W.Frag} (h : X.K = K := by rfl) : OpR X (compareOp .In) (rIn K false) := by
  subst h
  exact op_in_seq
def rListOf (K : PySem.W.Frag) : List V → Hp → VK → Prop := fun xs H Q => ∃ p ys, xs = [.ref p] ∧ (SqL K H p ys ∨ SqT K H p ys) ∧ ∀ l, H l = none → Q (.ref l) (upd H l (.lst ys))
theorem call_list_ofK {X : Cx} {K : PySem.W.Frag} (h : X.K = K := by rfl) (hc : X.calm = true := by rfl) : CallR X (.type "list") (rListOf K) := by
  subst h
  exact call_list_of
theorem pi_listK {X : Cx} {K : PySem.W.Frag} {tg e : Expr} {te : TE} (he : PE X e te) (h : X.K = K := by rfl) : PI X tg e (iList K te) := by
  subst h
  exact pi_list he
end TK

/-! ### a starred item, the written part named (wants HandS.Star) -/
namespace TK
open PySem PySem.Spec PyProof.Rows L2 Cm
theorem pa_starK {X : Cx} {K : PySem.W.Frag} {e : Expr} {es : List Expr} {te : TE} {t : TA} {p : Pos} (he : PE X e te) (hr : PA X es t) (h : X.K = K := by rfl) (hs : starEach (.Starred e p :: es) X.env = (true, eval e X.env) :: starEach es X.env := by rfl) : PA X (.Starred e p :: es) (StX.tStar K te t) := by
  subst h
  exact StX.pa_star he hr hs
end TK

/-! ### for i, x in enumerate(xs, k) -/
namespace ES
open PySem PySem.Spec PyProof.Rows L2 Cm
/-- what such a loop goes over: pairs of a count from k0 on and the items of the list at a -/
def Ites (K : PySem.W.Frag) (a : Addr) (k0 : Int) : It where
  go i H := ∃ (xs : List V) (x : V), SqL K H a xs ∧ xs[i]? = some x
  yld i H v H' := ∃ T x, v = .ref T ∧ H T = none ∧ H' = upd H T (.tup [.int (k0 + (i : Nat)), x]) ∧ ∀ xs, SqL K H a xs → xs[i]? = some x
  stop i H := ∃ xs : List V, SqL K H a xs ∧ xs.length = i
def EsAt (a e it : Addr) (k0 : Int) (i : Nat) (h : Heap) : Prop := ((∃ old, IsEnum h e it (k0 + ((i : Nat) : Int)) old) ∧ h.IsListIter it a i) ∧ e ≠ it ∧ e ≠ a ∧ a ≠ it
theorem turn_enumS {P : Program} {w : World} {K : PySem.W.Frag} {elts : List Expr} {kk : Nat} {tpos : Pos} (a e it : Addr) (k0 : Int) : Turn P w K (.Tuple elts kk tpos) (Ites K a k0) [e, it] e (EsAt a e it k0) := by
  refine ⟨List.mem_cons_self, ?obj, ?keep, ?item, ?done, ?self⟩
  case obj =>
    rintro i h ⟨⟨⟨old, he⟩, oi, q1, q2, q3⟩, _⟩ b hb
    rcases List.mem_cons.mp hb with z | z
    · exact ⟨_, z ▸ he, fun v q => by cases q⟩
    · refine ⟨oi, (List.mem_singleton.mp z) ▸ q1, fun v q => ?_⟩
      rw [q3] at q
      cases q
  case keep =>
    rintro i h h' ⟨⟨⟨old, he⟩, hi⟩, hne⟩ k
    exact ⟨⟨⟨old, k e List.mem_cons_self _ he⟩, hi.at fun o q => k it (List.mem_cons_of_mem _ List.mem_cons_self) o q⟩, hne⟩
  case self =>
    rintro A i s Q E ⟨⟨⟨old, he⟩, _⟩, _⟩ h
    exact wpAny_pyIter_enum he h
  case item =>
    rintro X rfl rfl rfl hc i pins s σ H E I hf ⟨⟨hE, hit⟩, hne, hea, hai⟩ ⟨xs, x, hq, hx⟩
    obtain ⟨its, rv, p, _⟩ := I.list hq
    obtain ⟨u, hu, ru⟩ := rv.get hx
    have hd : X.A.in1.handled = none := I.ok.hd hc
    have walk := WalksT.enumFrom (prog := X.prog) (w := X.w) (A := X.A) k0 (Draws.list hd it a hai its.toArray) e hne (by simp [hne, hea]) (by simp)
    have hlt : i < its.toArray.size := by simpa using (List.getElem?_eq_some_iff.mp hu).1
    refine walk.item i s _ E hlt ⟨hE, hit, p.isList⟩ fun T vals h1 tk hP hT hIs hM hk1 => ?_
    obtain ⟨t, x1, hx1, rfl⟩ := hP
    have e1 : x1 = u := by
      have z : its.toArray[i]? = some u := by simpa using hu
      exact Option.some.inj (hx1.symm.trans z)
    subst e1
    refine ⟨_, rfl, walk.go elts kk tpos i T { s with heap := h1, toks := tk } _ E hM fun h2 hS hk2 => ?_⟩
    obtain ⟨o, ho, hcls, nn, hdt⟩ := hIs
    have hT2 := hk2 T o (walk.apart i T h1 hM) ho
    have both : ∀ b o, b ∉ [e, it] → s.heap.get? b = some o → h2.get? b = some o := fun b o hb q => hk2 b o hb (hk1 b o hb q)
    have nw : ObjOk X.prog X.w (upd H T (.tup [.int (k0 + (i : Nat)), x])) h2 T (.tup [.int (k0 + (i : Nat)), x]) := ⟨by show 2 ≤ sizeLine; decide, _, .cons ⟨_, rfl⟩ (.cons ru .nil), o, hT2, hcls, nn, hdt⟩
    refine ⟨.ref T, _, I.turnedNew (t' := tk) both hf hT nw, rfl, ⟨T, x, rfl, I.hok.fresh hT, rfl, fun ys hy => I.list_inj hy hq ▸ hx⟩, ⟨⟨hS.1, hS.2.1⟩, hne, hea, hai⟩, fun b hb => ?_⟩
    have hbl : b < s.heap.objs.size := by
      obtain ⟨old, he⟩ := hE
      obtain ⟨_, q, _⟩ := hit
      rcases List.mem_cons.mp hb with z | z
      · exact z ▸ Heap.lt_size he
      · exact (List.mem_singleton.mp z) ▸ Heap.lt_size q
    rw [upd_ne (Nat.ne_of_lt (Nat.lt_of_lt_of_le hbl hT))]
    exact (hf b hb).1
  case done =>
    rintro X rfl rfl rfl hc i pins s σ H E I hf ⟨⟨⟨old, he⟩, hit⟩, hne, hea, hai⟩ ⟨xs, hq, hx⟩
    obtain ⟨its, rv, p, _⟩ := I.list hq
    obtain ⟨n0, n1, _, n3, n4, n5⟩ := hf it (List.mem_cons_of_mem _ List.mem_cons_self)
    have hd : X.A.in1.handled = none := I.ok.hd hc
    have hs : its.toArray.size = i := by rw [List.size_toArray, ← rv.length, hx]
    refine wpAny_pyNext_enum_endD (Draws.list hd it a hai its.toArray) he ⟨by rw [hs]; exact hit, p.isList⟩ fun h1 eb => ⟨rfl, I.turned (t' := s.toks) (fun b o hb q => eb b o hb q) n0 n1 n3 n4 n5⟩
def iEnumS (K : PySem.W.Frag) (ta : TA) : TI := fun σ H R => ta σ H fun vs H1 => ∃ a xs k0, vs = [.ref a, .int k0] ∧ SqL K H1 a xs ∧ -(2 ^ 63) ≤ k0 ∧ k0 < 2 ^ 63 ∧ R (Ites K a k0) H1
theorem pi_enumS {X : Cx} {e e2 : Expr} {ta : TA} {p pos tpos : Pos} {elts : List Expr} {kk : Nat} (hg : Gl X "enumerate") (hm : X.mg "enumerate" = none) (ha : PA X [e, e2] ta) (hs : starEach [e, e2] X.env = (false, eval e X.env) :: starEach [e2] X.env := by rfl) (hpl : (backTo pos (starEach [e2] X.env)).any (·.1) = false := by rfl) :
    PI X (.Tuple elts kk tpos) (.Call (.Name "enumerate" p) [e, e2] [] pos) (iEnumS X.K ta) := by
  refine ⟨fun pins s σ H R I h => ?_⟩
  refine Call_ (ld_blt I hg hm boot_enumerate (PyProof.Rows.callWith_type1 (thn (ha.run pos pins s σ H _ I h) fun us s1 ⟨vs, H1, I1, r1, q1⟩ => ?_) hs hpl))
  obtain ⟨a, xs, k0, ex, hq, hk0, hk1, q⟩ := q1
  subst ex
  cases r1 with
  | cons r rr =>
    cases rr with
    | cons r2 rr2 =>
      cases rr2
      cases r
      obtain ⟨t2, rfl⟩ := r2
      obtain ⟨its, rv, p', hz⟩ := I1.list hq
      have hal : a < s1.heap.objs.size := by obtain ⟨_, q0, _⟩ := p'.isList; exact Heap.lt_size q0
      refine enum_begins (begins_list a its.toArray) p'.isList hk0 hk1 fun h' he hit hsz hk => wpAny_pyIter_enum he ?_
      have I2 : Inv X pins σ H1 { s1 with heap := h' } := I1.kept (t' := s1.toks) hk
      refine ⟨s1.heap.objs.size + 1, [s1.heap.objs.size + 1, s1.heap.objs.size], _, _, H1, rfl, I2, turn_enumS a (s1.heap.objs.size + 1) s1.heap.objs.size k0, ⟨⟨⟨.none, ?_⟩, _, hit, rfl, rfl⟩, Nat.succ_ne_self _, Nat.ne_of_gt (Nat.lt_succ_of_lt hal), Nat.ne_of_lt hal⟩, fun b hb => ?_, q⟩
      · rw [show k0 + ((0 : Nat) : Int) = k0 by omega]
        exact he
      have e' : b = s1.heap.objs.size + 1 ∨ b = s1.heap.objs.size := by simpa using hb
      have hle : s1.heap.objs.size ≤ b := by
        rcases e' with z | z
        · rw [z]; exact Nat.le_add_right _ _
        · rw [z]; exact Nat.le_refl _
      exact I1.fpOk hle (I1.hok.fresh hle)
theorem for_enumS {K : PySem.W.Frag} {a : Addr} {k0 : Int} {xs : List V} {g : TG} {tb : TS} {D : Ends} {σ : L2.St} {H : Hp} (Pv : Nat → L2.St → Hp → Prop) (h0 : Pv 0 σ H) (hl : ∀ i σ H, i ≤ xs.length → Pv i σ H → SqL K H a xs)
    (hs : ∀ i x T σ H, xs[i]? = some x → Pv i σ H → H T = none → g (.ref T) σ (upd H T (.tup [.int (k0 + (i : Nat)), x])) fun σ2 H2 => tb { D with nx := Pv (i + 1), ct := Pv (i + 1), bk := D.nx } σ2 H2) (hd : ∀ σ H, Pv xs.length σ H → D.nx σ H) :
    ∃ W : Nat → Nat → L2.St → Hp → Prop, (∃ m, W 0 m σ H) ∧ ∀ i m σ H, W i m σ H →
      ((Ites K a k0).stop i H ∧ D.nx σ H) ∨ ((Ites K a k0).go i H ∧ ∃ N : L2.St → Hp → Prop, (∀ σ' H', N σ' H' → ∃ m', m' < m ∧ W (i + 1) m' σ' H') ∧ ∀ x H', (Ites K a k0).yld i H x H' → g x σ H' fun σ2 H2 => tb { D with nx := N, ct := N, bk := D.nx } σ2 H2) := by
  refine ⟨fun i m σ H => m = xs.length - i ∧ i ≤ xs.length ∧ Pv i σ H, ⟨xs.length, by simp, Nat.zero_le _, h0⟩, ?_⟩
  rintro i m σ H ⟨rfl, hi, p⟩
  have q := hl i σ H hi p
  by_cases hlt : i < xs.length
  · refine .inr ⟨⟨xs, xs[i], q, by simp [hlt]⟩, Pv (i + 1), fun σ' H' p' => ⟨xs.length - (i + 1), by omega, rfl, hlt, p'⟩, fun x H' y => ?_⟩
    obtain ⟨T, z, rfl, hT, rfl, y⟩ := y
    exact hs i z T σ H (y xs q) p hT
  · have e : i = xs.length := by omega
    subst e
    exact .inl ⟨⟨xs, q, rfl⟩, hd σ H p⟩
end ES

/-! ### xs.extend(a tuple) -/
namespace ET
open PySem PySem.Spec PyProof.Rows L2 Cm
set_option maxRecDepth 8000 in
theorem list_extend_tup (l : Addr) (items : Array Value) (n : Nat) (b : Addr) (items2 : Array Value) (n2 : Nat) (dd : Option Addr) (sl : Array (Option Value)) (hs0 : ¬(!items.isEmpty && Builtin.List.listTooLong (items.size + items2.size)) = true) (hs1 : items.size ≤ sizeLine) (hs2 : items.size + items2.size ≤ sizeLine + 1) :
    Meets (Builtin.«list.extend» ⟨[.ref l, .ref b], []⟩) (fun _ R s => s.heap.get? l = some { cls := .type "list", dict := none, data := .seq items n, slots := #[] } ∧ s.heap.get? b = some { cls := .type "tuple", dict := dd, data := .seq items2 n2, slots := sl } ∧ R (.ok (.ret Value.none)) { s with heap := s.heap.update l (Obj.mapSeq fun x => x ++ items2), toks := s.toks }) :=
  .of_wp fun prog w A R s h => by
    obtain ⟨hp, g, d, tk, os⟩ := s; obtain ⟨hl, hb, h⟩ := h; have f1 := AutoSeq1.idx_int; have f2 := AutoSeq1.sub_tuple_tuple; have f3 := AutoSeq1.sub_list_list; have f4 := AutoSeq1.sub_tuple_list; have f5 := AutoSeq1.sub_list_tuple;
    have hz' : (items ++ items2).size ≤ sizeLine + 1 := by rw [Array.size_append]; exact hs2
    wp_walk using (wpAny_updateSeq hl rfl (hz := hs1) (_hz' := hz')), AutoSeq1.wpAny_loadPart' hl, AutoSeq1.wpAny_loadPart' hb; exact ⟨_, rfl, h⟩
def rExtT (K : PySem.W.Frag) : V → List V → Hp → VK → Prop := fun x vs H Q => ∃ l b xs zs, x = .ref l ∧ vs = [.ref b] ∧ H l = some (.lst xs) ∧ SqT K H b zs ∧ xs.length + zs.length ≤ sizeLine ∧ Q .non (upd H l (.lst (xs ++ zs)))
theorem mt_extendT {X : Cx} : MtM X "list.extend" (rExtT X.K) := by
  intro pins s σ H x vs v us Q I rx rv h
  obtain ⟨l, b, xs, zs, rfl, rfl, hH, hB, hz, q⟩ := h
  cases rx
  obtain ⟨u, rfl, ru⟩ := rv.one
  cases ru
  obtain ⟨z, its, n, r, hl, e⟩ := I.lstM hH
  obtain ⟨its2, r2, ⟨o, e2, hc, n2, hd⟩, z2⟩ := I.tuple hB
  have hl2 := r2.length
  have hsz : its.toArray.size + its2.toArray.size ≤ sizeLine := by rw [List.size_toArray, List.size_toArray]; omega
  have hlong : ¬ (!its.toArray.isEmpty && Builtin.List.listTooLong (its.toArray.size + its2.toArray.size)) = true := by
    rw [notLongL hsz, Bool.and_false]
    exact Bool.false_ne_true
  have e3 : s.heap.get? b = some { cls := .type "tuple", dict := o.dict, data := .seq its2.toArray n2, slots := o.slots } := by
    obtain ⟨c, d, da, sl⟩ := o
    cases hc
    cases hd
    exact e2
  refine call_meets PySem.F.slot_list_extend ⟨_, e, rfl⟩ PySem.F.entry_list_extend (PySem.F.args_list_extend_2 _ _)
    (list_extend_tup l its.toArray n b its2.toArray n2 o.dict o.slots hlong (by rw [List.size_toArray]; omega) (by omega)) ⟨e, e3, ?_⟩
  refine ⟨.non, _, I.lset (its' := its ++ its2) hH e (by simp) (r.append r2) ?_, rfl, q⟩
  rw [List.length_append]
  omega
end ET

/-! ### an own exception class over ValueError: def __init__(self, p): super().__init__(f'..{p}..'); self.f = p -/
namespace OE
open PySem PySem.Spec PyProof.Rows L2
def iniB (p0 p1 pa pc pe ps pf pp pz pj : Pos) (js : List Expr) (prm fld : Str) : List Stmt :=
  [.Expr (.Call (.Attribute (.Call (.Name "super" p0) [] [] p1) "__init__" pa) [.JoinedStr js pj] [] pc) pe, .Assign [.Attribute (.Name "self" ps) fld pf] (.Name prm pp) pz]
/-- what the written part says of the class and its __init__ -/
structure Ini (P : Program) (K : PySem.W.Frag) (mg : Str → Option Value) (C fI cc cda : Addr) (qual prm fld : Str) (params : Arguments) (scope : Scope) (fd : FuncData) (bd : List Stmt) : Prop where
  fdE : ∃ kV doc pm an ct, fd = PySem.W.fnX "__init__" qual params bd scope [("__class__", cc)] .none kV doc pm an (.ref cda) ct
  lk : ∃ oc od sl, K.lookup fI = some ⟨oc, od, .func fd, sl⟩
  code : PySem.W.codeIn K (.ref cda) qual = true
  file : ∃ ccl cdd vs ccs file tf, K.lookup cda = some ⟨ccl, cdd, .fields vs, ccs⟩ ∧ vs[2]? = some (.str file tf) ∧ ((P.main.file : Str) == file) = true
  cell : ∃ cl cld csl, K.lookup cc = some ⟨cl, cld, .cell (some (.ref C)), csl⟩
  T : OexC K C
  cd : ∃ cd, PySem.W.clsIn K C = some cd
  self : PySem.W.mroIn K C (.ref C) = some true
  sup : mg "super" = none
  opq : PySem.W.nsIn K cStatics "thirdparty.any" = some none
  nxt : PySem.W.ks_superIn K C C "__init__" = some (some (.builtin "ValueError.__init__"))
  ve : PySem.W.subIn K (.ref C) (.type "ValueError") = some true
  top : (P.main.scope.names.lookup ("super" : Str)).isSome = false
  fld : PySem.W.findIn K (.ref C) fld = some none
  S : NdefX.NScope ["self", prm, "__class__"] ["self", prm] ["__class__"] scope
  hs : scope.names.lookup ("super" : Str) = some .globalImplicit
  dbg : (prm == ("__debug__" : Str)) = false
  cdt : (prm == ("__classdict__" : Str)) = false
  par : ∃ ar : Arg, (params.posonlyargs ++ params.args).head? = some ar ∧ ar.arg = "self"
section
open Builtin
variable {prog : Program} {w : World} {A : Around} {E : Value → Shared → Prop} {h : Heap} {g : Array GenState} {d : Drawn} {t : Nat} {os : OsState}
variable {nm q : Str} {C N : Addr} {bs bm : List Value} {hdct : Bool} {sn : List Str} {sub : List Value} {ab : Bool} {col : Option Bool} {dd : Option Addr} {k0 k1 k2 k3 k5 : Option Value}
theorem call_mw {u e t0 : Addr} {rest : List Value} {Q : Value → Shared → Prop}
    (hC : h.get? C = some (excClassObj nm q C N bs bm hdct sn sub ab col dd k0 k1 k2 k3 k5 "ValueError.__new__")) (he : h.get? e = some (PySem.HandSPX.excO C t0)) (hu : h.get? u = some (PySem.W.kxs_mw "ValueError.__init__" e)) (hrest : rest.length ≤ sizeLine)
    (hq : ∀ h' t1, (∀ b o, b ≠ e → h.get? b = some o → h'.get? b = some o) → h'.get? e = some (PySem.HandSPX.excO C t1) → Q .none ⟨h', g, d, t, os⟩) :
    wpAny (model prog w) A (call (.ref u) rest) Q E ⟨h, g, d, t, os⟩ := by
  refine wpAny_call (codeAny_of_tree ?_)
  show wpAny _ A.in1 (callAny (.ref u) ⟨rest, []⟩) _ _ _
  simp only [callAny]
  refine wpAny_bind (wpAny_load hu ?_)
  simp only [PySem.W.kxs_mw, show (Value.type "method-wrapper" == Value.type "method" || Value.type "method-wrapper" == Value.type "builtin_function_or_method" || Value.type "method-wrapper" == Value.type "method-wrapper") = true by decide, if_true]
  refine PySem.W.KFB.if_so (by decide) ?_
  refine wpAny_bind (PySem.W.check_bound_init PySem.F.excBase_ValueError.toExcCallFacts hC he rfl ?_)
  refine wpAny_bind (wpAny_pure (wpAny_pure ?_))
  refine ⟨plainId_quiet PySem.F.excBase_ValueError.init.plain _, codeAny_builtin PySem.F.excBase_ValueError.initEntry ?_⟩
  rw [Around.under_plainId PySem.F.excBase_ValueError.init.plain _]
  wp_walk
  refine hq _ h.objs.size (fun b o hb ho => ?_) ?_
  · rw [Heap.get?_update_other _ _ (Ne.symm hb)]
    exact Heap.get?_push_of_some _ ho
  · rw [Heap.get?_update_self _ (Heap.get?_push_of_some _ he) rfl]
    rfl
end
def spIni (C : Addr) (fld : Str) : Sp := fun vs H Q _ => ∃ (a : Addr) (i : Int), vs = [.ref a, .int i] ∧ i.natAbs.log2 < 1920 ∧ H a = some (exo a C none) ∧ ∀ d, H d = none → d ≠ a → Q .non (upd (upd H d (exd d [(fld, .int i)])) a (exo a C (some d)))
section
variable {P : Program} {w : World} {K : PySem.W.Frag} {mg : Str → Option Value} {base : Heap} {CX : CXT} {k : Nat} {C fI cc cda : Addr} {qual prm fld : Str} {params : Arguments} {scope : Scope} {js : List Expr} {pj : Pos} {fd : FuncData} {bd : List Stmt}
abbrev nf (qual : Str) (params : Arguments) (bd : List Stmt) (scope : Scope) (cc cda : Addr) : NdefX.NF := ⟨"__init__", qual, params, bd, scope, [("__class__", cc)], cda⟩
theorem look1 {x y : Str} {c c' : Addr} (h : List.lookup y [(x, c)] = some c') : y = x ∧ c' = c := by
  simp only [List.lookup] at h
  split at h
  · rename_i e
    exact ⟨by simpa using e, (Option.some.inj h).symm⟩
  · cases h
theorem ini_ok {p0 p1 pa pc pe ps pf pp pz : Pos} (D : Ini P K mg C fI cc cda qual prm fld params scope fd bd) (hbd : bd = iniB p0 p1 pa pc pe ps pf pp pz pj js prm fld)
    (hcall : ∀ env : Env, ∃ pl : Sem Bool, eval (.Call (.Attribute (.Call (.Name "super" p0) [] [] p1) "__init__" pa) [.JoinedStr js pj] [] pc) env = (do
      let ov ← attributeBase (.Call (.Name "super" p0) [] [] p1) "__init__" env (eval (.Call (.Name "super" p0) [] [] p1) env)
      standAt pa.atName
      let (f, first) ← holding [ov] (getMethod ov "__init__" pl)
      callWith pc f first (backTo pc (starEach [.JoinedStr js pj] env)) []))
    (hj : ∀ (A : Around) (outer : List Env) (s : Shared) (H : Hp) (E : XK), ∃ tj, PE (NdefX.ncx CX P w K mg base ["self", prm, "__class__"] (nf qual params bd scope cc cda) fI A outer s H E) (.JoinedStr js pj) tj ∧
      ∀ (a : Addr) (i : Int) (Q : VK) (H : Hp), i.natAbs.log2 < 1920 → (∀ z, Q (.str z) H) → tj [some (.ref a), some (.int i), some (.ref C)] H Q) :
    FnOk P w K mg base CX (k + 1) fI fd ["self", prm] (spIni C fld) := by
  obtain ⟨kV, doc, pm, an, ct, rfl⟩ := D.fdE
  subst hbd
  obtain ⟨oc, od, sl, lk⟩ := D.lk
  obtain ⟨cl, cld, csl, hcell⟩ := D.cell
  obtain ⟨ccl, cdd, vs0, ccs, file, tf, hcode, hvs, hfile⟩ := D.file
  obtain ⟨ar, har, hself⟩ := D.par
  obtain ⟨cd, hcd⟩ := D.cd
  obtain ⟨nm, q, N, bs, bm, sn, sub, ab, col, dd, k0, k1, k2, k3, k5, hC, hbm⟩ := D.T.cls
  have S := D.S
  refine ⟨fun vs H Q E h => ?_, fun A outer s H args us vs Q E hr e0 hb r hsp => ?_⟩
  · obtain ⟨a, i, rfl, _⟩ := h
    rfl
  obtain ⟨a, i, rfl, hi, ea, kq⟩ := hsp
  have lim : s.heap.NoLimit := e0.mod.nolimit.keeps fun b o e => (e0.bs b o e).1
  have kin : K.In s.heap := e0.mod.kin.keeps fun b o e => (e0.bs b o e).1
  obtain ⟨tj, pj', hjr⟩ := hj A outer s H E
  have CA : NdefX.CellsAt [("__class__", cc)] ["__class__"] [some (.ref C)] s.heap H := {
    len := rfl
    all := fun y c e => by
      obtain ⟨_, rfl⟩ := look1 e
      exact ⟨(e0.bs _ _ (e0.mod.kin _ _ hcell)).2, _, _, kin _ _ hcell, rfl⟩
    inj := fun x y c e1 e2 => (look1 e1).1.trans (look1 e2).1.symm
    has := fun j y e => by
      cases j with
      | zero =>
        cases e
        refine ⟨cc, rfl, fun v ev => ?_⟩
        cases ev
        exact ⟨.ref C, rfl, _, kin _ _ hcell, rfl⟩
      | succ j => cases e }
  cases r with
  | @cons _ u0 _ ur ra r1 =>
  cases r1 with
  | @cons _ u1 _ ur' ri r2 =>
  cases r2
  obtain rfl : u0 = Value.ref a := ra
  have rv : Vals [V.ref a, V.int i] [Value.ref a, u1] := .cons rfl (.cons ri .nil)
  refine ks_codeAny_call_defAt (binds := (["self", prm] : List Str).zip [Value.ref a, u1]) hr.depth (kin _ _ lk) rfl lim (PySem.W.codeRec_of kin D.code) rfl hb S.nocell (fun ⟨n, _⟩ hy => S.par n (List.of_mem_zip hy).1) (fun h₁ hns kp => ?_) S.co S.gen S.kind
  have I : Inv (NdefX.ncx CX P w K mg base ["self", prm, "__class__"] (nf qual params (iniB p0 p1 pa pc pe ps pf pp pz pj js prm fld) scope cc cda) fI A outer s H E) [] [some (.ref a), some (.int i), some (.ref C)] H { s with heap := h₁, toks := s.toks + ((["self", prm] : List Str).zip [Value.ref a, u1]).length } :=
    NdefX.inv_startN (F := nf qual params (iniB p0 p1 pa pc pe ps pf pp pz pj js prm fld) scope cc cda) S hr.hd e0 rfl rv CA hns kp
  have kin1 : K.In h₁ := kin.keeps kp
  have ndP : ((["self", prm] : List Str)).Nodup := S.nd.sublist (List.take_sublist 2 (["self", prm, "__class__"] : List Str))
  obtain ⟨t1, hxo⟩ := exo_at I.hok ea
  have hmro : PySem.W.Looks (model P w) h₁ (PySem.isSubtype (.ref C) (.ref C)) true := PySem.W.looks_mroIn kin1 D.self
  obtain ⟨hh, g, d, t, os⟩ := s
  dsimp only at hxo
  obtain ⟨pl, hc⟩ := hcall (callEnv (PySem.W.fnX "__init__" qual params (iniB p0 p1 pa pc pe ps pf pp pz pj js prm fld) scope [("__class__", cc)] .none kV doc pm an (.ref cda) ct) hh.objs.size fI)
  refine ks_wpAt_execs_cons (ks_wpAt_Expr_any (ks_wpAt_MethodCall (pl := pl) ?_ hc) (hi := by
    have e : (callEnv (PySem.W.fnX "__init__" qual params (iniB p0 p1 pa pc pe ps pf pp pz pj js prm fld) scope [("__class__", cc)] .none kV doc pm an (.ref cda) ct) hh.objs.size fI).scope.kind = .function := S.kind
    unfold interactive
    rw [e]
    rfl))
  refine ks_wpAt_super_base D.hs (S.frk _ (by simp)) (by rfl) rfl (kin1 _ _ lk) rfl har rfl (kin1 _ _ hcode) rfl hvs hfile D.top ?_
  obtain ⟨mb, hb1, hb2⟩ := I.mod.blt
  refine PySem.W.ks_loadName_global S.kind D.hs (Calls.loadGlobal_builtin (by rw [show (callEnv _ _ _).globals = mainGlobals from rfl]; exact I.mod.glob.keeps I.bk) D.sup (hb1.keeps I.bk) ((hb2 _ (by decide)).trans (show bootBuiltins "super" = some (.type "super") by rfl)) ⟨rfl, ?_⟩)
  refine wpAny_loadName_free S.kind (S.frk _ (by simp)) rfl ⟨_, kin1 _ _ hcell, rfl⟩ ?_
  rw [hself]
  refine wpAny_loadName_local S.kind (S.par _ (by simp)) hns (v := .ref a) (NdefX.zip_look (ps := (["self", prm] : List Str)) (us := [Value.ref a, u1]) (i := 0) ndP rfl rfl) ?_
  refine ks_wpAny_isType_cls (kin1 _ _ hC) rfl ⟨rfl, ?_⟩
  refine ks_wpAny_call_super (kin1 _ _ hC) rfl hxo rfl (fun c e => by cases e) hmro (fun h₂ hso k2 => ?_)
  have kin2 : K.In h₂ := kin1.keeps k2
  have hxo2 := k2 _ _ hxo
  have hC2 := kin2 _ _ hC
  have Ix : PySem.W.InstAt h₂ a ({ cls := .ref C, dict := none, data := .fields #[.ref t1, .none, .none, .none, .bool false, .none] } : Obj) C none := ⟨hxo2, rfl, rfl, trivial⟩
  have hnxt := D.nxt
  unfold PySem.W.ks_superIn at hnxt
  rw [hcd] at hnxt
  have I1 := I.kept (t' := t + ((["self", prm] : List Str).zip [Value.ref a, u1]).length) k2
  refine PySem.W.kxs_getMethod (K := K) PySem.W.kxs_ValueError hso (PySem.W.looks_opaque kin2 D.opq) (l₀ := cd.mro) (fun A Q E s k q => wpAny_bind ((PySem.W.looks_clsIn kin2 hcd) A _ E s k (wpAny_pure q))) rfl kin2 hnxt (Ix.type.andThen (PySem.W.looks_subIn kin2 D.ve)) (PySem.W.ks_ne kin2 Ix hcd) (by rfl) ?_
  dsimp only
  have hn : H h₂.objs.size = none := I1.hok.fresh (Nat.le_refl _)
  have fpo := I1.fpOk (b := h₂.objs.size) (H' := H) (Nat.le_refl _) hn
  have I2 := I1.kept (h' := h₂.push (PySem.W.kxs_mw "ValueError.__init__" a)) (t' := t + ((["self", prm] : List Str).zip [Value.ref a, u1]).length + 1) fun b o e => Heap.get?_push_of_some _ e
  have I3 := I2.pins_of (pins' := [(h₂.objs.size, PySem.W.kxs_mw "ValueError.__init__" a)]) (fun p hp => by
    rw [List.mem_singleton.mp hp]
    exact ⟨Heap.get?_push_size _ rfl, hn, fpo.2.1, fpo.2.2.1, fun v e => by cases e⟩)
  refine PySem.W.kxs_callWith (i := "ValueError.__init__") (x := a) rfl (Calls.evalArgs_plain ?_)
  refine Calls.spliced_cons (thn (pj'.run _ _ _ _ (fun v H1 => (∃ z, v = V.str z) ∧ H = H1) I3 (hjr a i _ H hi fun z => ⟨⟨z, rfl⟩, rfl⟩)) fun u s1 hh1 => ?_)
  obtain ⟨v, H1, I4, rv4, ⟨z, rfl⟩, rfl⟩ := hh1
  obtain ⟨h₄, g4, d4, t4, os4⟩ := s1
  have hmw := (I4.pin (h₂.objs.size, PySem.W.kxs_mw "ValueError.__init__" a) (by simp)).1
  obtain ⟨t5, hxo4⟩ := exo_at I4.hok ea
  refine Calls.spliced_nil ⟨hmw, ?_⟩
  refine call_mw (I4.kIn _ _ hC) hxo4 hmw (by show 1 ≤ sizeLine; decide) fun h₅ t6 k5' hx5 => ?_
  have J0 := I4.write (t' := t4) (x := a) (e := a) (o := exo a C none) (by rw [ea]; exact True.intro) (.inl rfl) k5' ⟨_, hx5⟩ (exo_ok hx5)
  have eu : upd H a (exo a C none) = H := by
    funext b
    by_cases hb : b = a
    · rw [hb, upd_same, ea]
    · rw [upd_ne hb]
  rw [eu] at J0
  refine wpAt_of_wpAny ?_
  have ht : PSs (NdefX.ncx CX P w K mg base ["self", prm, "__class__"] (nf qual params (iniB p0 p1 pa pc pe ps pf pp pz pj js prm fld) scope cc cda) fI A outer ⟨hh, g, d, t, os⟩ H E) [.Assign [.Attribute (.Name "self" ps) fld pf] (.Name prm pp) pz] _ :=
    pss_one (ps_ost (pe_var (i := 0) rfl (.inl (S.par _ (by simp)))) (pe_var (i := 1) rfl (.inl (S.par _ (by simp))) (hd := D.dbg) (hcd := D.cdt)))
  refine wpAny_mono (ht.run _ _ _ H { nx := fun _ H' => Q .non H', rt := Q } J0 ⟨_, rfl, _, rfl, a, C, rfl, D.T, D.fld, .inl ⟨ea, fun dx hn hne => kq dx hn hne⟩⟩) (fun fl s' hs => ?_) fun e s' hs => hs
  cases fl with
  | ret u =>
    obtain ⟨v, σ', H', J, rv, q⟩ := hs
    exact ⟨v, H', J.os, J.bare, J.base, J.hok, rv, q⟩
  | next =>
    obtain ⟨σ', H', J, q⟩ := hs
    exact ⟨V.non, H', J.os, J.bare, J.base, J.hok, rfl, q⟩
  | brk =>
    obtain ⟨_, _, _, q⟩ := hs
    exact False.elim q
  | cont =>
    obtain ⟨_, _, _, q⟩ := hs
    exact False.elim q
end
/-- making one: what is promised -/
def OIni (P : Program) (w : World) (K : PySem.W.Frag) (mg : Str → Option Value) (base : Heap) (x : Str) (C : Addr) (fld : Str) : Prop :=
  ∃ (fI : Addr) (fd : FuncData) (prm : Str), FnOk P w K mg base CX0 1 fI fd ["self", prm] (spIni C fld) ∧ PySem.W.findIn K (.ref C) "__init__" = some (some (.ref fI)) ∧ PySem.W.typeIn K (.ref fI) = some (.type "function") ∧ Binds K fd ["self", prm] [] ∧ OexC K C ∧ mg x = some (.ref C)
/-- X(e): the error and its one field -/
def tErr (C : Addr) (fld : Str) (ta : TA) : L2.St → Hp → XK → Prop := fun σ H Q => ta σ H fun vs H1 => ∃ i : Int, vs = [.int i] ∧ i.natAbs.log2 < 1920 ∧ ∀ d, H1 d = none → Q (.ref C) (some d) (upd H1 d (.xd [(fld, .int i)]))
section
variable {X : Cx} {x fld : Str} {C : Addr} {e : Expr} {ta : TA} {p pos : Pos}
theorem pmk_err (O : OIni X.prog X.w X.K X.mg X.base x C fld) (hr : Room 2 X.A) (hx : Passes CX0 X (fun _ _ _ => False)) (hg : Gl X x) (ha : PA X [e] ta)
    (hdb : (x == ("__debug__" : Str)) = false := by decide) (he : starEach [e] X.env = (false, eval e X.env) :: starEach [] X.env := by rfl) (hpl : (backTo pos (starEach [] X.env)).any (·.1) = false := by rfl) :
    L2N.PMk X (.Call (.Name x p) [e] [] pos) (tErr C fld ta) := by
  intro pins s σ H Q I h
  obtain ⟨fI, fd, prm, F1, iC, tI, hb, T, hm⟩ := O
  obtain ⟨nm, q, N, bs, bm, sn, sub, ab, col, dd, k0, k1, k2, k3, k5, hC, hbm⟩ := T.cls
  refine wpAny_Call_Name_kw (ld_glob I hg hm ?_ hdb)
  refine PySem.W.callWith_K (h₀ := X.base) I.ok.mod.kin T.kC (thn (ha.run pos pins s σ H _ I h) fun us s1 ⟨vs, H1, I1, r1, i, ev, hi, q1⟩ => ⟨I1.kIn, ?_⟩) he hpl
  subst ev
  show wpAny _ _ (call (.ref C) us) _ _ _
  obtain ⟨hp, g, dr, tk, os⟩ := s1
  have hul : us.length = 1 := by
    have z := Paired.length r1
    exact z.symm
  obtain ⟨u1, rfl⟩ : ∃ u1, us = [u1] := match us, hul with | [u1], _ => ⟨u1, rfl⟩
  have hsz : hp.objs.size ≤ hp.objs.size + 1 := Nat.le_succ _
  have hn : H1 (hp.objs.size + 1) = none := I1.hok.fresh hsz
  have kk : ∀ b o, hp.get? b = some o → ((hp.push (PySem.W.kdv_tup [u1])).push (PySem.HandSPX.excO C hp.objs.size)).get? b = some o := fun b o e => Heap.get?_push_of_some _ (Heap.get?_push_of_some _ e)
  have hget : ((hp.push (PySem.W.kdv_tup [u1])).push (PySem.HandSPX.excO C hp.objs.size)).get? (hp.objs.size + 1) = some (PySem.HandSPX.excO C hp.objs.size) := by heap_get
  have I2 : Inv X pins σ (upd H1 (hp.objs.size + 1) (exo (hp.objs.size + 1) C none)) ⟨(hp.push (PySem.W.kdv_tup [u1])).push (PySem.HandSPX.excO C hp.objs.size), g, dr, tk, os⟩ :=
    I1.laid (t' := tk) (a := hp.objs.size + 1) (o := exo (hp.objs.size + 1) C none) (h' := (hp.push (PySem.W.kdv_tup [u1])).push (PySem.HandSPX.excO C hp.objs.size)) kk hsz (exo_ok hget)
  have r2 : Vals [V.ref (hp.objs.size + 1), V.int i] [Value.ref (hp.objs.size + 1), u1] := .cons rfl r1
  have hq : spIni C fld [V.ref (hp.objs.size + 1), V.int i] (upd H1 (hp.objs.size + 1) (exo (hp.objs.size + 1) C none)) (fun v H2 => v = .non ∧ ∃ d, H1 d = none ∧ d ≠ hp.objs.size + 1 ∧ H2 = upd (upd (upd H1 (hp.objs.size + 1) (exo (hp.objs.size + 1) C none)) d (exd d [(fld, .int i)])) (hp.objs.size + 1) (exo (hp.objs.size + 1) C (some d))) (fun _ _ _ => False) :=
    ⟨_, i, rfl, hi, upd_same, fun d hd hne => ⟨rfl, d, by rw [upd_ne hne] at hd; exact hd, hne, rfl⟩⟩
  have hl : ([Value.ref (hp.objs.size + 1), u1] ++ []).length = ([("self" : Str), prm] : List Str).length := rfl
  have hus : [u1].length ≤ sizeLine := by show 1 ≤ sizeLine; decide
  refine wpAny_call (PySem.HandSPX.call_own PySem.F.excBase_ValueError (fun Y => PySem.HandSPX.refsVE_contains Y bm hbm) (I1.kIn _ _ hC) (PySem.W.looks_findIn I1.kIn iC) (fun self => PySem.W.bind_fn I1.kIn self tI) hus
    (codeAny_mono (F1.run _ X.stack _ _ ⟨[Value.ref (hp.objs.size + 1), u1], []⟩ [Value.ref (hp.objs.size + 1), u1] _ _ (fun _ _ _ => False) (hr.make C [u1] []) (I2.env0.make C [u1] []) (hb _ [Value.ref (hp.objs.size + 1), u1] I2.kIn hl) r2 hq) fun r s' hq' => ?_))
  cases r with
  | error er => exact hx pins σ _ _ er s' I2 hq'
  | ok fl =>
    cases fl with
    | ret u =>
      obtain ⟨v, H2, os2, bare2, un2, hok2, rv, ev, d, hd1, hne, eH⟩ := hq'
      subst ev
      obtain ⟨h2, g2, d2, t2, os'⟩ := s'
      refine ⟨rv, ?_⟩
      have ea : H2 (hp.objs.size + 1) = some (exo (hp.objs.size + 1) C (some d)) := by rw [eH, upd_same]
      have ed : H2 d = some (exd d [(fld, .int i)]) := by rw [eH, upd_ne hne, upd_same]
      obtain ⟨t0, G, J, kG, ge, hoe, na⟩ := mk_end0 (d2 := d2) (t2 := t2) I1 hsz kk un2 hok2 os2 bare2 ea ed hd1
      have eE : upd (del H2 (hp.objs.size + 1)) d (.xd [(fld, .int i)]) = upd H1 d (.xd [(fld, .int i)]) := by
        funext b
        by_cases hb1 : b = d
        · rw [hb1, upd_same, upd_same]
        · rw [upd_ne hb1, upd_ne hb1]
          by_cases hb2 : b = hp.objs.size + 1
          · rw [hb2, del_same, hn]
          · rw [del_ne hb2, eH, upd_ne hb2, upd_ne hb1, upd_ne hb2]
      rw [eE] at J na
      exact ⟨_, _, _, ⟨G, g2, d2, t2, os'⟩, _, .ref C, some d, rfl, J, kG, ge, hoe, ⟨rfl, rfl, fun vs e => by cases e; rfl⟩, rfl, rfl, na, rfl, bare2, raises_own T.exC T.tyC, q1 d hd1⟩
    | next => exact False.elim hq'
    | brk => exact False.elim hq'
    | cont => exact False.elim hq'
end
end OE
namespace PySem.W
open PySem PySem.Spec PySem.Calls PyProof.Rows
/-! isinstance of a caught error that has its dict -/
section
variable {prog : Program} {w : World} {A : Around} {E : Value → Shared → Prop} {s : Shared} {K : Frag} {x D : Addr} {ox : Obj} {od : Option Obj}
theorem findObj_dataD {name : Str} {a g : Value} (hc : (clsIn K D).isSome = true) (ha : findIn K (.ref D) name = some (some a)) (hg : specialIn K a "__get__" = some (some g)) (ht : takesIn K a = some true) : findObj K D od name = some (.bind g a) := by
  obtain ⟨cd, hc⟩ := Option.isSome_iff_exists.mp hc
  unfold findObj
  rw [hc, Option.bind_some, ha, Option.bind_some]
  simp [hg, ht]
theorem classE (C : L2.ExcC K D) (X : K.In s.heap) (I : InstAt s.heap x ox D od) {Q : Option Value → Shared → Prop} (h : Q (some (.ref D)) { s with toks := s.toks + 1 }) : wpAny (model prog w) A (getAttr? (.ref x) "__class__") Q E s := by
  have hf : findObj K D od "__class__" = some (.bind (.builtin "getset_descriptor.__get__") (.builtin "object.__class__")) := findObj_dataD (by obtain ⟨cd, hc, _⟩ := any_some C.hd; rw [hc]; rfl) C.ha C.hn C.ht
  obtain ⟨hp, g, d, t, os⟩ := s
  have L0 := I.type (M := model prog w)
  have sub : Looks (model prog w) hp (isInstance (.ref x) (.type "BaseException")) true := L0.andThen (looks_subIn X C.hs)
  have hx0 : (false && onTheHeap (Value.builtin "BaseException.__getattribute__")) = false := rfl
  have hx1 : (onTheHeap (Value.ref D) && Value.builtin "BaseException.__getattribute__" == Value.builtin "object.__getattribute__") = false := by
    rw [show (Value.builtin "BaseException.__getattribute__" == Value.builtin "object.__getattribute__") = false by decide +kernel]
    rfl
  unfold getAttr? getAttrBy? getAttrBy
  refine wpAny_bind (wpAny_mkText (wpAny_bind (wpAny_attempt (wpAny_holding (wpAny_bind (L0.at (wpAny_bind ((looks_findIn X C.hg).at ?_))))))))
  show wpAny _ _ (if (onTheHeap (Value.ref D) && Value.builtin "BaseException.__getattribute__" == Value.builtin "object.__getattribute__") = true then _ else _) _ _ _
  rw [hx1, if_neg Bool.false_ne_true]
  unfold getAttrByItsOwn hookBefore
  refine wpAny_bind ?_
  rw [if_pos (show onTheHeap (Value.ref D) = true from rfl)]
  refine (looks_findIn X C.hk).at ?_
  refine wpAny_bind (wpAny_attempt (wpAny_holding ?_))
  unfold callGetattribute
  rw [hx0, if_neg Bool.false_ne_true]
  unfold boundAndCalled
  rw [PySem.F.excAttr_ValueError.ga.bind (.ref x)]
  refine wpAny_bind (wpAny_pure ?_)
  show wpAny _ _ (call (.builtin "BaseException.__getattribute__") [.ref x, .str "__class__" t]) _ _ _
  refine wpAny_call (codeAny_call_builtin PySem.F.excAttr_ValueError.ga.plain PySem.F.entry_bexc_ga ?_)
  refine @check_slot (model prog w) _ _ ⟨hp, g, d, t + 1, os⟩ "BaseException.__getattribute__" "BaseException" "__getattribute__" (.ref x) [.str "__class__" t] [] _ (by decide +kernel) (by decide +kernel) sub (PySem.F.args_bexc_ga (.ref x) (.str "__class__" t)) ?_
  unfold Builtin.«object.__getattribute__»
  refine wpAny_bind (wpAny_of_eq (a := ((Value.ref x : Value), [Value.str "__class__" t])) (by first | rfl | (simp only [slotArgs]; rfl)) ?_)
  refine wpAny_bind (wpAny_pure (wpAny_bind (L0.at (wpAny_bind ((looks_find X I hf).at ?_)))))
  show wpAny _ _ (holding [Value.builtin "object.__class__"] (call (.builtin "getset_descriptor.__get__") [.builtin "object.__class__", .ref x, .ref D]) >>= ret) _ _ _
  refine wpAny_bind (wpAny_holding (wpAny_call (class_get (s := ⟨hp, g, d, t + 1, os⟩) (ox := ox) (od := od) X I C.hm ?_)))
  refine wpAny_pure ?_
  show wpAny _ _ (handedOut (.ref D)) _ _ _
  rw [handedOut_of (v := .ref D) rfl]
  first
    | exact wpAny_pure (wpAny_pure h)
    | exact wpAny_pure h
    | exact wpAny_pure (wpAny_bind (wpAny_pure (wpAny_pure h)))
theorem kitx_err (C : L2.ExcC K D) : KitX K (.ref x) (.ref D) (fun h => InstAt h x ox D od) where
  ty := fun _ _ _ I => I.type
  it := fun _ _ X _ => by
    obtain ⟨cdD, hcD, _⟩ := any_some C.hd
    unfold clsIn at hcD
    split at hcD
    · rename_i c' d' cd' sl' ho
      intro A' Q' E' s' k q
      unfold isType loadHead
      exact wpAny_bind (wpAny_loadPart (k _ _ (X _ _ ho)) (wpAny_pure q))
    · cases hcD
  ne := fun h tp dd its n sl X htp => by
    obtain ⟨cdD, hcD, _⟩ := any_some C.hd
    refine Bool.eq_false_iff.mpr fun q => ?_
    have e : D = tp := Value.ref.inj (beq_iff_eq.mp q)
    subst e
    unfold clsIn at hcD
    split at hcD
    · rename_i c' d' cd' sl' ho
      have z := (X _ _ ho).symm.trans htp
      cases z
    · cases hcD
  ca := fun X I k => classE C X I k
end
end PySem.W
namespace OE
open PySem PySem.Spec PyProof.Rows L2
/-- isinstance(e, c), e the error that the suite holds, d its dict -/
def rIsX (K : PySem.W.Frag) (D a : Addr) (cls : Value) (d : Option Addr) : List V → Hp → VK → Prop := fun xs H Q => ∃ (c : V) (cv : Value) (b : Bool) (dd : Addr) (fs : List (Str × V)), xs = [.ref a, c] ∧ cls = .ref D ∧ (∀ u, RelV c u → u = cv) ∧ PySem.W.kitOne K (.ref D) cv = some b ∧ d = some dd ∧ H dd = some (.xd fs) ∧ Q (.bl b) H
theorem call_isX {X : Cx} {a D : Addr} {oe : Obj} {cls : Value} {d : Option Addr} {pn : List (Addr × Obj)} (C : ExcC X.K D) (hz : Zc cls d oe) (hf : ∃ vs, oe.data = .fields vs) : CallR (X.suite a ((a, oe) :: pn)) (.builtin "isinstance") (rIsX X.K D a cls d) := by
  intro pins s σ H xs us Q I r h
  obtain ⟨c, cv, b, dd, fs, rfl, rfl, hcv, e, rfl, hd, q⟩ := h
  cases r with
  | cons rx rr =>
    cases rr with
    | cons rt rr =>
      cases rr
      cases rx
      have ec := hcv _ rt
      subst ec
      obtain ⟨hget, _⟩ := I.pin (a, oe) (List.mem_append.mpr (.inl List.mem_cons_self))
      obtain ⟨vs, hv⟩ := hf
      have hx : ObjOk X.prog X.w H s.heap dd (.xd fs) := I.hok dd _ hd
      obtain ⟨mA, hns, _⟩ := hx
      obtain ⟨od, ho, _⟩ := lookIn_ns hns
      have J : PySem.W.InstAt s.heap a oe D (some od) := ⟨hget, hz.1, by unfold PySem.W.notCls; rw [hv] <;> rfl, by rw [hz.2]; exact ho⟩
      exact PySem.W.kia_one (PySem.W.kitx_err C) I.kIn J e (fun z => nomatch z) fun tk => ⟨.bl b, H, I.kept (t' := tk) fun _ _ z => z, rfl, q⟩
/-- the same of an error that has no dict -/
def rIsN (K : PySem.W.Frag) (D a : Addr) (cls : Value) (d : Option Addr) : List V → Hp → VK → Prop := fun xs H Q => ∃ (c : V) (cv : Value) (b : Bool), xs = [.ref a, c] ∧ cls = .ref D ∧ d = none ∧ (∀ u, RelV c u → u = cv) ∧ PySem.W.kitOne K (.ref D) cv = some b ∧ Q (.bl b) H
theorem call_isB {X : Cx} {a D D2 : Addr} {oe : Obj} {cls : Value} {d : Option Addr} {pn : List (Addr × Obj)} (C : ExcC X.K D) (C2 : ExcC X.K D2) (hz : Zc cls d oe) (hf : ∃ vs, oe.data = .fields vs) :
    CallR (X.suite a ((a, oe) :: pn)) (.builtin "isinstance") (fun xs H Q => rIsX X.K D a cls d xs H Q ∨ rIsN X.K D2 a cls d xs H Q) := by
  intro pins s σ H xs us Q I r h
  rcases h with h | ⟨c, cv, b, rfl, rfl, rfl, hcv, e, q⟩
  · exact call_isX C hz hf pins s σ H xs us Q I r h
  · exact call_isE C2 hz hf pins s σ H _ us Q I r ⟨c, cv, b, rfl, hcv, e, q⟩
/-- what the written part says of the class x -/
def OErr (P : Program) (K : PySem.W.Frag) (mg : Str → Option Value) (x : Str) (C : Addr) (prm fld : Str) (params : Arguments) (scope : Scope) (bd : List Stmt) : Prop :=
  ∃ (fI cc cda : Addr) (qual : Str) (fd : FuncData), Ini P K mg C fI cc cda qual prm fld params scope fd bd ∧ PySem.W.findIn K (.ref C) "__init__" = some (some (.ref fI)) ∧ PySem.W.typeIn K (.ref fI) = some (.type "function") ∧ Binds K fd ["self", prm] [] ∧ mg x = some (.ref C) ∧ XfC K C ∧ ExcC K C
theorem OErr.f {P : Program} {K : PySem.W.Frag} {mg : Str → Option Value} {x : Str} {C : Addr} {prm fld : Str} {params : Arguments} {scope : Scope} {bd : List Stmt} (O : OErr P K mg x C prm fld params scope bd) : XfC K C := by
  obtain ⟨fI, cc, cda, qual, fd, _, _, _, _, _, h, _⟩ := O
  exact h
theorem OErr.e {P : Program} {K : PySem.W.Frag} {mg : Str → Option Value} {x : Str} {C : Addr} {prm fld : Str} {params : Arguments} {scope : Scope} {bd : List Stmt} (O : OErr P K mg x C prm fld params scope bd) : ExcC K C := by
  obtain ⟨fI, cc, cda, qual, fd, _, _, _, _, _, _, h⟩ := O
  exact h
theorem OErr.n {P : Program} {K : PySem.W.Frag} {mg : Str → Option Value} {x : Str} {C : Addr} {prm fld : Str} {params : Arguments} {scope : Scope} {bd : List Stmt} (O : OErr P K mg x C prm fld params scope bd) : PySem.W.findIn K (.ref C) fld = some none := by
  obtain ⟨fI, cc, cda, qual, fd, h, _⟩ := O
  exact h.fld
theorem oini_of {P : Program} {w : World} {K : PySem.W.Frag} {mg : Str → Option Value} {base : Heap} {x : Str} {C : Addr} {prm fld : Str} {params : Arguments} {scope : Scope} {bd : List Stmt} {js : List Expr} {pj p0 p1 pa pc pe ps pf pp pz : Pos} (O : OErr P K mg x C prm fld params scope bd) (hbd : bd = iniB p0 p1 pa pc pe ps pf pp pz pj js prm fld)
    (hcall : ∀ env : Env, ∃ pl : Sem Bool, eval (.Call (.Attribute (.Call (.Name "super" p0) [] [] p1) "__init__" pa) [.JoinedStr js pj] [] pc) env = (do
      let ov ← attributeBase (.Call (.Name "super" p0) [] [] p1) "__init__" env (eval (.Call (.Name "super" p0) [] [] p1) env)
      standAt pa.atName
      let (f, first) ← holding [ov] (getMethod ov "__init__" pl)
      callWith pc f first (backTo pc (starEach [.JoinedStr js pj] env)) []))
    (hj : ∀ (cc cda fI : Addr) (qual : Str) (A : Around) (outer : List Env) (s : Shared) (H : Hp) (E : XK), ∃ tj, PE (NdefX.ncx CX0 P w K mg base ["self", prm, "__class__"] (nf qual params bd scope cc cda) fI A outer s H E) (.JoinedStr js pj) tj ∧
      ∀ (a : Addr) (i : Int) (Q : VK) (H : Hp), i.natAbs.log2 < 1920 → (∀ z, Q (.str z) H) → tj [some (.ref a), some (.int i), some (.ref C)] H Q) : OIni P w K mg base x C fld := by
  obtain ⟨fI, cc, cda, qual, fd, D, h1, h2, h3, h4, _⟩ := O
  exact ⟨fI, fd, prm, ini_ok D hbd hcall (hj cc cda fI qual), h1, h2, h3, D.T, h4⟩
theorem oerr_mk {P : Program} {K : PySem.W.Frag} {h : Heap} {mg : Str → Option Value} {x qual prm fld file : Str} {C fI cc cda N : Addr} {params : Arguments} {scope : Scope} {bd : List Stmt} {nm q : Str} {bs bm : List Value} {sn : List Str} {sub : List Value} {ab : Bool} {col : Option Bool} {dd od an cdd cld : Option Addr} {k0 k1 k2 k3 k5 : Option Value} {kV doc pm ct oc ccl cl : Value} {sl ccs csl : Array (Option Value)} {vs : Array Value} {tf : Tok}
    (X : K.In h) (G : h.Ns mainGlobals mg) (S : NdefX.NScope ["self", prm, "__class__"] ["self", prm] ["__class__"] scope) (hs : scope.names.lookup ("super" : Str) = some .globalImplicit) (dbg : (prm == ("__debug__" : Str)) = false) (cdt : (prm == ("__classdict__" : Str)) = false)
    (par : ∃ ar : Arg, (params.posonlyargs ++ params.args).head? = some ar ∧ ar.arg = "self")
    (hb : ∀ (kV doc pm : Value) (an : Option Addr) (cdv ct : Value) (us : List Value), us.length = 2 → bindArgs (PySem.W.fnX "__init__" qual params bd scope [("__class__", cc)] .none kV doc pm an cdv ct) ⟨us, []⟩ = pure (([("self" : Str), prm] : List Str).zip us))
    (a : PySem.W.nsIn K mainGlobals x = some (some (.ref C))) (i : PySem.W.findIn K (.ref C) "__init__" = some (some (.ref fI))) (t : PySem.W.typeIn K (.ref fI) = some (.type "function"))
    (l : K.lookup fI = some ⟨oc, od, .func (PySem.W.fnX "__init__" qual params bd scope [("__class__", cc)] .none kV doc pm an (.ref cda) ct), sl⟩) (c : PySem.W.codeIn K (.ref cda) qual = true)
    (f : K.lookup cda = some ⟨ccl, cdd, .fields vs, ccs⟩) (fv : vs[2]? = some (.str file tf)) (ff : ((P.main.file : Str) == file) = true) (ce : K.lookup cc = some ⟨cl, cld, .cell (some (.ref C)), csl⟩)
    (xL : K.lookup C = some (excClassObj nm q C N bs bm true sn sub ab col dd k0 k1 k2 k3 k5 "ValueError.__new__")) (xb : PySem.HandSPX.refsVE bm = true) (sa : PySem.W.findIn K (.ref C) "__setattr__" = some (some (.builtin "object.__setattr__")))
    (b : PySem.W.subIn K (.ref C) (.type "BaseException") = some true) (tc : PySem.W.typeIn K (.ref C) = some (.type "type")) (k : PySem.W.keepIn K (.ref C) = true) (se : PySem.W.mroIn K C (.ref C) = some true) (su : PySem.W.nsIn K mainGlobals "super" = some none)
    (op : PySem.W.nsIn K cStatics "thirdparty.any" = some none) (nx : PySem.W.ks_superIn K C C "__init__" = some (some (.builtin "ValueError.__init__"))) (ve : PySem.W.subIn K (.ref C) (.type "ValueError") = some true) (tp : (P.main.scope.names.lookup ("super" : Str)).isSome = false)
    (fl : PySem.W.findIn K (.ref C) fld = some none) (ga : PySem.W.findIn K (.ref C) "__getattribute__" = some (some (.builtin "BaseException.__getattribute__"))) (gg : PySem.W.findIn K (.ref C) "__getattr__" = some none) (hd : PySem.W.hasDictIn K C = true)
    (ha : PySem.W.findIn K (.ref C) "__class__" = some (some (.builtin "object.__class__"))) (hn : PySem.W.specialIn K (.builtin "object.__class__") "__get__" = some (some (.builtin "getset_descriptor.__get__"))) (ht : PySem.W.takesIn K (.builtin "object.__class__") = some true) (hm : PySem.W.mroIn K C (.type "object") = some true) :
    OErr P K mg x C prm fld params scope bd :=
  ⟨fI, cc, cda, qual, _, ⟨⟨_, _, _, _, _, rfl⟩, ⟨_, _, _, l⟩, c, ⟨_, _, _, _, _, _, f, fv, ff⟩, ⟨_, _, _, ce⟩, ⟨⟨_, _, _, _, _, _, _, _, _, _, _, _, _, _, _, xL, xb⟩, sa, b, tc, k⟩,
      ⟨_, (by unfold PySem.W.clsIn; rw [xL] <;> rfl)⟩, se, PySem.W.mg_none_of X G su, op, nx, ve, tp, fl, S, hs, dbg, cdt, par⟩,
    i, t, Binds.all fun us hl => hb _ _ _ _ _ _ us hl, PySem.W.mg_of X G a, ⟨ga, gg, b, hd⟩, ⟨ga, gg, b, hd, ha, hn, ht, hm⟩⟩
end OE

/-! ### zip(*rows): as many lists as there are -/
namespace ZN
open PySem
open PySem.Sem (wp)
theorem typeCall_zip (vs : List Value) : checkTypeCall "zip" ⟨vs, []⟩ = pure () := by kernel_rfl
theorem newCall_zip (vs : List Value) : checkBuiltinCall "zip.__new__" ⟨.type "zip" :: vs, []⟩ = pure () := by
  cases vs with
  | nil => kernel_rfl
  | cons a r => kernel_rfl
theorem args_init (a : Value) (vs : List Value) : argsOk "object.__init__" ⟨a :: vs, []⟩ := by
  unfold argsOk; rw [signature?_of (id := "object.__init__") (n := ['_', '_', 't', 'i', 'n', 'i', '_', '_']) (o := ['t', 'c', 'e', 'j', 'b', 'o']) (by kernel_rfl) F.owner_object]; kernel_rfl
abbrev IsZipN (h : Heap) (z TI TO : Addr) (f0 : Value) (f1 : Bool) : Prop :=
  h.get? z = some { cls := .type "zip", dict := none, data := .fields #[f0, .bool f1, .bool false, .ref TI, .ref TO], slots := #[] }
abbrev IsTup (h : Heap) (T : Addr) (vs : Array Value) : Prop := h.get? T = some { cls := .type "tuple", data := .seq vs }
def itsL (b n : Nat) : List Value := (List.range n).map fun k => Value.ref (b + k)
theorem itsL_len (b n : Nat) : (itsL b n).length = n := by simp [itsL]
theorem itsL_get {b n k : Nat} (h : k < n) : (itsL b n)[k]? = some (Value.ref (b + k)) := by
  unfold itsL
  rw [List.getElem?_map, List.getElem?_range h]
  rfl
section
variable {prog : Program} {w : World} {A : Around} {E : Value → Shared → Prop} {s : Shared}
theorem wp_forIn {α β : Type} {M : Model} {f : α → β → Sem (ForInStep β)} {Q : β → Shared → Prop} (I : Nat → β → Shared → Prop) :
    ∀ (xs : List α) (k : Nat) (acc : β) (s : Shared), I k acc s → (∀ j a acc s, xs[j]? = some a → I (k + j) acc s → wpAny M A (f a acc) (fun r s' => ∃ acc', r = .yield acc' ∧ I (k + j + 1) acc' s') E s) →
      (∀ acc s, I (k + xs.length) acc s → Q acc s) → wpAny M A (forIn xs acc f) Q E s
  | [], k, acc, s, h0, _, hd => by
    rw [List.forIn_nil]
    exact wpAny_pure (hd acc s h0)
  | a :: r, k, acc, s, h0, st, hd => by
    rw [List.forIn_cons]
    refine wpAny_bind (wpAny_mono (st 0 a acc s rfl h0) (fun q s' hq => ?_) fun _ _ z => z)
    obtain ⟨acc', rfl, h1⟩ := hq
    refine wp_forIn I r (k + 1) acc' s' h1 (fun j a acc s hj hI => ?_) fun acc s hI => hd acc s ?_
    · have e : k + 1 + j = k + (j + 1) := by omega
      rw [e] at hI
      have := st (j + 1) a acc s (by simpa using hj) hI
      rw [e]
      exact this
    · rw [List.length_cons, show k + (r.length + 1) = k + 1 + r.length by omega]
      exact hI
theorem wp_alive {M : Model} {a : Addr} {Q : Option Obj → Shared → Prop} (h : Q (s.heap.get? a) s) : wpAny M A (loadIfAlive a) Q E s := fun _ _ _ => h
/-- what stands between two turns: b the first iterator -/
structure St (b : Nat) (ls : List Addr) (i : Nat) (h : Heap) : Prop where
  z : ∃ f0 f1, IsZipN h (b + ls.length + 2) (b + ls.length) (b + ls.length + 1) f0 f1 ∧ (f0 = .none ∨ ∃ a : Addr, f0 = rawInt a)
  ti : IsTup h (b + ls.length) (itsL b ls.length).toArray
  to : ∃ kept : Array Value, kept.size = ls.length ∧ IsTup h (b + ls.length + 1) kept
  it : ∀ (k : Nat) (l : Addr), ls[k]? = some l → h.IsListIter (b + k) l i
theorem SB {a : Nat} {h h' : Heap} {c : Nat} {o : Obj} (s : Heap.SameBut a h h') (n : c ≠ a) (e : h.get? c = some o) : h'.get? c = some o := (s.2 c n).trans e
theorem sizes_le {b : Nat} {ls : List Addr} {i : Nat} {h : Heap} (S : St b ls i h) : b + ls.length + 2 < h.objs.size := by
  obtain ⟨f0, f1, hz, _⟩ := S.z
  exact Heap.lt_size hz
/-- the owned road: each iterator gives its item, the tuple is filled -/
structure Mid (b : Nat) (ls : List Addr) (i : Nat) (xs : Nat → Value) (h0 : Heap) (f0 : Value) (f1 : Bool) (k : Nat) (h : Heap) : Prop where
  z : IsZipN h (b + ls.length + 2) (b + ls.length) (b + ls.length + 1) f0 f1
  sz : h.objs.size = h0.objs.size
  to : ∃ kept : Array Value, kept.size = ls.length ∧ (f0 = .ellipsis → ∀ j : Nat, j < k → kept[j]? = some (xs j)) ∧ IsTup h (b + ls.length + 1) kept
  it : ∀ (j : Nat) (l : Addr), ls[j]? = some l → h.IsListIter (b + j) l (if j < k then i + 1 else i)
  keep : ∀ (c : Nat) o, (c < b ∨ b + ls.length + 2 < c ∨ c = b + ls.length) → h0.get? c = some o → h.get? c = some o
theorem neN {a b : Nat} (h : a ≠ b) : @Ne Addr a b := h
theorem Mid.step {b : Nat} {ls : List Addr} {i : Nat} {xs : Nat → Value} {h0 h h' : Heap} {f0 : Value} {f1 : Bool} {k : Nat} {l : Addr} (S : Mid b ls i xs h0 f0 f1 k h) (hk : ls[k]? = some l) (hi : h'.IsListIter (b + k) l (i + 1)) (hs : Heap.SameBut (b + k) h h')
    (hq : f0 ≠ .ellipsis) : Mid b ls i xs h0 f0 f1 (k + 1) h' := by
  have kl := (List.getElem?_eq_some_iff.mp hk).1
  refine ⟨SB hs (by omega) S.z, hs.1.trans S.sz, ?_, fun j m hj => ?_, fun c o hc e => SB hs (by omega) (S.keep c o hc e)⟩
  · obtain ⟨kept, h1, _, h3⟩ := S.to
    exact ⟨kept, h1, fun z => absurd z hq, SB hs (by omega) h3⟩
  · by_cases e : j = k
    · subst e
      rw [hk] at hj
      cases hj
      rw [if_pos (show j < j + 1 by omega)]
      exact hi
    · have := S.it j m hj
      have e2 : (if j < k + 1 then i + 1 else i) = (if j < k then i + 1 else i) := by
        by_cases q : j < k
        · rw [if_pos q, if_pos (show j < k + 1 by omega)]
        · rw [if_neg q, if_neg (show ¬ j < k + 1 by omega)]
      rw [e2]
      exact this.extBut hs.extBut (show (b + j : Nat) ≠ b + k by omega)
theorem Mid.fill {b : Nat} {ls : List Addr} {i : Nat} {xs : Nat → Value} {h0 h h' h2 : Heap} {f1 : Bool} {k : Nat} {l : Addr} {kept : Array Value} (S : Mid b ls i xs h0 .ellipsis f1 k h) (hk : ls[k]? = some l) (hi : h'.IsListIter (b + k) l (i + 1)) (hs : Heap.SameBut (b + k) h h')
    (hks : kept.size = ls.length) (hkj : ∀ j : Nat, j < k → kept[j]? = some (xs j)) (hT : IsTup h2 (b + ls.length + 1) (kept.setIfInBounds k (xs k))) (hs2 : Heap.SameBut (b + ls.length + 1) h' h2) : Mid b ls i xs h0 .ellipsis f1 (k + 1) h2 := by
  have kl := (List.getElem?_eq_some_iff.mp hk).1
  refine ⟨SB hs2 (by omega) (SB hs (by omega) S.z), (hs2.1.trans hs.1).trans S.sz, ⟨_, by rw [Array.size_setIfInBounds]; exact hks, fun _ j hj => ?_, hT⟩, fun j m hj => ?_, fun c o hc e => SB hs2 (by omega) (SB hs (by omega) (S.keep c o hc e))⟩
  · by_cases e : j = k
    · subst e
      rw [Array.getElem?_setIfInBounds_self, if_pos (by omega)]
    · rw [Array.getElem?_setIfInBounds_ne (fun z => e z.symm)]
      exact hkj j (by omega)
  · have jl := (List.getElem?_eq_some_iff.mp hj).1
    refine Heap.IsListIter.extBut (h := h') ?_ hs2.extBut (neN (by omega))
    by_cases e : j = k
    · subst e
      rw [hk] at hj
      cases hj
      rw [if_pos (show j < j + 1 by omega)]
      exact hi
    · have := S.it j m hj
      have e2 : (if j < k + 1 then i + 1 else i) = (if j < k then i + 1 else i) := by
        by_cases q : j < k
        · rw [if_pos q, if_pos (show j < k + 1 by omega)]
        · rw [if_neg q, if_neg (show ¬ j < k + 1 by omega)]
      rw [e2]
      exact this.extBut hs.extBut (show (b + j : Nat) ≠ b + k by omega)
/-- what a turn asks of the lists: they stand below, and have an item at i -/
def Lists (b : Nat) (ls : List Addr) (i : Nat) (xs : Nat → Value) (h : Heap) : Prop := ∀ (k : Nat) (l : Addr), ls[k]? = some l → Nat.lt l b ∧ ∃ items, h.IsList l items ∧ items[i]? = some (xs k)
theorem free_wp {z TI TO : Addr} {f0 : Value} {f1 : Bool} (hz : IsZipN s.heap z TI TO f0 f1) (hf : f0 = .none ∨ ∃ a : Addr, f0 = rawInt a) : wpAny (model prog w) A (Builtin.SmallTypes.ownedTupleIsFree (.ref z)) (fun a s' => ∃ (h : Heap) (f1 : Bool), s' = { s with heap := h } ∧ IsZipN h z TI TO f0 f1 ∧ Heap.SameBut z s.heap h) E s := by
  unfold Builtin.SmallTypes.ownedTupleIsFree
  refine wpAny_bind (wpAny_field hz rfl (x := f0) rfl ?_)
  rcases hf with rfl | ⟨a, rfl⟩
  · exact wpAny_pure ⟨s.heap, f1, rfl, hz, Heap.SameBut.refl _ _⟩
  · show wpAny _ _ (loadIfAlive ((a : Int).toNat) >>= _) _ _ _
    refine wpAny_bind (wp_alive ?_)
    cases s.heap.get? (a : Int).toNat with
    | none => exact wpAny_pure ⟨s.heap, f1, rfl, hz, Heap.SameBut.refl _ _⟩
    | some o =>
      simp only [Option.isNone_some, Bool.false_eq_true, if_false]
      refine wpAny_bind (wpAny_field hz rfl (x := .bool f1) rfl ?_)
      cases f1 with
      | true =>
        rw [if_neg (show ¬ ((Value.bool true != Value.bool true) = true) from Bool.false_ne_true)]
        exact wpAny_pure ⟨s.heap, true, rfl, hz, Heap.SameBut.refl _ _⟩
      | false =>
        rw [if_pos (show (Value.bool false != Value.bool true) = true from rfl)]
        exact wpAny_bind (wpAny_setField_rec hz (by simp) fun h₁ hz₁ hs₁ => wpAny_pure ⟨h₁, true, rfl, hz₁, hs₁⟩)
theorem zip_item {b : Nat} {ls : List Addr} {i : Nat} {xs : Nat → Value} {Q : Value → Shared → Prop} (S : St b ls i s.heap) (hn : 1 ≤ ls.length) (hn2 : ls.length ≤ 100000) (hl : Lists b ls i xs s.heap)
    (hQ : ∀ h' (vs : Array Value), vs.size = ls.length → (∀ j : Nat, j < ls.length → vs[j]? = some (xs j)) → IsTup h' s.heap.objs.size vs → h'.objs.size = s.heap.objs.size + 1 → St b ls (i + 1) h' →
      (∀ (c : Nat) o, (c < b ∨ b + ls.length + 2 < c) → s.heap.get? c = some o → h'.get? c = some o) → Q (.ref s.heap.objs.size) { s with heap := h' }) :
    wpAny (model prog w) A (Builtin.«zip.__next__» ⟨[.ref (b + ls.length + 2)], []⟩) (fun fin s' => ∃ v, fin = .done (.ret v) ∧ Q v s') E s := by
  obtain ⟨f0, f1, hz, hf⟩ := S.z
  obtain ⟨kept, hks, hTO⟩ := S.to
  show wpAny _ _ (field (.ref (b + ls.length + 2)) 2 >>= _) _ _ _
  refine wpAny_bind (wpAny_field hz rfl (x := .bool false) rfl ?_)
  show wpAny _ _ (field (.ref (b + ls.length + 2)) 3 >>= _) _ _ _
  refine wpAny_bind (wpAny_field hz rfl (x := .ref (b + ls.length)) rfl ?_)
  refine wpAny_bind (wpAny_seqItems S.ti rfl ?_)
  have hne : (itsL b ls.length).toArray.isEmpty = false := by
    rw [List.isEmpty_toArray]
    cases e : itsL b ls.length with
    | nil =>
      have := itsL_len b ls.length
      rw [e] at this
      simp at this
      omega
    | cons _ _ => rfl
  dsimp only
  rw [hne, if_neg (by decide)]
  refine wpAny_bind (wpAny_mono (free_wp hz hf) (fun a s' h => ?_) fun _ _ z => z)
  obtain ⟨h1, f1', rfl, hz1, hs1⟩ := h
  cases a with
  | true =>
    rw [if_pos rfl]
    refine wpAny_bind (wpAny_rule ?_)
    refine wpAny_bind (wpAny_field hz1 rfl (x := .ref (b + ls.length + 1)) rfl ?_)
    refine wpAny_bind (wpAny_setField_rec hz1 (by simp) fun h2 hz2 hs2 => ?_)
    replace hz2 : IsZipN h2 (b + ls.length + 2) (b + ls.length) (b + ls.length + 1) .ellipsis f1' := hz2
    refine wpAny_bind (wp_forIn (fun (k : Nat) acc s' => acc = (none, ()) ∧ ∃ h, s' = { s with heap := h } ∧ Mid b ls i xs s.heap .ellipsis f1' k h) _ 0 _ _ ⟨rfl, h2, rfl, ?_⟩ ?_ ?_)
    · refine ⟨hz2, hs2.1.trans hs1.1, ⟨kept, hks, fun _ j hj => absurd hj (by omega), SB hs2 (by omega) (SB hs1 (by omega) hTO)⟩, fun j l hj => ?_, fun c o hc e => SB hs2 (by omega) (SB hs1 (by omega) e)⟩
      have jl := (List.getElem?_eq_some_iff.mp hj).1
      rw [if_neg (show ¬ j < 0 by omega)]
      exact ((S.it j l hj).extBut hs1.extBut (neN (by omega))).extBut hs2.extBut (neN (by omega))
    · rintro k ⟨v, kk⟩ acc s1 hv ⟨rfl, h3, rfl, M⟩
      rw [Nat.zero_add] at M ⊢
      have hk : k < ls.length ∧ v = .ref (b + k) ∧ kk = k := by
        rw [List.getElem?_zipIdx] at hv
        by_cases q : k < ls.length
        · rw [itsL_get q] at hv
          simp at hv
          exact ⟨q, hv.1.symm, hv.2.symm⟩
        · rw [List.getElem?_eq_none (by rw [itsL_len]; omega)] at hv
          cases hv
      obtain ⟨q, rfl, rfl⟩ := hk
      have hkl : ls[kk]? = some ls[kk] := List.getElem?_eq_getElem q
      obtain ⟨lt, items, hli, hx⟩ := hl kk _ hkl
      refine wpAny_bind (wpAny_onRaise ?_)
      show wpAny _ _ (Builtin.SmallTypes.nextOf (.ref (b + kk)) >>= _) _ _ _
      have hit := M.it kk _ hkl
      rw [if_neg (show ¬ kk < kk by omega)] at hit
      have hli3 : h3.IsList ls[kk] items := hli.at fun o e => M.keep _ o (.inl lt) e
      refine wpAny_bind (wpAny_nextOf_list_item hit hli3 hx fun h4 hit4 hs4 => wpAny_pure ?_)
      obtain ⟨kp, hkz, hkj, hkT⟩ := M.to
      have hT4 : IsTup h4 (b + ls.length + 1) kp := SB hs4 (by omega) hkT
      refine wpAny_bind (wpAny_seqItems hT4 rfl ?_)
      have zl : (100000 : Nat) + 1 ≤ sizeLine := by decide
      refine wpAny_bind (wpAny_updateSeq hT4 rfl ?_ (by omega) (by rw [Array.size_setIfInBounds]; omega))
      refine wpAny_bind (wpAny_letGo (wpAny_pure ⟨_, rfl, rfl, _, rfl, M.fill hkl hit4 hs4 hkz (hkj rfl) ?_ (Heap.SameBut.update ..)⟩))
      show (h4.update _ _).get? _ = _
      rw [Heap.get?_update_self _ hT4 rfl]
      simp [Obj.mapSeq]
    · rintro acc s1 ⟨rfl, h3, rfl, M⟩
      rw [Nat.zero_add, List.length_zipIdx, itsL_len] at M
      obtain ⟨kp, hkz, hkj, hkT⟩ := M.to
      refine wpAny_bind (wpAny_seqItems hkT rfl ?_)
      have zl : (100000 : Nat) + 1 ≤ sizeLine := by decide
      refine wpAny_bind (wpAny_newTuple ?_ (by rw [Array.length_toList]; omega))
      show wpAny _ _ (Builtin.SmallTypes.ownedTupleHandOut (.ref (b + ls.length + 2)) (.ref h3.objs.size) >>= _) _ _ _
      refine wpAny_bind ?_
      unfold Builtin.SmallTypes.ownedTupleHandOut
      have hz6 : IsZipN (h3.push { cls := .type "tuple", data := .seq kp.toList.toArray }) (b + ls.length + 2) (b + ls.length) (b + ls.length + 1) .ellipsis f1' := Heap.get?_push_of_some _ M.z
      refine wpAny_bind (wpAny_setField_rec hz6 (by simp) fun h7 hz7 hs7 => ?_)
      replace hz7 : IsZipN h7 (b + ls.length + 2) (b + ls.length) (b + ls.length + 1) (rawInt h3.objs.size) f1' := hz7
      refine wpAny_setField_rec hz7 (by simp) fun h8 hz8 hs8 => ?_
      replace hz8 : IsZipN h8 (b + ls.length + 2) (b + ls.length) (b + ls.length + 1) (rawInt h3.objs.size) false := hz8
      have hlt := sizes_le S
      have up : ∀ (c : Nat) o, c ≠ b + ls.length + 2 → h3.get? c = some o → h8.get? c = some o := fun c o c1 e => SB hs8 c1 (SB hs7 c1 (Heap.get?_push_of_some _ e))
      refine wpAny_pure ⟨_, rfl, ?_⟩
      have hsz := M.sz
      show Q (.ref h3.objs.size) _
      rw [hsz] at hz8 ⊢
      refine hQ h8 kp hkz (hkj rfl) ?_ ?_ ⟨⟨_, _, hz8, .inr ⟨_, rfl⟩⟩, up _ _ (by omega) (M.keep _ _ (by omega) S.ti), ⟨kp, hkz, up _ _ (by omega) hkT⟩, fun j l hj => ?_⟩ fun c o hc e => up c o (by omega) (M.keep c o (by omega) e)
      · refine SB hs8 (by omega) (SB hs7 (by omega) ?_)
        rw [← hsz]
        have := Heap.get?_push_size (h := h3) (o := { cls := .type "tuple", data := .seq kp.toList.toArray }) rfl
        rw [Array.toArray_toList] at this ⊢
        exact this
      · rw [hs8.1, hs7.1, Heap.size_push, hsz]
      · have jl := (List.getElem?_eq_some_iff.mp hj).1
        have := M.it j l hj
        rw [if_pos jl] at this
        exact this.at fun o e => up _ o (by omega) e
  | false =>
    rw [if_neg (by decide)]
    rw [← Array.forIn_toList]
    refine wpAny_bind (wp_forIn (fun (k : Nat) acc s' => acc.1 = none ∧ acc.2.size = k ∧ (∀ j : Nat, j < k → acc.2[j]? = some (xs j)) ∧ ∃ h, s' = { s with heap := h } ∧ Mid b ls i xs s.heap f0 f1' k h) _ 0 _ _ ⟨rfl, rfl, fun j hj => absurd hj (by omega), h1, rfl, ?_⟩ ?_ ?_)
    · refine ⟨hz1, hs1.1, ⟨kept, hks, fun _ j hj => absurd hj (by omega), SB hs1 (by omega) hTO⟩, fun j l hj => ?_, fun c o hc e => SB hs1 (by omega) e⟩
      have jl := (List.getElem?_eq_some_iff.mp hj).1
      rw [if_neg (show ¬ j < 0 by omega)]
      exact (S.it j l hj).extBut hs1.extBut (show (b + j : Nat) ≠ b + ls.length + 2 by omega)
    · rintro k v ⟨a1, a2⟩ s1 hv ⟨rfl, hz2, hx2, h3, rfl, M⟩
      rw [Nat.zero_add] at M hz2 hx2 ⊢
      dsimp only at hz2 hx2
      have hk : k < ls.length ∧ v = .ref (b + k) := by
        by_cases q : k < ls.length
        · rw [itsL_get q] at hv
          cases hv
          exact ⟨q, rfl⟩
        · rw [List.getElem?_eq_none (by rw [itsL_len]; omega)] at hv
          cases hv
      obtain ⟨q, rfl⟩ := hk
      have hkl : ls[k]? = some ls[k] := List.getElem?_eq_getElem q
      obtain ⟨lt, items, hli, hx⟩ := hl k _ hkl
      refine wpAny_bind (wpAny_holding ?_)
      show wpAny _ _ (Builtin.SmallTypes.nextOf (.ref (b + k)) >>= _) _ _ _
      have hit := M.it k _ hkl
      rw [if_neg (show ¬ k < k by omega)] at hit
      have hli3 : h3.IsList ls[k] items := hli.at fun o e => M.keep _ o (.inl lt) e
      refine wpAny_bind (wpAny_nextOf_list_item hit hli3 hx fun h4 hit4 hs4 => wpAny_pure ?_)
      refine wpAny_pure ⟨_, rfl, rfl, ?_, fun j hj => ?_, _, rfl, M.step hkl hit4 hs4 ?_⟩
      · show (a2.push _).size = _
        rw [Array.size_push]
        omega
      · show (a2.push (xs k))[j]? = _
        rw [Array.getElem?_push]
        by_cases e : j = k
        · rw [if_pos (show j = a2.size by omega), e]
        · rw [if_neg (show ¬ j = a2.size by omega)]
          exact hx2 j (by omega)
      · rcases hf with rfl | ⟨a, rfl⟩
        · exact fun z => by cases z
        · exact fun z => by cases z
    · rintro ⟨a1, a2⟩ s1 ⟨rfl, hz2, hx2, h3, rfl, M⟩
      rw [Nat.zero_add, itsL_len] at M hz2 hx2
      dsimp only at hz2 hx2
      have zl : (100000 : Nat) + 1 ≤ sizeLine := by decide
      show wpAny _ _ (newTuple a2.toList >>= _) _ _ _
      refine wpAny_bind (wpAny_newTuple ?_ (by rw [Array.length_toList]; omega))
      obtain ⟨kp, hkz, hkj, hkT⟩ := M.to
      refine wpAny_pure ⟨_, rfl, ?_⟩
      have hsz := M.sz
      have hlt := sizes_le S
      show Q (.ref h3.objs.size) _
      have up : ∀ (c : Nat) o, h3.get? c = some o → (h3.push { cls := .type "tuple", data := .seq a2.toList.toArray }).get? c = some o := fun c o e => Heap.get?_push_of_some _ e
      have hsp : (h3.push { cls := .type "tuple", data := .seq a2.toList.toArray }).objs.size = h3.objs.size + 1 := Heap.size_push ..
      have hgt := Heap.get?_push_size (h := h3) (o := { cls := .type "tuple", data := .seq a2.toList.toArray }) rfl
      rw [hsz] at hsp hgt ⊢
      rw [Array.toArray_toList] at hgt hsp up ⊢
      refine hQ _ a2 hz2 hx2 hgt hsp ⟨⟨f0, f1', up _ _ M.z, hf⟩, up _ _ (M.keep _ _ (by omega) S.ti), ⟨kp, hkz, up _ _ hkT⟩, fun j l hj => ?_⟩ fun c o hc e => up c o (M.keep c o (by omega) e)
      have jl := (List.getElem?_eq_some_iff.mp hj).1
      have := M.it j l hj
      rw [if_pos jl] at this
      exact this.at fun o e => up _ o e
theorem stop_wp {α : Type} {Q : α → Shared → Prop} (hh : A.handled = none) (h : ∀ h' e, (∀ c o, s.heap.get? c = some o → h'.get? c = some o) → s.heap.objs.size ≤ e → (∃ o, h'.get? e = some o ∧ o.cls = .type "StopIteration") → E (.ref e) { s with heap := h' }) : wpAny (model prog w) A (Builtin.SmallTypes.stopIteration) Q E s := by
  show wpAny _ _ (newExc (.type "StopIteration") [] >>= _) _ _ _
  refine wpAny_bind ?_
  simp only [newExc, newTuple]
  refine wpAny_bind (wpAny_newObj_type ?_ (by size_fits))
  refine wpAny_bind (m := firstArgMember _ _) (wpAny_of_eq (a := Value.none) (by first | rfl | (simp only [firstArgMember]; rfl)) ?_)
  refine wpAny_newObj_type ?_ (by size_fits)
  simp only [raiseNew]
  refine wpAny_bind (wpAny_handled ?_)
  first | rw [show A.in1.handled = none from hh] | rw [hh]
  refine wpAny_bind (wpAny_pure (wpAny_throw ?_))
  exact h _ _ (fun c o e => Heap.get?_push_of_some _ (Heap.get?_push_of_some _ e)) (by rw [Heap.size_push]; exact Nat.le_succ _) ⟨_, Heap.get?_push_size _ rfl, rfl⟩
theorem zip_end {b : Nat} {ls : List Addr} {i : Nat} {Q : Fin → Shared → Prop} (hh : A.handled = none) (S : St b ls i s.heap) (hl : ∀ l, ls[0]? = some l → Nat.lt l b ∧ ∃ items, s.heap.IsList l items ∧ items[i]? = none)
    (hE : ∀ h' e, (∀ (c : Nat) o, (c < b ∨ b + ls.length + 2 < c) → s.heap.get? c = some o → h'.get? c = some o) → (∃ o, h'.get? e = some o ∧ o.cls = .type "StopIteration") → E (.ref e) { s with heap := h' }) :
    wpAny (model prog w) A (Builtin.«zip.__next__» ⟨[.ref (b + ls.length + 2)], []⟩) Q E s := by
  obtain ⟨f0, f1, hz, hf⟩ := S.z
  obtain ⟨kept, hks, hTO⟩ := S.to
  show wpAny _ _ (field (.ref (b + ls.length + 2)) 2 >>= _) _ _ _
  refine wpAny_bind (wpAny_field hz rfl (x := .bool false) rfl ?_)
  show wpAny _ _ (field (.ref (b + ls.length + 2)) 3 >>= _) _ _ _
  refine wpAny_bind (wpAny_field hz rfl (x := .ref (b + ls.length)) rfl ?_)
  refine wpAny_bind (wpAny_seqItems S.ti rfl ?_)
  dsimp only
  cases e : ls with
  | nil =>
    subst e
    rw [if_pos (show (itsL b ([] : List Addr).length).toArray.isEmpty = true from rfl)]
    refine wpAny_bind (wpAny_rule ?_)
    exact wpAny_bind (stop_wp hh fun h' e k _ o => hE h' e (fun c o _ z => k c o z) o)
  | cons l r =>
    rw [← e]
    have hit : ∃ tl, itsL b ls.length = Value.ref b :: tl := ⟨(itsL b ls.length).tail, by
      cases e2 : itsL b ls.length with
      | nil =>
        have := itsL_len b ls.length
        rw [e2, e] at this
        simp at this
      | cons x y =>
        have := itsL_get (b := b) (n := ls.length) (k := 0) (by rw [e]; simp)
        rw [e2] at this
        cases this
        rfl⟩
    obtain ⟨tl, hit⟩ := hit
    have hne : (itsL b ls.length).toArray.isEmpty = false := by
      rw [hit]
      rfl
    have hl0 : ls[0]? = some l := by rw [e]; rfl
    have hpos : 0 < ls.length := by rw [e]; simp
    obtain ⟨lt, items, hli, hx⟩ := hl l hl0
    have lt : l < b := lt
    have lt2 : l ≠ b + ls.length + 2 := Nat.ne_of_lt (Nat.lt_of_lt_of_le lt (Nat.le_trans (Nat.le_add_right _ _) (Nat.le_add_right _ _)))
    have hi0 := S.it 0 l hl0
    rw [hne, if_neg (by decide)]
    refine wpAny_bind (wpAny_mono (free_wp hz hf) (fun a s' h => ?_) fun _ _ z => z)
    obtain ⟨h1, f1', rfl, hz1, hs1⟩ := h
    cases a with
    | true =>
      rw [if_pos rfl]
      refine wpAny_bind (wpAny_rule ?_)
      refine wpAny_bind (wpAny_field hz1 rfl (x := .ref (b + ls.length + 1)) rfl ?_)
      refine wpAny_bind (wpAny_setField_rec hz1 (by simp) fun h2 hz2 hs2 => ?_)
      rw [hit, List.zipIdx_cons, List.forIn_cons]
      refine wpAny_bind (wpAny_bind (wpAny_bind (wpAny_onRaise ?_)))
      show wpAny _ _ (Builtin.SmallTypes.nextOf (.ref b) >>= _) _ _ _
      refine wpAny_bind (wpAny_nextOf_list_end hh ((hi0.extBut hs1.extBut (show (b + 0 : Nat) ≠ b + ls.length + 2 by omega)).extBut hs2.extBut (show (b + 0 : Nat) ≠ b + ls.length + 2 by omega)) ((hli.extBut hs1.extBut lt2).extBut hs2.extBut lt2) hx fun h3 e hs3 he => ?_)
      obtain ⟨oe, hoe, hce⟩ := he
      have hz3 := hs3 _ _ (show (b + ls.length + 2 : Nat) ≠ b + 0 by omega) hz2
      have hez : e ≠ b + ls.length + 2 := fun x => by
        subst x
        rw [hz3] at hoe
        cases hoe
        simp at hce
      exact wpAny_setField_rec hz3 (by simp) fun h4 _ hs4 => hE h4 e (fun c o hc x => hs4.extBut _ _ (show c ≠ b + ls.length + 2 by omega) (hs3 _ _ (show c ≠ b + 0 by omega) (hs2.extBut _ _ (show c ≠ b + ls.length + 2 by omega) (hs1.extBut _ _ (show c ≠ b + ls.length + 2 by omega) x)))) ⟨oe, hs4.extBut _ _ hez hoe, hce⟩
    | false =>
      rw [if_neg (by decide)]
      rw [← Array.forIn_toList, hit, List.forIn_cons]
      refine wpAny_bind (wpAny_bind (wpAny_bind (wpAny_holding ?_)))
      show wpAny _ _ (Builtin.SmallTypes.nextOf (.ref b) >>= _) _ _ _
      refine wpAny_bind (wpAny_nextOf_list_end hh (hi0.extBut hs1.extBut (show (b + 0 : Nat) ≠ b + ls.length + 2 by omega)) (hli.extBut hs1.extBut lt2) hx fun h3 e hs3 he => ?_)
      exact hE h3 e (fun c o hc x => hs3 _ _ (show c ≠ b + 0 by omega) (hs1.extBut _ _ (show c ≠ b + ls.length + 2 by omega) x)) he
theorem next_item {b : Nat} {ls : List Addr} {i : Nat} {xs : Nat → Value} {Q : Option Value → Shared → Prop} (S : St b ls i s.heap) (hn : 1 ≤ ls.length) (hn2 : ls.length ≤ 100000) (hl : Lists b ls i xs s.heap)
    (hQ : ∀ h' (vs : Array Value), vs.size = ls.length → (∀ j : Nat, j < ls.length → vs[j]? = some (xs j)) → IsTup h' s.heap.objs.size vs → h'.objs.size = s.heap.objs.size + 1 → St b ls (i + 1) h' →
      (∀ (c : Nat) o, (c < b ∨ b + ls.length + 2 < c) → s.heap.get? c = some o → h'.get? c = some o) → Q (some (.ref s.heap.objs.size)) { s with heap := h' }) :
    wpAny (model prog w) A (pyNext (.ref (b + ls.length + 2))) Q E s := by
  obtain ⟨f0, f1, hz, hf⟩ := id S.z
  have hT : s.TypeIs (.ref (b + ls.length + 2)) "zip" := ⟨_, hz, rfl⟩
  unfold pyNext
  exact wpAny_bind (wpAny_attempt (wpAny_callSpecial?_slot (name := Str.ofString "__next__") hT F.slot_zip_next
    (wpAny_call_entry F.slot_zip_next hT F.entry_zip_next
      (zip_item S hn hn2 hl fun h' vs a1 a2 a3 a4 a5 a6 => wpAny_pure (hQ h' vs a1 a2 a3 a4 a5 a6)) (F.args_zip_next_1 _))))
theorem next_end {b : Nat} {ls : List Addr} {i : Nat} {Q : Option Value → Shared → Prop} (hh : A.handled = none) (S : St b ls i s.heap) (hl : ∀ l, ls[0]? = some l → Nat.lt l b ∧ ∃ items, s.heap.IsList l items ∧ items[i]? = none)
    (hQ : ∀ h', (∀ (c : Nat) o, (c < b ∨ b + ls.length + 2 < c) → s.heap.get? c = some o → h'.get? c = some o) → Q none { s with heap := h' }) : wpAny (model prog w) A (pyNext (.ref (b + ls.length + 2))) Q E s := by
  obtain ⟨f0, f1, hz, hf⟩ := id S.z
  have hT : s.TypeIs (.ref (b + ls.length + 2)) "zip" := ⟨_, hz, rfl⟩
  unfold pyNext
  refine wpAny_bind (wpAny_attempt (wpAny_callSpecial?_slot (name := Str.ofString "__next__") hT F.slot_zip_next
    (wpAny_call_entry F.slot_zip_next hT F.entry_zip_next (zip_end hh S hl fun h' e hk he => ?_) (F.args_zip_next_1 _))))
  obtain ⟨o, ho, hc⟩ := he
  refine wpAny_bind (wpAny_isInstance (T := "StopIteration") (b := true) ⟨o, ho, hc⟩ isSubtype_stop ?_)
  exact wpAny_pure (hQ _ hk)
theorem iter_zip {z TI TO : Addr} {f0 : Value} {f1 : Bool} {Q : Value → Shared → Prop} (hz : IsZipN s.heap z TI TO f0 f1) (h : Q (.ref z) s) : wpAny (model prog w) A (pyIter (.ref z)) Q E s := by
  have hT : s.TypeIs (.ref z) "zip" := ⟨_, hz, rfl⟩
  refine wpAny_pyIter_slot hT F.slot_zip_iter (wpAny_call_entry F.slot_zip_iter hT F.entry_zip_iter ?_ (F.args_zip_iter_1 _))
  show wpAny _ _ (ret (.ref z)) _ _ s
  exact wpAny_pure ⟨_, rfl, "zip", _, hT, F.slot_zip_next.lookup, h⟩
/-! the call -/
def iterH (h : Heap) : List Addr → Heap
  | [] => h
  | l :: r => iterH (h.push { cls := .type "list_iterator", data := .fields #[.ref l, .int 0 0] }) r
theorem iterH_size : ∀ (ls : List Addr) (h : Heap), (iterH h ls).objs.size = h.objs.size + ls.length
  | [], h => rfl
  | l :: r, h => by
    unfold iterH
    rw [iterH_size r, Heap.size_push, List.length_cons]
    omega
theorem iterH_keep : ∀ (ls : List Addr) (h : Heap) {c : Addr} {o : Obj}, h.get? c = some o → (iterH h ls).get? c = some o
  | [], _, _, _, e => e
  | l :: r, h, _, _, e => iterH_keep r _ (Heap.get?_push_of_some _ e)
theorem iterH_it : ∀ (ls : List Addr) (h : Heap) (k : Nat) (l : Addr), ls[k]? = some l → (iterH h ls).IsListIter (h.objs.size + k) l 0
  | [], _, _, _, e => by simp at e
  | m :: r, h, 0, l, e => by
    cases e
    exact ⟨_, iterH_keep r _ (Heap.get?_push_size _ rfl), rfl, rfl⟩
  | m :: r, h, k + 1, l, e => by
    have := iterH_it r (h.push { cls := .type "list_iterator", data := .fields #[.ref m, .int 0 0] }) k l (by simpa using e)
    rw [Heap.size_push, show h.objs.size + 1 + k = h.objs.size + (k + 1) by omega] at this
    exact this
abbrev nH2 (h : Heap) (ls : List Addr) : Heap := (iterH h ls).push { cls := .type "tuple", data := .seq (itsL h.objs.size ls.length).toArray }
abbrev nH3 (h : Heap) (ls : List Addr) : Heap := (nH2 h ls).push { cls := .type "tuple", data := .seq ((itsL h.objs.size ls.length).map fun _ => Value.none).toArray }
abbrev nH4 (h : Heap) (ls : List Addr) : Heap := (nH3 h ls).push { cls := .type "zip", data := .fields #[.none, .bool false, .bool false, .ref (iterH h ls).objs.size, .ref (nH2 h ls).objs.size] }
theorem meets_new (ls : List Addr) (hn : ls.length ≤ 100000) :
    Meets (Builtin.«zip.__new__» ⟨.type "zip" :: ls.map Value.ref, []⟩) (fun _ R s => (∀ l ∈ ls, ∃ items, s.heap.IsList l items) ∧
      R (.ok (.ret (.ref (nH3 s.heap ls).objs.size))) { s with heap := nH4 s.heap ls }) :=
  .of_wp fun prog w A R s h => by
    obtain ⟨hp, g, d, tk, os⟩ := s
    obtain ⟨hls, h⟩ := h
    have hsub := sub_zip
    wp_walk using hsub
    have hls2 : ∀ (m : Nat) (l : Addr), ls[m]? = some l → ∃ items, hp.IsList l items := fun m l hm => hls l (List.mem_of_getElem? hm)
    have keyL : ∀ (r : List Addr) (h0 : Heap) (acc : Array Value) (Q : Array Value → Shared → Prop) (E : Value → Shared → Prop), (∀ l ∈ r, ∃ items, h0.IsList l items) → Q (acc ++ (itsL h0.objs.size r.length).toArray) ⟨iterH h0 r, g, d, tk, os⟩ →
        wpAny (model prog w) A.in1 (forIn (r.map Value.ref) acc fun x its => do
          let v ← holding its.toList (pyIter x)
          pure (ForInStep.yield (its.push v))) Q E ⟨h0, g, d, tk, os⟩ := by
      intro r
      induction r with
      | nil =>
        intro h0 acc Q E _ hq
        rw [List.map_nil, List.forIn_nil]
        refine wpAny_pure ?_
        have e : acc ++ (itsL h0.objs.size ([] : List Addr).length).toArray = acc := by simp [itsL]
        rw [e] at hq
        exact hq
      | cons l r ih =>
        intro h0 acc Q E hr hq
        rw [List.map_cons, List.forIn_cons]
        obtain ⟨items, hi⟩ := hr l (List.mem_cons_self ..)
        refine wpAny_bind (wpAny_bind (wpAny_holding (wpAny_pyIter_list hi (wpAny_pure ?_))))
        refine ih (h0.push _) (acc.push _) Q E (fun m hm => ?_) ?_
        · obtain ⟨it2, hi2⟩ := hr m (List.mem_cons_of_mem _ hm)
          exact ⟨it2, hi2.push _⟩
        · have e : acc.push (Value.ref h0.objs.size) ++ (itsL (h0.objs.size + 1) r.length).toArray = acc ++ (itsL h0.objs.size (r.length + 1)).toArray := by
            have e2 : itsL h0.objs.size (r.length + 1) = Value.ref h0.objs.size :: itsL (h0.objs.size + 1) r.length := by
              unfold itsL
              rw [List.range_succ_eq_map, List.map_cons, List.map_map]
              congr 1
              refine List.map_congr_left fun k _ => ?_
              show Value.ref (h0.objs.size + (k + 1)) = Value.ref (h0.objs.size + 1 + k)
              rw [show h0.objs.size + (k + 1) = h0.objs.size + 1 + k by omega]
            rw [e2]
            simp
          rw [Heap.size_push, e]
          exact hq
    refine (show wpAny (model prog w) A.in1 (forIn (ls.map Value.ref) (#[] : Array Value) fun x its => do
          let v ← holding its.toList (pyIter x)
          pure (ForInStep.yield (its.push v))) _ _ _ from keyL ls hp #[] _ _ hls ?_)
    rw [show (#[] : Array Value) ++ (itsL hp.objs.size ls.length).toArray = (itsL hp.objs.size ls.length).toArray by simp]
    dsimp only
    refine wpAny_pure ?_
    have zl : (100000 : Nat) + 1 ≤ sizeLine := by decide
    refine wpAny_bind (wpAny_newTuple ?_ (by rw [itsL_len]; omega))
    refine wpAny_bind (wpAny_newTuple ?_ (by rw [List.length_map, itsL_len]; omega))
    unfold Builtin.SmallTypes.newRecord
    refine wpAny_bind (wpAny_newObj_type ?_ (by simp [sizeOk, Builtin.SmallTypes.ownedTupleFields]; try decide))
    exact wpAny_pure ⟨_, rfl, h⟩
theorem call_zip {ls : List Addr} {Q : Value → Shared → Prop} (hn : ls.length ≤ 100000) (hl : ∀ l ∈ ls, ∃ items, s.heap.IsList l items)
    (h : ∀ h', St s.heap.objs.size ls 0 h' → (∀ c o, s.heap.get? c = some o → h'.get? c = some o) → h'.objs.size = s.heap.objs.size + ls.length + 3 → Q (.ref (s.heap.objs.size + ls.length + 2)) { s with heap := h' }) :
    wpAny (model prog w) A (call (.type "zip") (ls.map Value.ref)) Q E s := by
  refine callType_new F.called_zip (by decide) (typeCall_zip _) (newCall_zip _) (fun obj => args_init obj _) F.entry_zip_new (meets_new ls hn) ⟨hl, ?_⟩
  have z1 : (iterH s.heap ls).objs.size = s.heap.objs.size + ls.length := iterH_size ..
  have z2 : (nH2 s.heap ls).objs.size = s.heap.objs.size + ls.length + 1 := by rw [Heap.size_push, z1]
  have z3 : (nH3 s.heap ls).objs.size = s.heap.objs.size + ls.length + 2 := by rw [Heap.size_push, z2]
  have z4 : (nH4 s.heap ls).objs.size = s.heap.objs.size + ls.length + 3 := by rw [Heap.size_push, z3]
  have g4 : (nH4 s.heap ls).get? (nH3 s.heap ls).objs.size = some _ := Heap.get?_push_size _ rfl
  have g3 : (nH4 s.heap ls).get? (nH2 s.heap ls).objs.size = some _ := Heap.get?_push_of_some _ (Heap.get?_push_size _ rfl)
  have g2 : (nH4 s.heap ls).get? (iterH s.heap ls).objs.size = some _ := Heap.get?_push_of_some _ (Heap.get?_push_of_some _ (Heap.get?_push_size _ rfl))
  have up : ∀ c o, (iterH s.heap ls).get? c = some o → (nH4 s.heap ls).get? c = some o := fun c o e => Heap.get?_push_of_some _ (Heap.get?_push_of_some _ (Heap.get?_push_of_some _ e))
  show _ ∧ _
  rw [z1, z2, z3] at g4
  rw [z2] at g3
  rw [z1] at g2
  rw [z3]
  exact ⟨⟨_, g4, rfl⟩, h _ ⟨⟨_, _, g4, .inl rfl⟩, g2, ⟨_, by rw [List.size_toArray, List.length_map, itsL_len], g3⟩, fun k l hk => (iterH_it ls s.heap k l hk).at fun o e => up _ o e⟩ (fun c o e => up c o (iterH_keep ls _ e)) z4⟩
end
end ZN

namespace ZX
open PySem PySem.Spec PyProof.Rows L2
/-! ### a loop over zip(*rows) -/
section
variable {M : Model} {A : Around} {E : Value → Shared → Prop} {s : Shared}
theorem callWith_typeS {pos p : Pos} {T : String} {e : Expr} {env : Env} {Q : Value → Shared → Prop} (h : wpAny M A (eval e env) (fun v s1 => PySem.W.StarOf M A E v (fun vs s2 => wpAny M A (call (.type T) vs) Q E s2) s1) E s)
    (he : starEach [.Starred e p] env = [(true, eval e env)] := by rfl) : wpAny M A (callWith pos (.type T) [] (backTo pos (starEach [.Starred e p] env)) []) Q E s := by
  rw [he]
  unfold callWith
  refine wpAny_bind (wpAny_holding (wpAny_mono (PySem.W.ks_lone (Q := fun a s1 => wpAny M A (call (.type T) a.pos a.kw) Q E s1) h) (fun a s₁ h₁ => wpAny_bind (wpAny_standAt ?_)) fun _ _ x => x))
  refine wpAny_bind (show wpAny _ _ (keeperOf (.type T)) _ _ _ from wpAny_pure ?_)
  have tail : ∀ {t : Sem Value}, wpAny M A t Q E s₁ → wpAny M A (t >>= fun r => holding [r] point >>= fun _ => pure r) Q E s₁ :=
    fun ht => wpAny_bind (wpAny_mono ht (fun r s₂ hr => wpAny_bind (wpAny_holding (wpAny_point (wpAny_pure hr)))) fun _ _ x => x)
  exact tail (wpAny_operating h₁)
end
/-- the lists at ls, walked side by side, the items in new tuples -/
def ItZ (K : PySem.W.Frag) (ls : List Addr) : It :=
  ⟨fun i H => 1 ≤ ls.length ∧ ∀ l ∈ ls, ∃ xs x, SqL K H l xs ∧ xs[i]? = some x,
    fun i H v H' => ∃ T ys, v = .ref T ∧ H T = none ∧ H' = upd H T (.tup ys) ∧ ys.length = ls.length ∧ ∀ (k : Nat) l xs, ls[k]? = some l → SqL K H l xs → xs[i]? = ys[k]?,
    fun i H => ∀ l, ls[0]? = some l → ∃ xs, SqL K H l xs ∧ xs.length ≤ i⟩
def fpZ (b n : Nat) : List Addr := (List.range (n + 3)).map fun k => b + k
theorem mem_fpZ {b n c : Nat} : c ∈ fpZ b n ↔ b ≤ c ∧ c ≤ b + n + 2 := by
  unfold fpZ
  rw [List.mem_map]
  constructor
  · rintro ⟨k, hk, rfl⟩
    have := List.mem_range.mp hk
    omega
  · intro h
    exact ⟨c - b, List.mem_range.mpr (by omega), by omega⟩
theorem not_fpZ {b n c : Nat} (h : c ∉ fpZ b n) : c < b ∨ b + n + 2 < c := by
  rw [mem_fpZ] at h
  omega
/-- the items of the i-th column -/
theorem column {X : Cx} {pins : List (Addr × Obj)} {σ : L2.St} {H : Hp} {s : Shared} {i : Nat} (I : Inv X pins σ H s) : ∀ (ls : List Addr), (∀ l ∈ ls, ∃ xs x, SqL X.K H l xs ∧ xs[i]? = some x) →
    ∃ (ys : List V) (us : List Value), Vals ys us ∧ ys.length = ls.length ∧ (∀ (k : Nat) (l : Addr), ls[k]? = some l → ∃ items u, s.heap.IsList l items ∧ us[k]? = some u ∧ items[i]? = some u) ∧ ∀ (k : Nat) l xs, ls[k]? = some l → SqL X.K H l xs → xs[i]? = ys[k]?
  | [], _ => ⟨[], [], .nil, rfl, fun k l h => by simp at h, fun k l xs h => by simp at h⟩
  | l :: r, h => by
    obtain ⟨ys, us, h1, h2, h3, h4⟩ := column I r fun m hm => h m (List.mem_cons_of_mem _ hm)
    obtain ⟨xs, x, hq, hx⟩ := h l (List.mem_cons_self ..)
    obtain ⟨its, rv, p, _⟩ := I.list hq
    obtain ⟨u, hu, ru⟩ := rv.get hx
    refine ⟨x :: ys, u :: us, .cons ru h1, by simp [h2], fun k m hk => ?_, fun k m zs hk hz => ?_⟩
    · cases k with
      | zero =>
        cases hk
        exact ⟨_, u, p.isList, rfl, by simpa using hu⟩
      | succ k => exact h3 k m (by simpa using hk)
    · cases k with
      | zero =>
        cases hk
        rw [I.list_inj hz hq]
        exact hx
      | succ k => exact h4 k m zs (by simpa using hk) hz
theorem turn_zipN {P : Program} {w : World} {K : PySem.W.Frag} {x : Str} {xp : Pos} {ls : List Addr} {b : Nat} (hn : ls.length ≤ 100000) (hb : ∀ l ∈ ls, Nat.lt l b) :
    Turn P w K (.Name x xp) (ItZ K ls) (fpZ b ls.length) (b + ls.length + 2) (fun i h => ZN.St b ls i h) where
  mem := mem_fpZ.mpr (by omega)
  obj := fun i h S c hc => by
    have hc := mem_fpZ.mp hc
    by_cases e : c = b + ls.length + 2
    · obtain ⟨f0, f1, hz, _⟩ := S.z
      rw [e]
      exact ⟨_, hz, fun v q => nomatch q⟩
    by_cases e1 : c = b + ls.length
    · rw [e1]
      exact ⟨_, S.ti, fun v q => nomatch q⟩
    by_cases e2 : c = b + ls.length + 1
    · obtain ⟨kept, _, hT⟩ := S.to
      rw [e2]
      exact ⟨_, hT, fun v q => nomatch q⟩
    · have e : ∃ k : Nat, k < ls.length ∧ c = b + k := ⟨(show Nat from c) - b, by
        have q : (show Nat from c) ≠ b + ls.length + 2 := e
        have q1 : (show Nat from c) ≠ b + ls.length := e1
        have q2 : (show Nat from c) ≠ b + ls.length + 1 := e2
        dsimp only at q q1 q2 ⊢
        omega, by
        show (show Nat from c) = b + ((show Nat from c) - b)
        dsimp only
        omega⟩
      obtain ⟨k, hk, rfl⟩ := e
      obtain ⟨o, ho, _, hd⟩ := S.it k _ (List.getElem?_eq_getElem hk)
      exact ⟨o, ho, fun v q => by rw [hd] at q; cases q⟩
  keep := fun i h h' S k => by
    have k : ∀ (c : Nat), b ≤ c ∧ c ≤ b + ls.length + 2 → ∀ o, h.get? c = some o → h'.get? c = some o := fun c hc => k c (mem_fpZ.mpr hc)
    obtain ⟨f0, f1, hz, hf⟩ := S.z
    obtain ⟨kept, hks, hT⟩ := S.to
    exact ⟨⟨f0, f1, k _ (by omega) _ hz, hf⟩, k _ (by omega) _ S.ti, ⟨kept, hks, k _ (by omega) _ hT⟩, fun j l hj => (S.it j l hj).at fun o q => k (b + j) (by have := (List.getElem?_eq_some_iff.mp hj).1; omega) o q⟩
  item := by
    intro X hP hw hK hc i pins s σ H E I hf S hg
    subst hP hw hK
    obtain ⟨hg1, hg⟩ := hg
    obtain ⟨ys, us, hv, hyl, hit, hxs⟩ := column I ls hg
    have hul : us.length = ys.length := hv.length.symm
    refine ZN.next_item (xs := fun k => us.getD k .none) S hg1 hn (fun k l hk => ?_) fun h' vs hsz hvs hT hsize S' hk => ?_
    · obtain ⟨items, u, h1, h2, h3⟩ := hit k l hk
      refine ⟨hb l (List.mem_of_getElem? hk), items, h1, ?_⟩
      show items[i]? = some (us.getD k .none)
      rw [List.getD_eq_getElem?_getD, h2]
      exact h3
    · refine ⟨_, rfl, wpAny_pure ?_⟩
      have evs : vs = us.toArray := by
        apply Array.ext
        · rw [hsz, List.size_toArray, hul, hyl]
        · intro j h1 h2
          have := hvs j (by omega)
          rw [Array.getElem?_eq_getElem h1] at this
          have h3 : j < us.length := by rw [List.size_toArray] at h2; exact h2
          rw [List.getD_eq_getElem?_getD, List.getElem?_eq_getElem h3] at this
          have := Option.some.inj this
          rw [this]
          simp
      rw [evs] at hT
      have zl : (100000 : Nat) ≤ sizeLine := by decide
      have new : ObjOk X.prog X.w (upd H s.heap.objs.size (.tup ys)) h' s.heap.objs.size (.tup ys) :=
        ⟨by show ys.length ≤ sizeLine; omega, us, hv, ⟨_, hT, rfl, _, rfl⟩⟩
      have I1 : Inv X pins σ (upd H s.heap.objs.size (.tup ys)) { s with heap := h' } :=
        I.turnedNew (t' := s.toks) (ch := fpZ b ls.length) (fun c o hb q => hk c o (not_fpZ hb) q) hf (Nat.le_refl _) new
      have hlt := ZN.sizes_le S
      refine ⟨.ref s.heap.objs.size, _, I1, rfl, ⟨_, ys, rfl, I.hok.fresh (Nat.le_refl _), rfl, hyl, hxs⟩, S', fun c hcm => ?_⟩
      have hc2 := mem_fpZ.mp hcm
      rw [upd_ne (show c ≠ s.heap.objs.size from Nat.ne_of_lt (by omega))]
      exact (hf c hcm).1
  done := by
    intro X hP hw hK hc i pins s σ H E I hf S hg
    subst hP hw hK
    refine ZN.next_end (I.ok.hd hc) S (fun l hl => ?_) fun h' hk => ⟨rfl, I.turnedL (t' := s.toks) (ch := fpZ b ls.length) (fun c o hb q => hk c o (not_fpZ hb) q) hf⟩
    obtain ⟨xs, hq, hle⟩ := hg l hl
    obtain ⟨its, rv, p, _⟩ := I.list hq
    have l1 := rv.length
    exact ⟨hb l (List.mem_of_getElem? hl), _, p.isList, by simp; omega⟩
  self := fun A i s Q E S h => by
    obtain ⟨f0, f1, hz, _⟩ := S.z
    exact ZN.iter_zip hz h
def iZipN (K : PySem.W.Frag) (te : TE) : TI := fun σ H R => te σ H fun x H1 => ∃ a ls, x = V.ref a ∧ (SqT K H1 a (ls.map V.ref) ∨ SqL K H1 a (ls.map V.ref)) ∧ ls.length ≤ 100000 ∧ (∀ l ∈ ls, ∃ xs, SqL K H1 l xs) ∧ R (ItZ K ls) H1
theorem pi_zipN {X : Cx} {e : Expr} {te : TE} {p sp pos xp : Pos} {x : Str} (hg : Gl X "zip") (hm : X.mg "zip" = none) (he : PE X e te)
    (hs : starEach [.Starred e sp] X.env = [(true, eval e X.env)] := by rfl) :
    PI X (.Name x xp) (.Call (.Name "zip" p) [.Starred e sp] [] pos) (iZipN X.K te) := by
  refine ⟨fun pins s σ H R I h => ?_⟩
  refine Call_ (ld_blt I hg hm PyProof.Rows.boot_zip (callWith_typeS (thn (he.run pins s σ H _ I h) fun v s1 ⟨y, H1, I1, ry, a, ls, ey, hq, hn, hl, q⟩ => ?_) hs))
  subst ey
  obtain rfl : v = Value.ref a := ry
  refine StX.star_any I1 hq fun us s2 I2 rv => ?_
  have eu : us = ls.map Value.ref := by
    clear hq hn hl q
    induction ls generalizing us with
    | nil => cases rv; rfl
    | cons l r ih =>
      cases rv with
      | cons r1 r2 =>
        cases r1
        rw [ih _ r2]
        rfl
  subst eu
  refine ZN.call_zip hn (fun l hl2 => ?_) fun h' S hk hsz => ?_
  · obtain ⟨xs, hx⟩ := hl l hl2
    obtain ⟨its, rv, p1, _⟩ := I2.list hx
    exact ⟨_, p1.isList⟩
  · obtain ⟨f0, f1, hz, _⟩ := id S.z
    refine ZN.iter_zip hz ?_
    have I3 : Inv X pins σ H1 { s2 with heap := h' } := I2.kept (t' := s2.toks) hk
    refine ⟨s2.heap.objs.size + ls.length + 2, fpZ s2.heap.objs.size ls.length, _, _, H1, rfl, I3, turn_zipN hn (fun l hl2 => ?_), S, fun c hcm => ?_, q⟩
    · obtain ⟨xs, hx⟩ := hl l hl2
      obtain ⟨its, rv, p1, _⟩ := I2.list hx
      exact p1.lt
    · have hc2 := mem_fpZ.mp hcm
      exact I2.fpOk hc2.1 (I2.hok.fresh hc2.1)
theorem pi_zipNK {X : Cx} {K : PySem.W.Frag} {e : Expr} {te : TE} {p sp pos xp : Pos} {x : Str} (hg : Gl X "zip") (hm : X.mg "zip" = none) (he : PE X e te) (hK : X.K = K := by rfl)
    (hs : starEach [.Starred e sp] X.env = [(true, eval e X.env)] := by rfl) : PI X (.Name x xp) (.Call (.Name "zip" p) [.Starred e sp] [] pos) (iZipN K te) := by
  subst hK
  exact pi_zipN hg hm he hs
end ZX

/-! ### list.count, flat items -/
namespace LCN
open PySem PySem.Spec PyProof.Rows L2 Cm
def rCountL (K : PySem.W.Frag) : V → List V → Hp → VK → Prop := fun x xs H Q => ∃ (a : Addr) (ys : List V) (y : V), x = V.ref a ∧ xs = [y] ∧ SqL K H a ys ∧ flatV y = true ∧ ys.all flatV = true ∧ Q (.int ((ys.countP fun z => eqV z y : Nat) : Int)) H
theorem countP_vals {y : V} : ∀ {ys : List V} {us : List Value}, Vals ys us → ys.all flatV = true → us.countP (eqU y) = ys.countP fun z => eqV z y
  | _, _, .nil, _ => rfl
  | _, _, .cons h r, f => by
    rw [List.all_cons, Bool.and_eq_true] at f
    rw [List.countP_cons, List.countP_cons, countP_vals r f.2, eqU_of h f.1]
theorem mt_countL {X : Cx} : MtR X "list.count" (rCountL X.K) := by
  intro pins s σ H x xs v us Q I rx rxs h
  obtain ⟨a, ys, y, rfl, rfl, hs, fy, fys, q⟩ := h
  cases rx
  cases rxs with
  | cons ry rt =>
    rename_i uy ut
    cases rt
    obtain ⟨its, rv, ⟨⟨cls, dd, data, sl⟩, n, ho, hc, hdn, hd⟩, hlen⟩ := I.list hs
    simp only at hc hd
    subst hc hd
    refine call_meets PySem.F.slot_list_count ⟨_, ho, rfl⟩ PySem.F.entry_list_count (PySem.F.args_list_count_2 _ _)
      (SeqAt.list_countAt a its.toArray n dd sl uy (eqU y)) ⟨ho, fun u' hu' => mem_eqAt ry fy rv fys u' (by simpa using hu'), ?_⟩
    rw [show its.toArray.toList = its from rfl, countP_vals rv fys]
    exact ⟨.int _, H, I.tok _, ⟨_, rfl⟩, q⟩
end LCN

/-! ### PV: readings over values instead of heaps -/
namespace PV
open PySem PySem.Spec PyProof.Rows L2 Cm
open GX (Sm)
/-! #### heaps: what is hidden, what is new -/
def off (H : Hp) (L : List Addr) : Hp := fun a => if a ∈ L then none else H a
theorem off_in {H : Hp} {L : List Addr} {a : Addr} (h : a ∈ L) : off H L a = none := if_pos h
theorem off_ne {H : Hp} {L : List Addr} {a : Addr} (h : a ∉ L) : off H L a = H a := if_neg h
theorem off_some {H : Hp} {L : List Addr} {a : Addr} {o : HO} (h : off H L a = some o) : a ∉ L ∧ H a = some o := by
  by_cases z : a ∈ L
  · rw [off_in z] at h
    cases h
  · rw [off_ne z] at h
    exact ⟨z, h⟩
theorem off_nil {H : Hp} : off H [] = H := funext fun _ => if_neg (by simp)
theorem tab_off {H : Hp} {L : List Addr} {P : Addr} (h : GxR.TabG (off H L) P) : P ∉ L ∧ GxR.TabG H P := by
  obtain ⟨ps, e, t⟩ := h
  obtain ⟨n, e⟩ := off_some e
  exact ⟨n, ps, e, t⟩
theorem tab_off' {H : Hp} {L : List Addr} {P : Addr} (n : P ∉ L) (h : GxR.TabG H P) : GxR.TabG (off H L) P := by
  obtain ⟨ps, e, t⟩ := h
  exact ⟨ps, by rw [off_ne n]; exact e, t⟩
/-- what is hidden in the later heap was hidden, or not there, before -/
theorem sm_off {H H' : Hp} {L L' : List Addr} (e : Sm H H') (h : ∀ a, a ∈ L' → a ∈ L ∨ ((∀ o, H a = some o → ∃ ps, o = .tbl ps) ∧ ¬ GxR.TabG H a)) : Sm (off H L) (off H' L') := by
  refine ⟨fun b o q n => ?_, fun P t => ?_⟩
  · obtain ⟨hb, q⟩ := off_some q
    rw [off_ne fun z => ?_]
    · exact e.keep b o q n
    · rcases h b z with z | ⟨z, _⟩
      · exact hb z
      · obtain ⟨ps, z⟩ := z o q
        exact n ps z
  · obtain ⟨hb, t⟩ := tab_off t
    refine tab_off' (fun z => ?_) (e.tab P t)
    rcases h P z with z | ⟨_, z⟩
    · exact hb z
    · exact z t
def NewTo (H : Hp) (p : Addr) : Prop := (∀ o, H p = some o → ∃ ps, o = .tbl ps) ∧ ¬ GxR.TabG H p
def Hid (H : Hp) (p : Addr) : Prop := ∃ o, H p = some o ∧ ∀ ps, o ≠ .tbl ps
theorem NewTo.none {H : Hp} {p : Addr} (h : H p = Option.none) : NewTo H p := by
  refine ⟨fun o e => ?_, fun t => ?_⟩
  · rw [h] at e
    cases e
  · obtain ⟨ps, e, _⟩ := t
    rw [h] at e
    cases e
theorem NewTo.back {H H' : Hp} {p : Addr} (e : Sm H H') (h : NewTo H' p) : NewTo H p := by
  refine ⟨fun o q => ?_, fun t => h.2 (e.tab p t)⟩
  cases o with
  | tbl ps => exact ⟨ps, rfl⟩
  | _ => exact h.1 _ (e.keep p _ q fun ps z => by cases z)
theorem Hid.mono {H H' : Hp} {p : Addr} (e : Sm H H') (h : Hid H p) : Hid H' p := h.elim fun o z => ⟨o, e.keep p o z.1 z.2, z.2⟩
theorem Hid.ne {H : Hp} {p q : Addr} (h : Hid H q) (n : NewTo H p) : p ≠ q := fun z => by
  obtain ⟨o, e, t⟩ := h
  obtain ⟨ps, z2⟩ := n.1 o (z ▸ e)
  exact t ps z2
theorem Hid.lst {H : Hp} {p : Addr} {xs : List V} (h : H p = some (.lst xs)) : Hid H p := ⟨_, h, fun _ z => by cases z⟩
theorem sm_upd {H H' : Hp} {p : Addr} {o : HO} (e : Sm H H') (n : NewTo H p) : Sm H (upd H' p o) := by
  refine ⟨fun b u q t => ?_, fun P t => ?_⟩
  · rw [upd_ne fun z => ?_]
    · exact e.keep b u q t
    · obtain ⟨ps, z2⟩ := n.1 u (z ▸ q)
      exact t ps z2
  · obtain ⟨ps, q, r⟩ := e.tab P t
    refine ⟨ps, ?_, r⟩
    rw [upd_ne fun z => ?_]
    · exact q
    · subst z
      exact n.2 t
theorem sm_new {H H' : Hp} {p : Addr} {o : HO} (e : Sm H H') (h : H' p = none) : Sm H (upd H' p o) := sm_upd e (NewTo.back e (.none h))
theorem sm_sub {H : Hp} {L L' : List Addr} (h : ∀ a, a ∈ L' → a ∈ L) : Sm (off H L) (off H L') := sm_off (Sm.refl H) fun a z => .inl (h a z)
theorem sm_hide {H : Hp} {L : List Addr} : Sm (off H L) H := by
  have := sm_sub (H := H) (L := L) (L' := []) (by simp)
  rwa [off_nil] at this
theorem off_upd {H : Hp} {L : List Addr} {p : Addr} {o : HO} (h : p ∈ L) : off (upd H p o) L = off H L := funext fun a => by
  by_cases z : a ∈ L
  · rw [off_in z, off_in z]
  · rw [off_ne z, off_ne z, upd_ne (fun q => by subst q; exact z h)]
/-! #### data that stand in the heap -/
mutual
inductive Rp (K : PySem.W.Frag) (H : Hp) : V → PyData → Prop
  | non : Rp K H .non .none
  | bl (b : Bool) : Rp K H (.bl b) (.bool b)
  | int (i : Int) : Rp K H (.int i) (.int i)
  | str (x : Str) : Rp K H (.str x) (.str x)
  | lst {a : Addr} {xs : List V} {ds : List PyData} : H a = some (.lst xs) → RpAll K H xs ds → Rp K H (.ref a) (.list ds)
  | tup {a : Addr} {xs : List V} {ds : List PyData} : SqT K H a xs → RpAll K H xs ds → Rp K H (.ref a) (.tuple ds)
inductive RpAll (K : PySem.W.Frag) (H : Hp) : List V → List PyData → Prop
  | nil : RpAll K H [] []
  | cons {v : V} {vs : List V} {d : PyData} {ds : List PyData} : Rp K H v d → RpAll K H vs ds → RpAll K H (v :: vs) (d :: ds)
end
section
variable {K : PySem.W.Frag} {H H' : Hp}
mutual
theorem Rp.mono (e : Sm H H') : ∀ {v : V} {d : PyData}, Rp K H v d → Rp K H' v d
  | _, _, .non => .non
  | _, _, .bl b => .bl b
  | _, _, .int i => .int i
  | _, _, .str x => .str x
  | _, _, .lst h r => .lst (e.l h) (RpAll.mono e r)
  | _, _, .tup h r => .tup (e.tup h) (RpAll.mono e r)
theorem RpAll.mono (e : Sm H H') : ∀ {vs : List V} {ds : List PyData}, RpAll K H vs ds → RpAll K H' vs ds
  | _, _, .nil => .nil
  | _, _, .cons h r => .cons (Rp.mono e h) (RpAll.mono e r)
end
mutual
theorem Rp.dp : ∀ {v : V} {d : PyData}, Rp K H v d → Dp K H v d
  | _, _, .non => .non
  | _, _, .bl b => .bl b
  | _, _, .int i => .int i
  | _, _, .str x => .str x
  | _, _, .lst h r => .lst (SqL.of h) (RpAll.dp r)
  | _, _, .tup h r => .tup h (RpAll.dp r)
theorem RpAll.dp : ∀ {vs : List V} {ds : List PyData}, RpAll K H vs ds → DpAll K H vs ds
  | _, _, .nil => .nil
  | _, _, .cons h r => .cons (Rp.dp h) (RpAll.dp r)
end
theorem RpAll.length : ∀ {vs : List V} {ds : List PyData}, RpAll K H vs ds → vs.length = ds.length
  | _, _, .nil => rfl
  | _, _, .cons _ r => by simp [RpAll.length r]
theorem RpAll.get : ∀ {vs : List V} {ds : List PyData} {i : Nat} {d : PyData}, RpAll K H vs ds → ds[i]? = some d → ∃ v, vs[i]? = some v ∧ Rp K H v d
  | _, _, _, _, .nil, e => by simp at e
  | _, _, 0, _, .cons h _, e => by simp at e; subst e; exact ⟨_, rfl, h⟩
  | _, _, i + 1, _, .cons _ r, e => by
    obtain ⟨v, h1, h2⟩ := RpAll.get (i := i) r (by simpa using e)
    exact ⟨v, by simpa using h1, h2⟩
theorem RpAll.getV : ∀ {vs : List V} {ds : List PyData} {i : Nat} {v : V}, RpAll K H vs ds → vs[i]? = some v → ∃ d, ds[i]? = some d ∧ Rp K H v d
  | _, _, _, _, .nil, e => by simp at e
  | _, _, 0, _, .cons h _, e => by simp at e; subst e; exact ⟨_, rfl, h⟩
  | _, _, i + 1, _, .cons _ r, e => by
    obtain ⟨v, h1, h2⟩ := RpAll.getV (i := i) r (by simpa using e)
    exact ⟨v, by simpa using h1, h2⟩
theorem RpAll.append : ∀ {vs us : List V} {ds es : List PyData}, RpAll K H vs ds → RpAll K H us es → RpAll K H (vs ++ us) (ds ++ es)
  | _, _, _, _, .nil, s => s
  | _, _, _, _, .cons h r, s => .cons h (RpAll.append r s)
theorem RpAll.take : ∀ (n : Nat) {vs : List V} {ds : List PyData}, RpAll K H vs ds → RpAll K H (vs.take n) (ds.take n)
  | 0, _, _, _ => .nil
  | _ + 1, _, _, .nil => .nil
  | n + 1, _, _, .cons h r => .cons h (RpAll.take n r)
theorem RpAll.drop : ∀ (n : Nat) {vs : List V} {ds : List PyData}, RpAll K H vs ds → RpAll K H (vs.drop n) (ds.drop n)
  | 0, _, _, h => h
  | _ + 1, _, _, .nil => .nil
  | n + 1, _, _, .cons _ r => RpAll.drop n r
theorem RpAll.set : ∀ {vs : List V} {ds : List PyData} {v : V} {d : PyData} (i : Nat), Rp K H v d → RpAll K H vs ds → RpAll K H (vs.set i v) (ds.set i d)
  | _, _, _, _, _, _, .nil => .nil
  | _, _, _, _, 0, h, .cons _ r => .cons h r
  | _, _, _, _, i + 1, h, .cons h2 r => .cons h2 (RpAll.set i h r)
theorem RpAll.reverse : ∀ {vs : List V} {ds : List PyData}, RpAll K H vs ds → RpAll K H vs.reverse ds.reverse
  | _, _, .nil => .nil
  | _, _, .cons h r => by
    rw [List.reverse_cons, List.reverse_cons]
    exact RpAll.append (RpAll.reverse r) (.cons h .nil)
theorem RpAll.replicate {v : V} {d : PyData} (h : Rp K H v d) : ∀ n, RpAll K H (List.replicate n v) (List.replicate n d)
  | 0 => .nil
  | n + 1 => .cons h (RpAll.replicate h n)
theorem RpAll.flatten {vs : List V} {ds : List PyData} (h : RpAll K H vs ds) : ∀ n, RpAll K H (List.replicate n vs).flatten (List.replicate n ds).flatten
  | 0 => .nil
  | n + 1 => by
    rw [List.replicate_succ, List.replicate_succ, List.flatten_cons, List.flatten_cons]
    exact h.append (RpAll.flatten h n)
theorem RpAll.ints : ∀ (ns : List Int), RpAll K H (ns.map V.int) (ns.map PyData.int)
  | [] => .nil
  | n :: ns => .cons (.int n) (RpAll.ints ns)
/-- data without objects -/
def flatD : PyData → Bool
  | .none => true
  | .bool _ => true
  | .int _ => true
  | .str _ => true
  | _ => false
theorem Rp.flat {v : V} {d : PyData} (h : Rp K H v d) (f : flatD d = true) : Rp K H' v d := by
  cases h with
  | non => exact .non
  | bl b => exact .bl b
  | int i => exact .int i
  | str x => exact .str x
  | lst _ _ => cases f
  | tup _ _ => cases f
theorem RpAll.flat : ∀ {vs : List V} {ds : List PyData}, RpAll K H vs ds → ds.all flatD = true → RpAll K H' vs ds
  | _, _, .nil, _ => .nil
  | _, _, .cons h r, f => by
    rw [List.all_cons, Bool.and_eq_true] at f
    exact .cons (h.flat f.1) (RpAll.flat r f.2)
theorem RpAll.flat_ints {vs : List V} {ns : List Int} (h : RpAll K H vs (ns.map .int)) : vs = ns.map V.int := by
  induction ns generalizing vs with
  | nil => cases h; rfl
  | cons n ns ih =>
    cases h with
    | cons h r =>
      cases h
      rw [ih r]
      rfl
end
/-! #### assertions of values, slots, results -/
structure Asr where
  a : V → Hp → Prop
  mono : ∀ v H H', Sm H H' → a v H → a v H'
  key : List Int := []
/-- an object of which nothing is said -/
def anyA : Asr := ⟨fun _ _ => True, fun _ _ _ _ _ => trivial, []⟩
/-- the entries of a dict -/
def KvR (K : PySem.W.Frag) (V0 : Hp) : List (Key × V) → List (Key × PyData) → Prop   := Paired fun a b => a.1 = b.1 ∧ Rp K V0 a.2 b.2
/-- what a slot holds: data that nobody changes | a list of one's own (no one else knows it) at p | a list of lists of one's own, at p, the rows at rs | an object -/
inductive Sl where
  | dat (d : PyData)
  | own (p : Addr) (xs : List PyData)
  | tab (p : Addr) (rs : List Addr) (rows : List (List PyData))
  | dic (p : Addr) (kvs : List (Key × PyData))
  | obj (A : Asr)
/-- a result's kind: data | a new list | a list of one's own, at p | data that hold such lists | a new list of new lists -/
inductive Tg where
  | dat | fr | own (p : Addr) | bor | ft
inductive Rs where
  | v (t : Tg) (d : PyData)
  | obj (A : Asr)
abbrev Gm := List (Option Sl)
def ownsOf : Option Sl → List Addr
  | some (.own p _) => [p]
  | some (.tab p rs _) => p :: rs
  | some (.dic p _) => [p]
  | _ => []
def owns : Gm → List Addr
  | [] => []
  | x :: r => ownsOf x ++ owns r
/-- rows of a table -/
inductive TabR (K : PySem.W.Frag) (H V0 : Hp) : List Addr → List (List PyData) → Prop
  | nil : TabR K H V0 [] []
  | cons {r : Addr} {rs : List Addr} {vs : List V} {row : List PyData} {rows : List (List PyData)} : H r = some (.lst vs) → RpAll K V0 vs row → TabR K H V0 rs rows → TabR K H V0 (r :: rs) (row :: rows)
def SlR (K : PySem.W.Frag) (H V0 : Hp) : Sl → V → Prop
  | .dat d, v => Rp K V0 v d
  | .own p xs, v => v = .ref p ∧ ∃ vs, H p = some (.lst vs) ∧ RpAll K V0 vs xs
  | .tab p rs rows, v => v = .ref p ∧ H p = some (.lst (rs.map V.ref)) ∧ TabR K H V0 rs rows
  | .dic p kvs, v => v = .ref p ∧ ∃ vs, H p = some (.dK vs) ∧ KvR K V0 vs kvs
  | .obj A, v => A.a v V0
def Slots (K : PySem.W.Frag) (H V0 : Hp)   : Gm → L2.St → Prop
  | [], [] => True
  | none :: g, _ :: s => Slots K H V0 g s
  | some x :: g, v :: s => (∃ u, v = some u ∧ SlR K H V0 x u) ∧ Slots K H V0 g s
  | _, _ => False
theorem TabR.imp {K : PySem.W.Frag} {H H' V0 V1 : Hp} (e2 : Sm V0 V1) : ∀ {rs : List Addr} {rows : List (List PyData)}, (∀ r ∈ rs, ∀ vs, H r = some (.lst vs) → H' r = some (.lst vs)) → TabR K H V0 rs rows → TabR K H' V1 rs rows
  | _, _, _, .nil => .nil
  | _, _, f, .cons h1 h2 h3 => .cons (f _ (List.mem_cons_self ..) _ h1) (h2.mono e2) (TabR.imp e2 (fun r hr => f r (List.mem_cons_of_mem _ hr)) h3)
theorem TabR.mono {K : PySem.W.Frag} {H H' V0 V1 : Hp} (e : Sm H H') (e2 : Sm V0 V1) {rs : List Addr} {rows : List (List PyData)} (h : TabR K H V0 rs rows) : TabR K H' V1 rs rows := h.imp e2 fun _ _ _ z => e.l z
theorem TabR.length {K : PySem.W.Frag} {H V0 : Hp} : ∀ {rs : List Addr} {rows : List (List PyData)}, TabR K H V0 rs rows → rs.length = rows.length
  | _, _, .nil => rfl
  | _, _, .cons _ _ h => by simp [TabR.length h]
theorem TabR.get {K : PySem.W.Frag} {H V0 : Hp} : ∀ {rs : List Addr} {rows : List (List PyData)} {i : Nat} {row : List PyData}, TabR K H V0 rs rows → rows[i]? = some row → ∃ r vs, rs[i]? = some r ∧ H r = some (.lst vs) ∧ RpAll K V0 vs row
  | _, _, i, _, .nil, e => by simp at e
  | _, _, 0, _, .cons h1 h2 _, e => by
    simp at e
    subst e
    exact ⟨_, _, rfl, h1, h2⟩
  | _, _, i + 1, _, .cons _ _ h3, e => by
    obtain ⟨r, vs, a, b⟩ := TabR.get (i := i) h3 (by simpa using e)
    exact ⟨r, vs, by simpa using a, b⟩
theorem TabR.hid {K : PySem.W.Frag} {H V0 : Hp} : ∀ {rs : List Addr} {rows : List (List PyData)}, TabR K H V0 rs rows → ∀ r ∈ rs, ∃ vs, H r = some (.lst vs)
  | _, _, .nil, _, h => by cases h
  | _, _, .cons h1 _ h3, r, h => by
    rcases List.mem_cons.mp h with rfl | h
    · exact ⟨_, h1⟩
    · exact TabR.hid h3 r h
/-- the table as data, where its rows are seen -/
theorem TabR.rp {K : PySem.W.Frag} {H V0 : Hp} {L : List Addr} (e : Sm V0 (off H L)) : ∀ {rs : List Addr} {rows : List (List PyData)}, (∀ r ∈ rs, r ∉ L) → TabR K H V0 rs rows → RpAll K (off H L) (rs.map V.ref) (rows.map PyData.list)
  | _, _, _, .nil => .nil
  | _, _, n, .cons h1 h2 h3 => .cons (.lst (by rw [off_ne (n _ (List.mem_cons_self ..)), h1]) (h2.mono e)) (TabR.rp e (fun r hr => n r (List.mem_cons_of_mem _ hr)) h3)
theorem TabR.set {K : PySem.W.Frag} {H V0 : Hp} {r0 : Addr} {vs : List V} {row : List PyData} (ha : RpAll K V0 vs row) : ∀ {rs : List Addr} {rows : List (List PyData)} {i : Nat}, rs.Nodup → rs[i]? = some r0 → TabR K H V0 rs rows → TabR K (upd H r0 (.lst vs)) V0 rs (rows.set i row)
  | _, _, i, _, e, .nil => by simp at e
  | _, _, 0, nd, e, .cons h1 h2 h3 => by
    simp at e
    subst e
    have nd := List.nodup_cons.mp nd
    exact .cons upd_same ha (h3.imp (Sm.refl _) fun r hr vs h => by rw [upd_ne fun z => nd.1 (by rw [← z]; exact hr)]; exact h)
  | _, _, i + 1, nd, e, .cons h1 h2 h3 => by
    have nd := List.nodup_cons.mp nd
    have e : _ := (by simpa using e : _ = some r0)
    refine .cons ?_ h2 (TabR.set (i := i) ha nd.2 e h3)
    rw [upd_ne fun z => nd.1 (by rw [z]; exact List.mem_of_getElem? e)]
    exact h1
theorem SlR.mono {K : PySem.W.Frag} {H H' V0 V1 : Hp} (e : Sm H H') (e2 : Sm V0 V1) : ∀ {x : Sl} {v : V}, SlR K H V0 x v → SlR K H' V1 x v
  | .dat _, _, h => Rp.mono e2 h
  | .own _ _, _, ⟨h, vs, h1, h2⟩ => ⟨h, vs, e.l h1, h2.mono e2⟩
  | .tab _ _ _, _, ⟨h, h1, h2⟩ => ⟨h, e.l h1, h2.mono e e2⟩
  | .dic _ _, _, ⟨h, vs, h1, h2⟩ => ⟨h, vs, e.keep _ _ h1 (fun _ z => by cases z), L2.Paired.mapP h2 fun _ _ z => ⟨z.1, z.2.mono e2⟩⟩
  | .obj A, _, h => A.mono _ _ _ e2 h
/-- what is not one's own may change -/
theorem SlR.still {K : PySem.W.Frag} {H H' V0 : Hp} : ∀ {x : Sl} {v : V}, (∀ a ∈ ownsOf (some x), H' a = H a) → SlR K H V0 x v → SlR K H' V0 x v
  | .dat _, _, _, h => h
  | .own p _, _, f, ⟨h, vs, h1, h2⟩ => ⟨h, vs, (f p (List.mem_cons_self ..)).trans h1, h2⟩
  | .tab p rs _, _, f, ⟨h, h1, h2⟩ => ⟨h, (f p (List.mem_cons_self ..)).trans h1, h2.imp (Sm.refl _) fun r hr vs z => (f r (List.mem_cons_of_mem _ hr)).trans z⟩
  | .dic p _, _, f, ⟨h, vs, h1, h2⟩ => ⟨h, vs, (f p (List.mem_cons_self ..)).trans h1, h2⟩
  | .obj _, _, _, h => h
theorem Slots.imp {K : PySem.W.Frag} {H H' V0 V1 : Hp} : ∀ {g : Gm} {s : L2.St}, (∀ x v, some x ∈ g → SlR K H V0 x v → SlR K H' V1 x v) → Slots K H V0 g s → Slots K H' V1 g s
  | [], [], _, _ => True.intro
  | none :: g, _ :: s, f, h => Slots.imp (g := g) (s := s) (fun x v hx => f x v (.tail _ hx)) h
  | some x :: g, v :: s, f, ⟨⟨u, h1, h2⟩, h⟩ => ⟨⟨u, h1, f x u (.head _) h2⟩, Slots.imp (g := g) (s := s) (fun x v hx => f x v (.tail _ hx)) h⟩
theorem Slots.mono {K : PySem.W.Frag} {H H' V0 V1 : Hp} {g : Gm} {s : L2.St} (e : Sm H H') (e2 : Sm V0 V1) (h : Slots K H V0 g s) : Slots K H' V1 g s := h.imp fun _ _ _ q => q.mono e e2
theorem Slots.len {K : PySem.W.Frag} {H V0 : Hp} : ∀ {g : Gm} {s : L2.St}, Slots K H V0 g s → s.length = g.length
  | [], [], _ => rfl
  | none :: g, _ :: s, h => by simp [Slots.len (g := g) (s := s) h]
  | some x :: g, v :: s, h => by simp [Slots.len (g := g) (s := s) h.2]
theorem Slots.get {K : PySem.W.Frag} {H V0 : Hp} : ∀ {g : Gm} {s : L2.St} {i : Nat} {x : Sl}, Slots K H V0 g s → g[i]? = some (some x) → ∃ u, s[i]? = some (some u) ∧ SlR K H V0 x u
  | [], [], _, _, _, e => by simp at e
  | none :: g, _ :: s, 0, _, _, e => by simp at e
  | none :: g, _ :: s, i + 1, x, h, e => by
    obtain ⟨u, h1, h2⟩ := Slots.get (g := g) (s := s) (i := i) (x := x) h (by simpa using e)
    exact ⟨u, by simpa using h1, h2⟩
  | some y :: g, v :: s, 0, x, h, e => by
    simp at e
    subst e
    obtain ⟨⟨u, rfl, h⟩, _⟩ := h
    exact ⟨u, rfl, h⟩
  | some y :: g, v :: s, i + 1, x, h, e => by
    obtain ⟨u, h1, h2⟩ := Slots.get (g := g) (s := s) (i := i) (x := x) h.2 (by simpa using e)
    exact ⟨u, by simpa using h1, h2⟩
theorem Slots.set {K : PySem.W.Frag} {H V0 : Hp} {x : Sl} {u : V} (hx : SlR K H V0 x u) : ∀ {g : Gm} {s : L2.St} {i : Nat}, Slots K H V0 g s → Slots K H V0 (g.set i (some x)) (s.set i (some u))
  | [], [], _, _ => True.intro
  | none :: g, _ :: s, 0, h => ⟨⟨u, rfl, hx⟩, h⟩
  | none :: g, _ :: s, i + 1, h => Slots.set (g := g) (s := s) hx h
  | some y :: g, v :: s, 0, h => ⟨⟨u, rfl, hx⟩, h.2⟩
  | some y :: g, v :: s, i + 1, h => ⟨h.1, Slots.set (g := g) (s := s) hx h.2⟩
/-- a slot is forgotten, whatever stands there -/
theorem Slots.drop {K : PySem.W.Frag} {H V0 : Hp} (u : Option V) : ∀ {g : Gm} {s : L2.St} {i : Nat}, Slots K H V0 g s → Slots K H V0 (g.set i none) (s.set i u)
  | [], [], _, _ => True.intro
  | none :: g, _ :: s, 0, h => h
  | none :: g, _ :: s, i + 1, h => Slots.drop (g := g) (s := s) u h
  | some y :: g, v :: s, 0, h => h.2
  | some y :: g, v :: s, i + 1, h => ⟨h.1, Slots.drop (g := g) (s := s) u h.2⟩
theorem mem_ownsOf {x : Option Sl} {a : Addr} (ha : a ∈ ownsOf x) : ∀ {g : Gm}, x ∈ g → a ∈ owns g
  | [], h => by cases h
  | y :: g, h => by
    rcases List.mem_cons.mp h with rfl | h
    · exact List.mem_append_left _ ha
    · exact List.mem_append_right _ (mem_ownsOf ha h)
theorem mem_owns {p : Addr} {xs : List PyData} {g : Gm} (h : some (Sl.own p xs) ∈ g) : p ∈ owns g := mem_ownsOf (List.mem_cons_self ..) h
/-- a slot's own things change, nothing else -/
theorem Slots.chg {K : PySem.W.Frag} {H H' V0 : Hp} {x y : Sl} {u : V} (hx : SlR K H' V0 x u) : ∀ {g : Gm} {s : L2.St} {i : Nat}, Slots K H V0 g s → g[i]? = some (some y) → s[i]? = some (some u) → (owns g).Nodup → (∀ a, a ∉ ownsOf (some y) → H' a = H a) → Slots K H' V0 (g.set i (some x)) s
  | [], [], _, _, e, _, _, _ => by simp at e
  | none :: g, _ :: s, 0, _, e, _, _, _ => by simp at e
  | none :: g, _ :: s, i + 1, h, e, e2, n, f => Slots.chg (g := g) (s := s) hx h (by simpa using e) (by simpa using e2) n f
  | some z :: g, v :: s, 0, h, e, e2, n, f => by
    simp at e e2
    subst e
    obtain ⟨_, h⟩ := h
    refine ⟨⟨u, e2, hx⟩, h.imp fun x v hx q => SlR.still (fun a ha => f a fun hz => ?_) q⟩
    exact (List.nodup_append.mp n).2.2 a hz a (mem_ownsOf ha hx) rfl
  | some z :: g, v :: s, i + 1, h, e, e2, n, f => by
    obtain ⟨⟨w, rfl, h1⟩, h⟩ := h
    have e' : g[i]? = some (some y) := by simpa using e
    refine ⟨⟨w, rfl, SlR.still (fun a ha => f a fun hz => ?_) h1⟩, Slots.chg (g := g) (s := s) hx h e' (by simpa using e2) (List.nodup_append.mp n).2.1 f⟩
    exact (List.nodup_append.mp n).2.2 a ha a (mem_ownsOf hz (List.mem_of_getElem? e')) rfl
end PV

namespace PV
open PySem PySem.Spec PyProof.Rows L2 Cm
open GX (Sm)
/-! #### where a def's body stands -/
structure Fr where
  H0 : Hp
  L0 : List Addr
structure Env (K : PySem.W.Frag) (Ps : List Addr) (F : Fr) (g : Gm) (σ : L2.St) (H : Hp) : Prop where
  sl : Slots K H (off H (F.L0 ++ owns g)) g σ
  sm : Sm F.H0 H
  tb : ∀ P ∈ Ps, GxR.TabG H P
  hd : ∀ q ∈ F.L0, Hid H q
  nd : (owns g).Nodup
  nw : ∀ q ∈ owns g, NewTo F.H0 q ∧ q ∉ F.L0 ∧ Hid H q
section
variable {K : PySem.W.Frag} {Ps : List Addr} {F : Fr} {g g' : Gm} {σ : L2.St} {H H' H2 : Hp} {v : V} {i : Nat}
theorem hidden (I : Env K Ps F g σ H) {q : Addr} (h : q ∈ F.L0 ++ owns g) : Hid H q := (List.mem_append.mp h).elim (I.hd q) fun z => (I.nw q z).2.2
theorem Env.step (I : Env K Ps F g σ H) (e : Sm H H2) : Env K Ps F g σ H2 :=
  ⟨I.sl.mono e (sm_off e fun _ z => .inl z), I.sm.trans e, fun P h => e.tab P (I.tb P h), fun q h => (I.hd q h).mono e, I.nd, fun q h => ⟨(I.nw q h).1, (I.nw q h).2.1, (I.nw q h).2.2.mono e⟩⟩
/-- what is seen from the start stays seen -/
theorem Env.seen (I : Env K Ps F g σ H) : Sm (off F.H0 F.L0) (off H (F.L0 ++ owns g)) := sm_off I.sm fun a z => (List.mem_append.mp z).elim .inl fun z => .inr (I.nw a z).1
theorem Env.seen' (I : Env K Ps F g σ H) : Sm (off H (F.L0 ++ owns g)) (off H F.L0) := sm_sub fun a z => List.mem_append_left _ z
/-- begun anew: from here all but one's own lists stays -/
theorem Env.base (I : Env K Ps F g σ H) : Env K Ps ⟨off H (owns g), F.L0⟩ g σ H :=
  ⟨I.sl, sm_hide, I.tb, I.hd, I.nd, fun q h => ⟨⟨fun o e => absurd h (off_some e).1, fun t => absurd h (tab_off t).1⟩, (I.nw q h).2⟩⟩
theorem Env.base_sm (I : Env K Ps F g σ H) : Sm F.H0 (off H (owns g)) := by
  have := sm_off (L := []) (L' := owns g) I.sm fun a z => .inr (I.nw a z).1
  rwa [off_nil] at this
theorem Env.unbase {σ' : L2.St} (I : Env K Ps F g σ H) (J : Env K Ps ⟨off H (owns g), F.L0⟩ g' σ' H') : Env K Ps F g' σ' H' :=
  ⟨J.sl, I.base_sm.trans J.sm, J.tb, J.hd, J.nd, fun q h => ⟨NewTo.back I.base_sm (J.nw q h).1, (J.nw q h).2⟩⟩
/-- what was seen at the new beginning -/
theorem Env.still {σ' : L2.St} (I : Env K Ps F g σ H) (J : Env K Ps ⟨off H (owns g), F.L0⟩ g' σ' H') : Sm (off H (F.L0 ++ owns g)) (off H' (F.L0 ++ owns g')) := by
  have e : off (off H (owns g)) F.L0 = off H (F.L0 ++ owns g) := funext fun a => by
    by_cases z : a ∈ F.L0
    · rw [off_in z, off_in (List.mem_append_left _ z)]
    · rw [off_ne z]
      by_cases z2 : a ∈ owns g
      · rw [off_in z2, off_in (List.mem_append_right _ z2)]
      · rw [off_ne z2, off_ne (by simp [z, z2])]
  have := J.seen
  rw [← e]
  exact this
/-! results -/
def RsR (K : PySem.W.Frag) (F : Fr) (g : Gm) (H H2 : Hp) (v : V) : Rs → Prop
  | .v .dat d => Rp K (off H2 (F.L0 ++ owns g)) v d
  | .v .fr d => ∃ p vs xs, d = .list xs ∧ v = .ref p ∧ NewTo H p ∧ H2 p = some (.lst vs) ∧ RpAll K (off H2 (p :: (F.L0 ++ owns g))) vs xs
  | .v (.own p) d => ∃ vs xs, d = .list xs ∧ v = .ref p ∧ p ∈ owns g ∧ H2 p = some (.lst vs) ∧ RpAll K (off H2 (F.L0 ++ owns g)) vs xs
  | .v .bor d => Rp K (off H2 F.L0) v d
  | .v .ft d => ∃ p rs rows, d = .list (rows.map PyData.list) ∧ v = .ref p ∧ NewTo H p ∧ (∀ r ∈ rs, NewTo H r) ∧ (p :: rs).Nodup ∧ H2 p = some (.lst (rs.map V.ref)) ∧ TabR K H2 (off H2 (p :: rs ++ (F.L0 ++ owns g))) rs rows
  | .obj A => A.a v (off H2 (F.L0 ++ owns g))
def Sl.r : Sl → Rs
  | .dat d => .v .dat d
  | .own p xs => .v (.own p) (.list xs)
  | .tab _ _ rows => .v .bor (.list (rows.map PyData.list))
  | .dic _ _ => .obj anyA
  | .obj A => .obj A
/-- is it seen by all -/
def Tg.ok : Tg → Bool
  | .dat => true
  | .fr => true
  | .ft => true
  | _ => false
def Tg.and (a b : Tg) : Tg := if a.ok && b.ok then .dat else .bor
theorem RsR.bor (I : Env K Ps F g σ H) {t : Tg} {d : PyData} (e : Sm H H2) (h : RsR K F g H H2 v (.v t d)) : Rp K (off H2 F.L0) v d := by
  cases t with
  | dat => exact Rp.mono (sm_sub fun a z => List.mem_append_left _ z) h
  | bor => exact h
  | fr =>
    obtain ⟨p, vs, xs, rfl, rfl, hn, hp, ha⟩ := h
    refine .lst ?_ (ha.mono (sm_sub fun a z => .tail _ (List.mem_append_left _ z)))
    rw [off_ne fun z => (I.hd p z).ne hn rfl]
    exact hp
  | own p =>
    obtain ⟨vs, xs, rfl, rfl, hm, hp, ha⟩ := h
    refine .lst ?_ (ha.mono (sm_sub fun a z => List.mem_append_left _ z))
    rw [off_ne (I.nw p hm).2.1]
    exact hp
  | ft =>
    obtain ⟨p, rs, rows, rfl, rfl, hn, hr, nd, hp, ht⟩ := h
    refine .lst ?_ (ht.rp (sm_sub fun a z => List.mem_append_right _ (List.mem_append_left _ z)) fun r hr2 z => (I.hd r z).ne (hr r hr2) rfl)
    rw [off_ne fun z => (I.hd p z).ne hn rfl]
    exact hp
theorem RsR.rp (I : Env K Ps F g σ H) {t : Tg} {d : PyData} (e : Sm H H2) (h : RsR K F g H H2 v (.v t d)) : Rp K H2 v d := (RsR.bor I e h).mono sm_hide
theorem RsR.dat (I : Env K Ps F g σ H) {t : Tg} {d : PyData} (e : Sm H H2) (o : t.ok = true) (h : RsR K F g H H2 v (.v t d)) : Rp K (off H2 (F.L0 ++ owns g)) v d := by
  cases t with
  | dat => exact h
  | bor => cases o
  | own p => cases o
  | fr =>
    obtain ⟨p, vs, xs, rfl, rfl, hn, hp, ha⟩ := h
    refine .lst ?_ (ha.mono (sm_sub fun a z => .tail _ z))
    rw [off_ne fun z => (hidden I z).ne hn rfl]
    exact hp
  | ft =>
    obtain ⟨p, rs, rows, rfl, rfl, hn, hr, nd, hp, ht⟩ := h
    refine .lst ?_ (ht.rp (sm_sub fun a z => List.mem_append_right _ z) fun r hr2 z => (hidden I z).ne (hr r hr2) rfl)
    rw [off_ne fun z => (hidden I z).ne hn rfl]
    exact hp
theorem RsR.flat (I : Env K Ps F g σ H) {t : Tg} {d : PyData} (e : Sm H H2) (f : flatD d = true) (h : RsR K F g H H2 v (.v t d)) : RsR K F g H H2 v (.v .dat d) := (RsR.bor I e h).flat f
/-- a result stays one -/
theorem RsR.step {r : Rs} (e : Sm H H') (e2 : Sm H' H2) (h : RsR K F g H H' v r) : RsR K F g H H2 v r := by
  have o : ∀ {L}, Sm (off H' L) (off H2 L) := fun {L} => sm_off e2 fun _ z => .inl z
  cases r with
  | obj A => exact A.mono _ _ _ o h
  | v t d =>
    cases t with
    | dat => exact Rp.mono o h
    | bor => exact Rp.mono o h
    | fr =>
      obtain ⟨p, vs, xs, rfl, rfl, hn, hp, ha⟩ := h
      exact ⟨p, vs, xs, rfl, rfl, hn, e2.l hp, ha.mono o⟩
    | own p =>
      obtain ⟨vs, xs, rfl, rfl, hm, hp, ha⟩ := h
      exact ⟨vs, xs, rfl, rfl, hm, e2.l hp, ha.mono o⟩
    | ft =>
      obtain ⟨p, rs, rows, rfl, rfl, hn, hr, nd, hp, ht⟩ := h
      exact ⟨p, rs, rows, rfl, rfl, hn, hr, nd, e2.l hp, ht.mono e2 o⟩
/-- seen from an earlier heap -/
theorem RsR.back {r : Rs} (e : Sm H H') (h : RsR K F g H' H2 v r) : RsR K F g H H2 v r := by
  cases r with
  | obj A => exact h
  | v t d =>
    cases t with
    | dat => exact h
    | bor => exact h
    | own p => exact h
    | fr =>
      obtain ⟨p, vs, xs, rfl, rfl, hn, hp, ha⟩ := h
      exact ⟨p, vs, xs, rfl, rfl, hn.back e, hp, ha⟩
    | ft =>
      obtain ⟨p, rs, rows, rfl, rfl, hn, hr, z⟩ := h
      exact ⟨p, rs, rows, rfl, rfl, hn.back e, fun r hr2 => (hr r hr2).back e, z⟩
theorem Slots.r (I : Env K Ps F g σ H) {x : Sl} (h : g[i]? = some (some x)) : ∃ u, σ[i]? = some (some u) ∧ RsR K F g H H u x.r := by
  obtain ⟨u, h1, h2⟩ := I.sl.get h
  refine ⟨u, h1, ?_⟩
  cases x with
  | dat d => exact h2
  | obj A => exact h2
  | dic p kvs => exact trivial
  | own p xs =>
    obtain ⟨rfl, vs, hp, ha⟩ := h2
    exact ⟨vs, xs, rfl, rfl, mem_owns (List.mem_of_getElem? h), hp, ha⟩
  | tab p rs rows =>
    obtain ⟨rfl, hp, ht⟩ := h2
    have hm : ∀ a ∈ p :: rs, a ∈ owns g := fun a ha => mem_ownsOf (x := some (.tab p rs rows)) ha (List.mem_of_getElem? h)
    refine Rp.lst ?_ (ht.rp (sm_sub fun a z => List.mem_append_left _ z) fun r hr => (I.nw r (hm r (List.mem_cons_of_mem _ hr))).2.1)
    rw [off_ne (I.nw p (hm p (List.mem_cons_self ..))).2.1]
    exact hp
/-! stores -/
theorem owns_set_in {x : Option Sl} : ∀ {g : Gm} {i : Nat} {a : Addr}, a ∈ owns (g.set i x) → a ∈ ownsOf x ∨ a ∈ owns g
  | [], _, _, h => .inr h
  | y :: g, 0, a, h => (List.mem_append.mp (show a ∈ ownsOf x ++ owns g from h)).elim .inl fun z => .inr (List.mem_append_right _ z)
  | y :: g, i + 1, a, h => (List.mem_append.mp (show a ∈ ownsOf y ++ owns (g.set i x) from h)).elim (fun z => .inr (List.mem_append_left _ z)) fun z => (owns_set_in (g := g) (i := i) z).elim .inl fun z => .inr (List.mem_append_right _ z)
theorem owns_set_sub {x : Option Sl} (hx : ownsOf x = []) {g : Gm} {i : Nat} {a : Addr} (h : a ∈ owns (g.set i x)) : a ∈ owns g := by
  rcases owns_set_in h with z | z
  · rw [hx] at z
    cases z
  · exact z
theorem owns_set_nds {x : Option Sl} (hn : (ownsOf x).Nodup) : ∀ {g : Gm} {i : Nat}, (∀ a ∈ ownsOf x, a ∉ owns g) → (owns g).Nodup → (owns (g.set i x)).Nodup
  | [], _, _, h => h
  | y :: g, 0, f, h => List.nodup_append.mpr ⟨hn, (List.nodup_append.mp h).2.1, fun a ha b hb e => f a ha (List.mem_append_right _ (e ▸ hb))⟩
  | y :: g, i + 1, f, h => by
    obtain ⟨h1, h2, h3⟩ := List.nodup_append.mp h
    refine List.nodup_append.mpr ⟨h1, owns_set_nds hn (g := g) (i := i) (fun a ha z => f a ha (List.mem_append_right _ z)) h2, fun a ha b hb e => ?_⟩
    rcases owns_set_in hb with z | z
    · exact f b z (List.mem_append_left _ (e ▸ ha))
    · exact h3 a ha b z e
theorem owns_set_nd {x : Option Sl} (hx : ownsOf x = []) {g : Gm} {i : Nat} (h : (owns g).Nodup) : (owns (g.set i x)).Nodup :=
  owns_set_nds (by rw [hx]; exact List.nodup_nil) (fun a ha => by rw [hx] at ha; cases ha) h
theorem vis_set {L0 : List Addr} {x : Option Sl} (hx : ownsOf x = []) : Sm (off H (L0 ++ owns g)) (off H (L0 ++ owns (g.set i x))) :=
  sm_sub fun a z => (List.mem_append.mp z).elim (fun z => List.mem_append_left _ z) fun z => List.mem_append_right _ (owns_set_sub hx z)
theorem Env.set_dat (I : Env K Ps F g σ H) {d : PyData} (h : Rp K (off H (F.L0 ++ owns g)) v d) : Env K Ps F (g.set i (some (.dat d))) (σ.set i (some v)) H := by
  have hx : ownsOf (some (Sl.dat d)) = [] := rfl
  exact ⟨Slots.set (x := .dat d) (h.mono (vis_set hx)) (I.sl.mono (Sm.refl H) (vis_set hx)), I.sm, I.tb, I.hd, owns_set_nd hx I.nd, fun q z => I.nw q (owns_set_sub hx z)⟩
theorem Env.set_obj (I : Env K Ps F g σ H) {A : Asr} (h : A.a v (off H (F.L0 ++ owns g))) : Env K Ps F (g.set i (some (.obj A))) (σ.set i (some v)) H := by
  have hx : ownsOf (some (Sl.obj A)) = [] := rfl
  exact ⟨Slots.set (x := .obj A) (A.mono _ _ _ (vis_set hx) h) (I.sl.mono (Sm.refl H) (vis_set hx)), I.sm, I.tb, I.hd, owns_set_nd hx I.nd, fun q z => I.nw q (owns_set_sub hx z)⟩
theorem Env.forget (I : Env K Ps F g σ H) (u : Option V) : Env K Ps F (g.set i none) (σ.set i u) H := by
  have hx : ownsOf (none : Option Sl) = [] := rfl
  exact ⟨Slots.drop u (I.sl.mono (Sm.refl H) (vis_set hx)), I.sm, I.tb, I.hd, owns_set_nd hx I.nd, fun q z => I.nw q (owns_set_sub hx z)⟩
/-- new things become one's own -/
theorem Env.set_new (I : Env K Ps F g σ H) (e : Sm H H2) {x : Sl} {u : V} (hn : ∀ a ∈ ownsOf (some x), NewTo H a ∧ Hid H2 a) (nd : (ownsOf (some x)).Nodup) (hx : SlR K H2 (off H2 (ownsOf (some x) ++ (F.L0 ++ owns g))) x u) :
    Env K Ps F (g.set i (some x)) (σ.set i (some u)) H2 := by
  have vis : ∀ a, a ∈ F.L0 ++ owns (g.set i (some x)) → a ∈ ownsOf (some x) ++ (F.L0 ++ owns g) := fun a z => (List.mem_append.mp z).elim (fun z => List.mem_append_right _ (List.mem_append_left _ z)) fun z => (owns_set_in z).elim (fun q => List.mem_append_left _ q) fun z => List.mem_append_right _ (List.mem_append_right _ z)
  have v1 : Sm (off H (F.L0 ++ owns g)) (off H2 (F.L0 ++ owns (g.set i (some x)))) := sm_off e fun a z => (List.mem_append.mp (vis a z)).elim (fun q => .inr (hn a q).1) .inl
  have I2 := I.step e
  refine ⟨Slots.set (x := x) (hx.mono (Sm.refl H2) (sm_sub vis)) (I.sl.mono e v1), I2.sm, I2.tb, I2.hd, owns_set_nds nd (fun a ha z => (I.nw a z).2.2.ne (hn a ha).1 rfl) I.nd, fun q z => ?_⟩
  rcases owns_set_in z with z | z
  · exact ⟨(hn q z).1.back I.sm, fun y => (I.hd q y).ne (hn q z).1 rfl, (hn q z).2⟩
  · exact I2.nw q z
/-- a new list becomes one's own -/
theorem Env.set_own (I : Env K Ps F g σ H) (e : Sm H H2) {p : Addr} {vs : List V} {xs : List PyData} (hn : NewTo H p) (hp : H2 p = some (.lst vs)) (ha : RpAll K (off H2 (p :: (F.L0 ++ owns g))) vs xs) :
    Env K Ps F (g.set i (some (.own p xs))) (σ.set i (some (.ref p))) H2 :=
  I.set_new (x := .own p xs) e (fun a ha => by rw [List.mem_singleton.mp ha]; exact ⟨hn, .lst hp⟩) (List.nodup_cons.mpr ⟨by simp, List.nodup_nil⟩) ⟨rfl, vs, hp, ha⟩
/-- a new list of new lists becomes one's own -/
theorem Env.set_tab (I : Env K Ps F g σ H) (e : Sm H H2) {p : Addr} {rs : List Addr} {rows : List (List PyData)} (hn : NewTo H p) (hr : ∀ r ∈ rs, NewTo H r) (nd : (p :: rs).Nodup) (hp : H2 p = some (.lst (rs.map V.ref))) (ht : TabR K H2 (off H2 (p :: rs ++ (F.L0 ++ owns g))) rs rows) :
    Env K Ps F (g.set i (some (.tab p rs rows))) (σ.set i (some (.ref p))) H2 :=
  I.set_new (x := .tab p rs rows) e (fun a ha => by
    rcases List.mem_cons.mp ha with rfl | ha
    · exact ⟨hn, .lst hp⟩
    · obtain ⟨vs, h⟩ := ht.hid a ha
      exact ⟨hr a ha, .lst h⟩) nd ⟨rfl, hp, ht⟩
theorem owns_put {x y : Option Sl} (hxy : ownsOf x = ownsOf y) : ∀ {g : Gm} {i : Nat}, g[i]? = some y → owns (g.set i x) = owns g
  | [], _, e => by simp at e
  | z :: g, 0, e => by
    simp at e
    subst e
    show ownsOf x ++ owns g = ownsOf z ++ owns g
    rw [hxy]
  | z :: g, i + 1, e => by
    show ownsOf z ++ owns (g.set i x) = ownsOf z ++ owns g
    rw [owns_put hxy (g := g) (i := i) (by simpa using e)]
/-- a list that is one's own changes -/
theorem Env.putAtO (I : Env K Ps F g σ H) {x y : Sl} {u : V} {q : Addr} {o : HO} (ho' : ∀ ps, o ≠ .tbl ps) (hg : g[i]? = some (some y)) (hσ : σ[i]? = some (some u)) (hxy : ownsOf (some x) = ownsOf (some y)) (hq : q ∈ ownsOf (some y)) (hx : SlR K (upd H q o) (off H (F.L0 ++ owns g)) x u) :
    Env K Ps F (g.set i (some x)) σ (upd H q o) := by
  have hm : q ∈ owns g := mem_ownsOf hq (List.mem_of_getElem? hg)
  have ho := owns_put hxy hg
  have e : off (upd H q o) (F.L0 ++ owns (g.set i (some x))) = off H (F.L0 ++ owns g) := by rw [ho, off_upd (List.mem_append_right _ hm)]
  have ht : ∀ {P}, GxR.TabG H P → GxR.TabG (upd H q o) P := fun {P} ⟨ps, z, t⟩ => ⟨ps, by
    rw [upd_ne fun w => ?_]
    · exact z
    · subst w
      obtain ⟨o, h1, h2⟩ := (I.nw P hm).2.2
      rw [z] at h1
      cases h1
      exact h2 _ rfl, t⟩
  have hh : ∀ {a}, Hid H a → Hid (upd H q o) a := fun {a} ⟨o2, h1, h2⟩ => by
    by_cases z : a = q
    · subst z
      exact ⟨o, upd_same, ho'⟩
    · exact ⟨o2, by rw [upd_ne z]; exact h1, h2⟩
  refine ⟨?_, sm_upd I.sm (I.nw q hm).1, fun P z => ht (I.tb P z), fun a z => hh (I.hd a z), by rw [ho]; exact I.nd, fun a z => ?_⟩
  · rw [e]
    exact Slots.chg hx I.sl hg hσ I.nd fun a ha => upd_ne fun z => ha (z ▸ hq)
  · rw [ho] at z
    exact ⟨(I.nw a z).1, (I.nw a z).2.1, hh (I.nw a z).2.2⟩
theorem Env.putAt (I : Env K Ps F g σ H) {x y : Sl} {u : V} {q : Addr} {vs : List V} (hg : g[i]? = some (some y)) (hσ : σ[i]? = some (some u)) (hxy : ownsOf (some x) = ownsOf (some y)) (hq : q ∈ ownsOf (some y)) (hx : SlR K (upd H q (.lst vs)) (off H (F.L0 ++ owns g)) x u) :
    Env K Ps F (g.set i (some x)) σ (upd H q (.lst vs)) := I.putAtO (fun _ z => by cases z) hg hσ hxy hq hx
theorem Env.put (I : Env K Ps F g σ H) {p : Addr} {vs : List V} {xs ys : List PyData} (hg : g[i]? = some (some (.own p ys))) (ha : RpAll K (off H (F.L0 ++ owns g)) vs xs) :
    Env K Ps F (g.set i (some (.own p xs))) σ (upd H p (.lst vs)) := by
  obtain ⟨u, h1, rfl, _⟩ := I.sl.get hg
  exact I.putAt hg h1 rfl (List.mem_cons_self ..) ⟨rfl, vs, upd_same, ha⟩
/-- lists of one's own are given up: they are data from now on -/
def Sl.sh : Sl → Sl
  | .own _ xs => .dat (.list xs)
  | .tab _ _ rows => .dat (.list (rows.map PyData.list))
  | .dic _ _ => .obj anyA
  | x => x
def shr (g : Gm) : Gm := g.map fun x => x.map Sl.sh
theorem ownsOf_sh {x : Option Sl} : ownsOf (x.map Sl.sh) = [] := by
  cases x with
  | none => rfl
  | some x => cases x <;> rfl
theorem owns_shr : ∀ {g : Gm}, owns (shr g) = []
  | [] => rfl
  | x :: g => by
    show ownsOf (x.map Sl.sh) ++ owns (shr g) = []
    rw [ownsOf_sh, owns_shr]
    rfl
theorem Env.share (I : Env K Ps F g σ H) : Env K Ps F (shr g) σ H := by
  refine ⟨?_, I.sm, I.tb, I.hd, by rw [owns_shr]; exact List.nodup_nil, fun q z => by rw [owns_shr] at z; cases z⟩
  rw [owns_shr, List.append_nil]
  have e := I.seen'
  have all : ∀ p ∈ owns g, p ∉ F.L0 := fun p z => (I.nw p z).2.1
  have s := I.sl
  clear I
  have go : ∀ {g : Gm} {σ : L2.St}, (∀ p ∈ owns g, p ∉ F.L0) → ∀ {V0 : Hp}, Sm V0 (off H F.L0) → Slots K H V0 g σ → Slots K H (off H F.L0) (shr g) σ := by
    intro g
    induction g with
    | nil => intro σ _ V0 _ s; cases σ with
      | nil => trivial
      | cons _ _ => exact s
    | cons x g ih =>
      intro σ al V0 e s
      cases σ with
      | nil => cases x <;> exact s
      | cons v σ =>
        cases x with
        | none => exact ih (fun p z => al p z) e s
        | some x =>
          obtain ⟨⟨u, rfl, hu⟩, s⟩ := s
          cases x with
          | dat d => exact ⟨⟨u, rfl, Rp.mono e hu⟩, ih (fun p z => al p z) e s⟩
          | tab p rs rows =>
            obtain ⟨rfl, hp, ht⟩ := hu
            exact ⟨⟨_, rfl, .lst (by rw [off_ne (al p (List.mem_append_left _ (List.mem_cons_self ..)))]; exact hp) (ht.rp e fun r hr => al r (List.mem_append_left _ (List.mem_cons_of_mem _ hr)))⟩, ih (fun p z => al p (List.mem_append_right _ z)) e s⟩
          | obj A => exact ⟨⟨u, rfl, A.mono _ _ _ e hu⟩, ih (fun p z => al p z) e s⟩
          | dic p kvs => exact ⟨⟨u, rfl, trivial⟩, ih (fun p z => al p (.tail _ z)) e s⟩
          | own p xs =>
            obtain ⟨rfl, vs, hp, ha⟩ := hu
            exact ⟨⟨_, rfl, .lst (by rw [off_ne (al p (.head _))]; exact hp) (ha.mono e)⟩, ih (fun p z => al p (.tail _ z)) e s⟩
  exact go all e s
end
end PV

namespace PV
open PySem PySem.Spec PyProof.Rows L2 Cm
open GX (Sm)
/-! #### readings over values -/
/-- an error: its class, its own fields -/
structure Er where
  cls : Addr
  fs : Option (List (Str × PyData)) := none
abbrev WX := Value → Option Addr → L2.St → Hp → Prop
abbrev GE := Gm → (Er → Prop) → (Rs → Prop) → Prop
abbrev GT := Gm → (Er → Prop) → (Bool → Prop) → Prop
abbrev GA := Gm → (Er → Prop) → (List Rs → Prop) → Prop
abbrev GO := Gm → (Er → Prop) → (Option Int → Prop) → Prop
abbrev GI := Gm → (Er → Prop) → (List PyData → Prop) → Prop
abbrev GG := Rs → Gm → (Er → Prop) → (Gm → Prop) → Prop
structure GEnds where
  nx : Gm → Prop
  rt : Rs → Prop
  bk : Gm → Prop
  ct : Gm → Prop
  ex : Gm → Er → Prop
abbrev GS := GEnds → Gm → Prop
section
variable (K : PySem.W.Frag) (Ps : List Addr) (W : WX)
def ErR (L0 : List Addr) (H : Hp) (e : Er) (cls : Value) (d : Option Addr) : Prop := cls = .ref e.cls ∧ match e.fs with
  | none => d = none
  | some fs => ∃ a us, d = some a ∧ off H L0 a = some (.xd us) ∧ Paired (fun u f => u.1 = f.1 ∧ Rp K (off H L0) u.2 f.2) us fs
def Wx (F : Fr) (σ : L2.St) (H : Hp) (PX : Er → Prop) : Prop := ∀ e cls d H2, Sm H H2 → ErR K F.L0 H2 e cls d → PX e → W cls d σ H2
def LE (te : TE) (pe : GE) : Prop := ∀ F g σ H Q PX PQ, Env K Ps F g σ H → Wx K W F σ H PX → pe g PX PQ → (∀ r v H2, Sm H H2 → RsR K F g H H2 v r → PQ r → Q v H2) → te σ H Q
def LT (te : TT) (pe : GT) : Prop := ∀ F g σ H Q PX PQ, Env K Ps F g σ H → Wx K W F σ H PX → pe g PX PQ → (∀ b H2, Sm H H2 → PQ b → Q b H2) → te σ H Q
inductive RsAll (F : Fr) (g : Gm) (H H2 : Hp) : List V → List Rs → Prop
  | nil : RsAll F g H H2 [] []
  | cons {v r vs rs} : RsR K F g H H2 v r → RsAll F g H H2 vs rs → RsAll F g H H2 (v :: vs) (r :: rs)
def LA (te : TA) (pe : GA) : Prop := ∀ F g σ H Q PX PQ, Env K Ps F g σ H → Wx K W F σ H PX → pe g PX PQ → (∀ rs vs H2, Sm H H2 → RsAll K F g H H2 vs rs → PQ rs → Q vs H2) → te σ H Q
def LO (te : TO) (pe : GO) : Prop := ∀ F g σ H Q PX PQ, Env K Ps F g σ H → Wx K W F σ H PX → pe g PX PQ → (∀ o H2, Sm H H2 → PQ o → Q o H2) → te σ H Q
/-- operators at values -/
def LR2 (r : R2) (pr : Rs → Rs → (Rs → Prop) → Prop) : Prop := ∀ F g σ H H1 x y v w Q PQ, Env K Ps F g σ H → Sm H H1 → RsR K F g H H1 v x → RsR K F g H H1 w y → pr x y PQ → (∀ r u H2, Sm H1 H2 → RsR K F g H H2 u r → PQ r → Q u H2) → r v w H1 Q
def LR1 (r : V → Hp → VK → Prop) (pr : Rs → (Rs → Prop) → Prop) : Prop := ∀ F g σ H H1 x v Q PQ, Env K Ps F g σ H → Sm H H1 → RsR K F g H H1 v x → pr x PQ → (∀ r u H2, Sm H1 H2 → RsR K F g H H2 u r → PQ r → Q u H2) → r v H1 Q
def LC (r : List V → Hp → VK → Prop) (pr : List Rs → (Rs → Prop) → Prop) : Prop := ∀ F g σ H H1 rs vs Q PQ, Env K Ps F g σ H → Sm H H1 → RsAll K F g H H1 vs rs → pr rs PQ → (∀ r u H2, Sm H1 H2 → RsR K F g H H2 u r → PQ r → Q u H2) → r vs H1 Q
structure Ends' (F : Fr) (PD : GEnds) (D : Ends) : Prop where
  nx : ∀ g σ H, Env K Ps F g σ H → PD.nx g → D.nx σ H
  bk : ∀ g σ H, Env K Ps F g σ H → PD.bk g → D.bk σ H
  ct : ∀ g σ H, Env K Ps F g σ H → PD.ct g → D.ct σ H
  rt : ∀ r v H, Sm F.H0 H → RsR K F [] F.H0 H v r → PD.rt r → D.rt v H
  ex : ∀ g σ H e cls d, Env K Ps F g σ H → ErR K F.L0 H e cls d → PD.ex g e → W cls d σ H
def LS (ts : TS) (ps : GS) : Prop := ∀ F D σ H PD g, Env K Ps F g σ H → Ends' K Ps W F PD D → ps PD g → ts D σ H
def LG (tg : TG) (pg : GG) (vs : List Nat) : Prop := ∀ F g σ H H1 v r Q PX PQ, Env K Ps F g σ H → Sm H H1 → RsR K F g H H1 v r → Wx K W F σ H PX → pg r g PX PQ →
  (∀ g' σ' H', Env K Ps F g' σ' H' → (∀ j, j ∉ vs → σ'[j]? = σ[j]?) → PQ g' → Q σ' H') → tg v σ H1 Q
/-- what is walked: items that stand as long as what is seen stands -/
structure WOk (V0 : Hp) (J : It) (items : List PyData) : Prop where
  go : ∀ i H L, i < items.length → Sm V0 (off H L) → J.go i H
  stop : ∀ H L, Sm V0 (off H L) → J.stop items.length H
  yld : ∀ i H L x H', i < items.length → Sm V0 (off H L) → (∀ q ∈ L, Hid H q) → J.yld i H x H' → Sm H H' ∧ ∃ d, items[i]? = some d ∧ Rp K (off H' L) x d
def LI (wi : TI) (pi : GI) : Prop := ∀ F g σ H R PX PQ, Env K Ps F g σ H → Wx K W F σ H PX → pi g PX PQ → (∀ J H1 items, Sm H H1 → WOk K (off H1 (F.L0 ++ owns g)) J items → PQ items → R J H1) → wi σ H R
end
section
variable {K : PySem.W.Frag} {Ps : List Addr} {W : WX} {F : Fr} {g : Gm} {σ : L2.St} {H H1 H2 : Hp}
theorem Wx.step {PX : Er → Prop} (h : Wx K W F σ H PX) (e : Sm H H1) : Wx K W F σ H1 PX := fun er cls d H2 s => h er cls d H2 (e.trans s)
theorem Ends'.wx {PD : GEnds} {D : Ends} (h : Ends' K Ps W F PD D) (I : Env K Ps F g σ H) : Wx K W F σ H (PD.ex g) := fun e cls d H2 s er p => h.ex g σ H2 e cls d (I.step s) er p
theorem RsR.bas {r : Rs} {v : V} (I : Env K Ps F g σ H) (h : RsR K ⟨off H (owns g), F.L0⟩ [] (off H (owns g)) H2 v r) : RsR K F [] F.H0 H2 v r := by
  cases r with
  | obj A => exact h
  | v t d =>
    cases t with
    | dat => exact h
    | bor => exact h
    | own p => exact h
    | fr =>
      obtain ⟨p, vs, xs, rfl, rfl, hn, hp, ha⟩ := h
      exact ⟨p, vs, xs, rfl, rfl, hn.back I.base_sm, hp, ha⟩
    | ft =>
      obtain ⟨p, rs, rows, rfl, rfl, hn, hr, z⟩ := h
      exact ⟨p, rs, rows, rfl, rfl, hn.back I.base_sm, fun r hr2 => (hr r hr2).back I.base_sm, z⟩
/-- within a loop: all begins anew -/
theorem Ends'.base {PD : GEnds} {D : Ends} (h : Ends' K Ps W F PD D) (I : Env K Ps F g σ H) : Ends' K Ps W ⟨off H (owns g), F.L0⟩ PD D :=
  ⟨fun g' σ' H' J => h.nx g' σ' H' (I.unbase J), fun g' σ' H' J => h.bk g' σ' H' (I.unbase J), fun g' σ' H' J => h.ct g' σ' H' (I.unbase J), fun r v H' e q => h.rt r v H' (I.base_sm.trans e) (q.bas I),
    fun g' σ' H' e cls d J => h.ex g' σ' H' e cls d (I.unbase J)⟩
theorem RsAll.step {rs : List Rs} {vs : List V} (e : Sm H H1) (e2 : Sm H1 H2) (h : RsAll K F g H H1 vs rs) : RsAll K F g H H2 vs rs := by
  induction h with
  | nil => exact .nil
  | cons a _ ih => exact .cons (a.step e e2) ih
theorem RsAll.back {rs : List Rs} {vs : List V} (e : Sm H H1) (h : RsAll K F g H1 H2 vs rs) : RsAll K F g H H2 vs rs := by
  induction h with
  | nil => exact .nil
  | cons a _ ih => exact .cons (a.back e) ih
theorem rs_dat {v : V} {d : PyData} (h : Rp K (off H2 (F.L0 ++ owns g)) v d) : RsR K F g H1 H2 v (.v .dat d) := h
/-! ##### expressions -/
def pVar (i : Nat) : GE := fun g _ Q => match g[i]? with
  | some (some s) => Q s.r
  | _ => False
theorem le_var {i : Nat} : LE K Ps W (tVar i) (pVar i) := by
  intro F g σ H Q PX PQ I _ h k
  unfold pVar at h
  split at h
  · next s e =>
    obtain ⟨u, h1, h2⟩ := Slots.r I e
    exact ⟨u, h1, k _ _ _ (Sm.refl H) h2 h⟩
  · exact h.elim
/-- plain values as data -/
def dV : V → PyData
  | .bl b => .bool b
  | .int i => .int i
  | .str x => .str x
  | _ => .none
theorem rp_dV {v : V} {H : Hp} (h : flatV v = true) : Rp K H v (dV v) := by
  cases v with
  | non => exact .non
  | bl b => exact .bl b
  | int i => exact .int i
  | str x => exact .str x
  | byt _ => cases h
  | flt _ => cases h
  | ref _ => cases h
  | ty _ => cases h
def pC (d : PyData) : GE := fun _ _ Q => Q (.v .dat d)
theorem le_c {v : V} (h : flatV v = true := by rfl) : LE K Ps W (tC v) (pC (dV v)) := fun F g σ H Q PX PQ I _ q k => k _ _ _ (Sm.refl H) (rs_dat (rp_dV h)) q
def pOp (pr : Rs → Rs → (Rs → Prop) → Prop) (pa pb : GE) : GE := fun g PX Q => pa g PX fun x => pb g PX fun y => pr x y Q
theorem le_op {r : R2} {pr : Rs → Rs → (Rs → Prop) → Prop} {ta tb : TE} {pa pb : GE} (hr : LR2 K Ps r pr) (ha : LE K Ps W ta pa) (hb : LE K Ps W tb pb) : LE K Ps W (tOp r ta tb) (pOp pr pa pb) := fun F g σ H Q PX PQ I w h k =>
  ha F g σ H _ PX _ I w h fun x v H1 e1 r1 h1 => hb F g σ H1 _ PX _ (I.step e1) (w.step e1) h1 fun y u H2 e2 r2 h2 => hr F g σ H H2 x y v u Q PQ I (e1.trans e2) (r1.step e1 e2) (r2.back e1) h2 fun r u H3 e3 r3 h3 =>
    k r u H3 ((e1.trans e2).trans e3) r3 h3
def pUn (pr : Rs → (Rs → Prop) → Prop) (pa : GE) : GE := fun g PX Q => pa g PX fun x => pr x Q
theorem le_un {r : V → Hp → VK → Prop} {pr : Rs → (Rs → Prop) → Prop} {ta : TE} {pa : GE} (hr : LR1 K Ps r pr) (ha : LE K Ps W ta pa) : LE K Ps W (tUn r ta) (pUn pr pa) := fun F g σ H Q PX PQ I w h k =>
  ha F g σ H _ PX _ I w h fun x v H1 e1 r1 h1 => hr F g σ H H1 x v Q PQ I e1 r1 h1 fun r u H2 e2 r2 h2 => k r u H2 (e1.trans e2) r2 h2
/-! two ints -/
def pII (C : Int → Int → Prop) (f : Int → Int → PyData) : Rs → Rs → (Rs → Prop) → Prop := fun x y Q => match x, y with
  | .v _ (.int i), .v _ (.int j) => C i j ∧ Q (.v .dat (f i j))
  | _, _ => False
def pII0 (f : Int → Int → PyData) : Rs → Rs → (Rs → Prop) → Prop := fun x y Q => match x, y with
  | .v _ (.int i), .v _ (.int j) => Q (.v .dat (f i j))
  | _, _ => False
theorem lr_I {C : Int → Int → Prop} {f : Int → Int → V} (hf : ∀ i j, flatV (f i j) = true := by intros; rfl) : LR2 K Ps (rI C f) (pII C fun i j => dV (f i j)) := by
  intro F g σ H H1 x y v u Q PQ I e rx ry h k
  unfold pII at h
  split at h
  · next i j =>
    cases rx.rp I e
    cases ry.rp I e
    exact ⟨_, _, rfl, rfl, h.1, k _ _ _ (Sm.refl H1) (rs_dat (rp_dV (hf _ _))) h.2⟩
  · exact h.elim
theorem lr_I0 {f : Int → Int → V} (hf : ∀ i j, flatV (f i j) = true := by intros; rfl) : LR2 K Ps (rI0 f) (pII0 fun i j => dV (f i j)) := by
  intro F g σ H H1 x y v u Q PQ I e rx ry h k
  unfold pII0 at h
  split at h
  · next i j =>
    cases rx.rp I e
    cases ry.rp I e
    exact ⟨_, _, rfl, rfl, k _ _ _ (Sm.refl H1) (rs_dat (rp_dV (hf _ _))) h⟩
  · exact h.elim
def pNeg : Rs → (Rs → Prop) → Prop := fun x Q => match x with
  | .v _ (.int i) => Q (.v .dat (.int (-i)))
  | _ => False
theorem lr_neg : LR1 K Ps (rU fun i => .int (-i)) pNeg := by
  intro F g σ H H1 x v Q PQ I e rx h k
  unfold pNeg at h
  split at h
  · cases rx.rp I e
    exact ⟨_, rfl, k _ _ _ (Sm.refl H1) (rs_dat (.int _)) h⟩
  · exact h.elim
/-! texts -/
def pSS (C : Str → Str → Prop) (f : Str → Str → PyData) : Rs → Rs → (Rs → Prop) → Prop := fun x y Q => match x, y with
  | .v _ (.str i), .v _ (.str j) => C i j ∧ Q (.v .dat (f i j))
  | _, _ => False
def pSS0 (f : Str → Str → PyData) : Rs → Rs → (Rs → Prop) → Prop := fun x y Q => match x, y with
  | .v _ (.str i), .v _ (.str j) => Q (.v .dat (f i j))
  | _, _ => False
theorem lr_S {C : Str → Str → Prop} {f : Str → Str → V} (hf : ∀ i j, flatV (f i j) = true := by intros; rfl) : LR2 K Ps (fun x y H Q => ∃ i j, x = .str i ∧ y = .str j ∧ C i j ∧ Q (f i j) H) (pSS C fun i j => dV (f i j)) := by
  intro F g σ H H1 x y v u Q PQ I e rx ry h k
  unfold pSS at h
  split at h
  · next i j =>
    cases rx.rp I e
    cases ry.rp I e
    exact ⟨_, _, rfl, rfl, h.1, k _ _ _ (Sm.refl H1) (rs_dat (rp_dV (hf _ _))) h.2⟩
  · exact h.elim
theorem lr_S0 {f : Str → Str → V} (hf : ∀ i j, flatV (f i j) = true := by intros; rfl) : LR2 K Ps (fun x y H Q => ∃ i j, x = .str i ∧ y = .str j ∧ Q (f i j) H) (pSS0 fun i j => dV (f i j)) := by
  intro F g σ H H1 x y v u Q PQ I e rx ry h k
  unfold pSS0 at h
  split at h
  · next i j =>
    cases rx.rp I e
    cases ry.rp I e
    exact ⟨_, _, rfl, rfl, k _ _ _ (Sm.refl H1) (rs_dat (rp_dV (hf _ _))) h⟩
  · exact h.elim
/-! == of plain values and of data -/
def eqF : PyData → PyData → Option Bool
  | .none, .none => some true
  | .none, .int _ => some false
  | .int _, .none => some false
  | .none, .bool _ => some false
  | .bool _, .none => some false
  | .none, .str _ => some false
  | .str _, .none => some false
  | .int i, .int j => some (decide (i = j))
  | .bool i, .bool j => some (decide (i = j))
  | .str i, .str j => some (decide (i = j))
  | .int _, .str _ => some false
  | .str _, .int _ => some false
  | .bool _, .str _ => some false
  | .str _, .bool _ => some false
  | _, _ => none
theorem eqF_ok {d e : PyData} {v u : V} {b : Bool} (h : eqF d e = some b) (r1 : Rp K H v d) (r2 : Rp K H u e) : scal v u = true ∧ decide (v = u) = b := by
  cases r1 <;> cases r2 <;> first
    | (cases h; done)
    | (cases h; exact ⟨rfl, by simp⟩)
def pEq (f : Bool → Bool) : Rs → Rs → (Rs → Prop) → Prop := fun x y Q => match x, y with
  | .v _ d, .v _ e => match eqF d e with
    | some b => Q (.v .dat (.bool (f b)))
    | none => False
  | _, _ => False
theorem lr_eq : LR2 K Ps rEq (pEq fun b => b) := by
  intro F g σ H H1 x y v u Q PQ I e rx ry h k
  cases x with
  | obj _ => exact h.elim
  | v t d => cases y with
    | obj _ => exact h.elim
    | v t2 d2 =>
      unfold pEq at h
      dsimp only at h
      split at h
      · next b eb =>
        obtain ⟨h1, h2⟩ := eqF_ok eb (rx.rp I e) (ry.rp I e)
        refine ⟨h1, k _ _ _ (Sm.refl H1) (rs_dat (.bl _)) ?_⟩
        rw [h2]
        exact h
      · exact h.elim
theorem lr_ne : LR2 K Ps rNe (pEq fun b => !b) := by
  intro F g σ H H1 x y v u Q PQ I e rx ry h k
  cases x with
  | obj _ => exact h.elim
  | v t d => cases y with
    | obj _ => exact h.elim
    | v t2 d2 =>
      unfold pEq at h
      dsimp only at h
      split at h
      · next b eb =>
        obtain ⟨h1, h2⟩ := eqF_ok eb (rx.rp I e) (ry.rp I e)
        refine ⟨h1, k _ _ _ (Sm.refl H1) (rs_dat (.bl _)) ?_⟩
        rw [h2]
        exact h
      · exact h.elim
def pEqD (f : Bool → Bool) : Rs → Rs → (Rs → Prop) → Prop := fun x y Q => match x, y with
  | .v _ d, .v _ e => SeqAt.shaped d = true ∧ SeqAt.shaped e = true ∧ Q (.v .dat (.bool (f (PyData.eqv d e))))
  | _, _ => False
theorem lr_eqD : LR2 K Ps (rEqD K) (pEqD fun b => b) := by
  intro F g σ H H1 x y v u Q PQ I e rx ry h k
  cases x with
  | obj _ => exact h.elim
  | v t d => cases y with
    | obj _ => exact h.elim
    | v t2 d2 => exact ⟨_, _, (rx.rp I e).dp, (ry.rp I e).dp, h.1, h.2.1, k _ _ _ (Sm.refl H1) (rs_dat (.bl _)) h.2.2⟩
theorem lr_neD : LR2 K Ps (rNeD K) (pEqD fun b => !b) := by
  intro F g σ H H1 x y v u Q PQ I e rx ry h k
  cases x with
  | obj _ => exact h.elim
  | v t d => cases y with
    | obj _ => exact h.elim
    | v t2 d2 => exact ⟨_, _, (rx.rp I e).dp, (ry.rp I e).dp, h.1, h.2.1, k _ _ _ (Sm.refl H1) (rs_dat (.bl _)) h.2.2⟩
/-! is None -/
def isN : PyData → Bool
  | .none => true
  | _ => false
def pIsN (f : Bool → Bool) : Rs → Rs → (Rs → Prop) → Prop := fun x y Q => match x, y with
  | .v _ d, .v _ .none => Q (.v .dat (.bool (f (isN d))))
  | _, _ => False
/-! parts of lists and tuples -/
def Tg.d : Tg → Bool
  | .bor => false
  | _ => true
/-- an item's kind -/
def Tg.it : Tg → Tg
  | .bor => .bor
  | _ => .dat
theorem RsR.items (I : Env K Ps F g σ H) {t : Tg} {xs : List PyData} {v : V} (e : Sm H H1) (h : RsR K F g H H1 v (.v t (.list xs))) : ∃ p vs, v = .ref p ∧ H1 p = some (.lst vs) ∧ RpAll K (off H1 F.L0) vs xs ∧ (t.it = .dat → RpAll K (off H1 (F.L0 ++ owns g)) vs xs) := by
  have m : Sm (off H1 (F.L0 ++ owns g)) (off H1 F.L0) := sm_sub fun a z => List.mem_append_left _ z
  cases t with
  | dat =>
    cases h with
    | lst hp ha => exact ⟨_, _, rfl, (off_some hp).2, ha.mono m, fun _ => ha⟩
  | bor =>
    cases h with
    | lst hp ha => exact ⟨_, _, rfl, (off_some hp).2, ha, fun z => by cases z⟩
  | fr =>
    obtain ⟨p, vs, xs, z, rfl, hn, hp, ha⟩ := h
    cases z
    have ha2 := ha.mono (sm_sub fun a z => .tail _ z)
    exact ⟨p, vs, rfl, hp, ha2.mono m, fun _ => ha2⟩
  | own p =>
    obtain ⟨vs, xs, z, rfl, hm, hp, ha⟩ := h
    cases z
    exact ⟨p, vs, rfl, hp, ha.mono m, fun _ => ha⟩
  | ft =>
    obtain ⟨p, rs, rows, z, rfl, hn, hr, nd, hp, ht⟩ := h
    cases z
    have hb := ht.rp (L := F.L0 ++ owns g) (sm_sub fun a z => List.mem_append_right _ z) fun r hr2 z => (hidden I z).ne (hr r hr2) rfl
    exact ⟨p, _, rfl, hp, hb.mono m, fun _ => hb⟩
theorem RsR.itemsT (I : Env K Ps F g σ H) {t : Tg} {xs : List PyData} {v : V} (e : Sm H H1) (h : RsR K F g H H1 v (.v t (.tuple xs))) : ∃ p vs, v = .ref p ∧ SqT K H1 p vs ∧ RpAll K (off H1 F.L0) vs xs ∧ (t.it = .dat → RpAll K (off H1 (F.L0 ++ owns g)) vs xs) := by
  have m : Sm (off H1 (F.L0 ++ owns g)) (off H1 F.L0) := sm_sub fun a z => List.mem_append_left _ z
  cases t with
  | dat =>
    cases h with
    | tup hp ha => exact ⟨_, _, rfl, sm_hide.tup hp, ha.mono m, fun _ => ha⟩
  | bor =>
    cases h with
    | tup hp ha => exact ⟨_, _, rfl, sm_hide.tup hp, ha, fun z => by cases z⟩
  | fr =>
    obtain ⟨p, vs, xs, z, _⟩ := h
    cases z
  | own p =>
    obtain ⟨vs, xs, z, _⟩ := h
    cases z
  | ft =>
    obtain ⟨p, rs, rows, z, _⟩ := h
    cases z
theorem tg_it {t : Tg} : t.it = .dat ∨ t.it = .bor := by cases t <;> simp [Tg.it]
theorem rsr_it {t : Tg} {d : PyData} {v : V} (h1 : Rp K (off H1 F.L0) v d) (h2 : t.it = .dat → Rp K (off H1 (F.L0 ++ owns g)) v d) : RsR K F g H H1 v (.v t.it d) := by
  rcases tg_it (t := t) with z | z
  · rw [z]
    exact h2 z
  · rw [z]
    exact h1
theorem atI_get {α : Type} {xs : List α} {i : Int} {y : α} (h : atI xs i = some y) : ∃ j, ixN xs.length i = some j ∧ xs[j]? = some y := by
  unfold atI at h
  cases e : ixN xs.length i with
  | none =>
    rw [e] at h
    cases h
  | some j =>
    rw [e] at h
    exact ⟨j, rfl, h⟩
def pIx : Rs → Rs → (Rs → Prop) → Prop := fun x y Q => match x, y with
  | .v t (.list ds), .v _ (.int i) => ∃ d, atI ds i = some d ∧ Q (.v t.it d)
  | .v t (.tuple ds), .v _ (.int i) => ∃ d, atI ds i = some d ∧ Q (.v t.it d)
  | _, _ => False
/-- a plain item of a table is data -/
def Tg.itD (t : Tg) (d : PyData) : Tg := match t with
  | .bor => cond (flatD d) .dat .bor
  | _ => .dat
theorem rsr_itD (I : Env K Ps F g σ H) (e : Sm H H1) {t : Tg} {d : PyData} {v : V} (h1 : Rp K (off H1 F.L0) v d) (h2 : t.it = .dat → Rp K (off H1 (F.L0 ++ owns g)) v d) : RsR K F g H H1 v (.v (t.itD d) d) := by
  have h := rsr_it (H := H) (t := t) h1 h2
  cases t with
  | bor =>
    show RsR K F g H H1 v (.v (cond (flatD d) .dat .bor) d)
    cases z : flatD d with
    | true => exact RsR.flat I e z h
    | false => exact h
  | _ => exact h
theorem lr_ixL : LR2 K Ps (rIxL K) fun x y Q => match x, y with
  | .v t (.list ds), .v _ (.int i) => ∃ d, atI ds i = some d ∧ Q (.v (t.itD d) d)
  | _, _ => False := by
  intro F g σ H H1 x y v u Q PQ I e rx ry h k
  split at h
  · next t ds _ i =>
    obtain ⟨d, hd, q⟩ := h
    cases ry.rp I e
    obtain ⟨p, vs, rfl, hp, h1, h2⟩ := rx.items I e
    obtain ⟨j, e1, e2⟩ := atI_get hd
    obtain ⟨v, g1, g2⟩ := h1.get e2
    refine ⟨p, vs, i, v, rfl, rfl, SqL.of hp, ?_, k _ _ _ (Sm.refl H1) (rsr_itD I e g2 fun z => ?_) q⟩
    · unfold atI
      rw [h1.length, e1]
      exact g1
    · obtain ⟨v2, g3, g4⟩ := (h2 z).get e2
      rw [g1] at g3
      cases g3
      exact g4
  · exact h.elim
theorem lr_ixT : LR2 K Ps (rIxT K) fun x y Q => match x, y with
  | .v t (.tuple ds), .v _ (.int i) => ∃ d, atI ds i = some d ∧ Q (.v t.it d)
  | _, _ => False := by
  intro F g σ H H1 x y v u Q PQ I e rx ry h k
  split at h
  · next t ds _ i =>
    obtain ⟨d, hd, q⟩ := h
    cases ry.rp I e
    obtain ⟨p, vs, rfl, hp, h1, h2⟩ := rx.itemsT I e
    obtain ⟨j, e1, e2⟩ := atI_get hd
    obtain ⟨v, g1, g2⟩ := h1.get e2
    refine ⟨p, vs, i, v, rfl, rfl, hp, ?_, k _ _ _ (Sm.refl H1) (rsr_it g2 fun z => ?_) q⟩
    · unfold atI
      rw [h1.length, e1]
      exact g1
    · obtain ⟨v2, g3, g4⟩ := (h2 z).get e2
      rw [g1] at g3
      cases g3
      exact g4
  · exact h.elim
end
end PV

namespace PV
open PySem PySem.Spec PyProof.Rows L2 Cm
open GX (Sm)
section
variable {K : PySem.W.Frag} {Ps : List Addr} {W : WX} {F : Fr} {g : Gm} {σ : L2.St} {H H1 H2 : Hp}
theorem new_in (I : Env K Ps F g σ H) {p : Addr} {o : HO} (e : Sm H H1) (hn : H1 p = none) : Sm H1 (upd H1 p o) ∧ NewTo H p ∧ p ∉ F.L0 ++ owns g ∧ ∀ L, Sm (off H1 L) (off (upd H1 p o) (p :: L)) :=
  ⟨sm_new (Sm.refl H1) hn, (NewTo.none hn).back e, fun z => ((hidden I z).mono e).ne (NewTo.none hn) rfl, fun L => sm_off (sm_new (Sm.refl H1) hn) fun a z => (List.mem_cons.mp z).elim (fun q => by subst q; exact .inr (NewTo.none hn)) .inl⟩
/-- a new list of items that are seen -/
theorem rs_fr (I : Env K Ps F g σ H) {p : Addr} {vs : List V} {ds : List PyData} (e : Sm H H1) (hn : H1 p = none) (h : RpAll K (off H1 (F.L0 ++ owns g)) vs ds) : RsR K F g H (upd H1 p (.lst vs)) (.ref p) (.v .fr (.list ds)) :=
  ⟨p, vs, ds, rfl, rfl, (new_in (o := .lst vs) I e hn).2.1, upd_same, h.mono ((new_in I e hn).2.2.2 _)⟩
theorem rs_bor (I : Env K Ps F g σ H) {p : Addr} {vs : List V} {ds : List PyData} (e : Sm H H1) (hn : H1 p = none) (h : RpAll K (off H1 F.L0) vs ds) : RsR K F g H (upd H1 p (.lst vs)) (.ref p) (.v .bor (.list ds)) := by
  obtain ⟨_, _, h3, h4⟩ := new_in (o := .lst vs) I e hn
  refine Rp.lst (by rw [off_ne fun z => h3 (List.mem_append_left _ z)]; exact upd_same) (h.mono ((h4 _).trans (sm_sub fun a z => .tail _ z)))
theorem rs_tup (I : Env K Ps F g σ H) {p : Addr} {vs : List V} {ds : List PyData} (e : Sm H H1) (hn : H1 p = none) (h : RpAll K (off H1 (F.L0 ++ owns g)) vs ds) : RsR K F g H (upd H1 p (.tup vs)) (.ref p) (.v .dat (.tuple ds)) := by
  obtain ⟨_, _, h3, h4⟩ := new_in (o := .tup vs) I e hn
  refine Rp.tup (SqT.of (by rw [off_ne h3]; exact upd_same)) (h.mono ((h4 _).trans (sm_sub fun a z => .tail _ z)))
theorem rs_tupB (I : Env K Ps F g σ H) {p : Addr} {vs : List V} {ds : List PyData} (e : Sm H H1) (hn : H1 p = none) (h : RpAll K (off H1 F.L0) vs ds) : RsR K F g H (upd H1 p (.tup vs)) (.ref p) (.v .bor (.tuple ds)) := by
  obtain ⟨_, _, h3, h4⟩ := new_in (o := .tup vs) I e hn
  refine Rp.tup (SqT.of (by rw [off_ne fun z => h3 (List.mem_append_left _ z)]; exact upd_same)) (h.mono ((h4 _).trans (sm_sub fun a z => .tail _ z)))
/-! ##### more operators -/
theorem lr_isN : LR2 K Ps (fun x y H Q => y = .non ∧ Q (.bl (decide (x = .non))) H) (pIsN fun b => b) := by
  intro F g σ H H1 x y v u Q PQ I e rx ry h k
  unfold pIsN at h
  split at h
  · next t d t2 =>
    have rv := rx.rp I e
    cases ry.rp I e
    refine ⟨rfl, k _ _ _ (Sm.refl H1) (rs_dat (.bl _)) ?_⟩
    cases rv <;> exact h
  · exact h.elim
theorem lr_notN : LR2 K Ps (fun x y H Q => y = .non ∧ Q (.bl (!decide (x = .non))) H) (pIsN fun b => !b) := by
  intro F g σ H H1 x y v u Q PQ I e rx ry h k
  unfold pIsN at h
  split at h
  · next t d t2 =>
    have rv := rx.rp I e
    cases ry.rp I e
    refine ⟨rfl, k _ _ _ (Sm.refl H1) (rs_dat (.bl _)) ?_⟩
    cases rv <;> exact h
  · exact h.elim
def pCat : Rs → Rs → (Rs → Prop) → Prop := fun x y Q => match x, y with
  | .v t (.list a), .v u (.list b) => a.length + b.length ≤ sizeLine ∧ Q (.v (if t.d && u.d then .fr else .bor) (.list (a ++ b)))
  | _, _ => False
theorem it_d {t : Tg} (h : t.d = true) : t.it = .dat := by cases t <;> first | rfl | cases h
theorem and1 {a b : Bool} (h : (a && b) = true) : a = true := (Bool.and_eq_true_iff.mp h).1
theorem and2 {a b : Bool} (h : (a && b) = true) : b = true := (Bool.and_eq_true_iff.mp h).2
theorem lr_cat : LR2 K Ps rCat pCat := by
  intro F g σ H H1 x y v u Q PQ I e rx ry h k
  unfold pCat at h
  split at h
  · next t a t2 b =>
    obtain ⟨p, vs, rfl, hp, h1, h2⟩ := rx.items I e
    obtain ⟨q, us, rfl, hq, h3, h4⟩ := ry.items I e
    refine ⟨p, q, vs, us, rfl, rfl, hp, hq, by rw [h1.length, h3.length]; exact h.1, fun r hr => ?_⟩
    have s := (new_in (o := .lst (vs ++ us)) I e hr).1
    refine k _ _ _ s ?_ h.2
    split
    · next z => exact rs_fr I e hr ((h2 (it_d (and1 z))).append (h4 (it_d (and2 z))))
    · exact rs_bor I e hr (h1.append h3)
  · exact h.elim
def pRep : Rs → Rs → (Rs → Prop) → Prop := fun x y Q => match x, y with
  | .v t (.list a), .v _ (.int n) => -(2 ^ 63) ≤ n ∧ n < 2 ^ 63 ∧ a.length * n.toNat ≤ sizeLine ∧ Q (.v (if t.d then .fr else .bor) (.list (List.replicate n.toNat a).flatten))
  | _, _ => False
theorem lr_rep : LR2 K Ps rRep pRep := by
  intro F g σ H H1 x y v u Q PQ I e rx ry h k
  unfold pRep at h
  split at h
  · next t a t2 n =>
    obtain ⟨p, vs, rfl, hp, h1, h2⟩ := rx.items I e
    cases ry.rp I e
    refine ⟨p, n, vs, rfl, rfl, hp, h.1, h.2.1, by rw [h1.length]; exact h.2.2.1, fun r hr => ?_⟩
    have s := (new_in (o := .lst (List.replicate n.toNat vs).flatten) I e hr).1
    refine k _ _ _ s ?_ h.2.2.2
    split
    · next z => exact rs_fr I e hr ((h2 (it_d z)).flatten _)
    · exact rs_bor I e hr (h1.flatten _)
  · exact h.elim
def pCatT : Rs → Rs → (Rs → Prop) → Prop := fun x y Q => match x, y with
  | .v t (.tuple a), .v u (.tuple b) => a.length + b.length ≤ sizeLine ∧ Q (.v (if t.d && u.d then .dat else .bor) (.tuple (a ++ b)))
  | _, _ => False
theorem RpAll.nil_iff {vs : List V} {ds : List PyData} (h : RpAll K H vs ds) : vs = [] ↔ ds = [] := by
  cases h <;> simp
theorem lr_catA : LR2 K Ps (rCatA K) pCatT := by
  intro F g σ H H1 x y v u Q PQ I e rx ry h k
  unfold pCatT at h
  split at h
  · next t a t2 b =>
    obtain ⟨p, vs, rfl, hp, h1, h2⟩ := rx.itemsT I e
    obtain ⟨q, us, rfl, hq, h3, h4⟩ := ry.itemsT I e
    refine ⟨p, q, vs, us, rfl, rfl, hp, hq, by rw [h1.length, h3.length]; exact h.1, fun z => ?_, fun _ z => ?_, fun _ _ r hr => ?_⟩
    · rw [h1.nil_iff.mp z] at h
      refine k _ _ _ (Sm.refl H1) ?_ h.2
      split
      · next z2 =>
        cases t2 with
        | bor => cases and2 z2
        | dat => exact ry
        | fr => obtain ⟨_, _, _, z, _⟩ := ry; cases z
        | own _ => obtain ⟨_, _, z, _⟩ := ry; cases z
        | ft => obtain ⟨_, _, _, z, _⟩ := ry; cases z
      · exact ry.bor I e
    · rw [h3.nil_iff.mp z] at h
      refine k _ _ _ (Sm.refl H1) ?_ h.2
      rw [List.append_nil]
      split
      · next z2 =>
        cases t with
        | bor => cases and1 z2
        | dat => exact rx
        | fr => obtain ⟨_, _, _, z, _⟩ := rx; cases z
        | own _ => obtain ⟨_, _, z, _⟩ := rx; cases z
        | ft => obtain ⟨_, _, _, z, _⟩ := rx; cases z
      · exact rx.bor I e
    · have s := (new_in (o := .tup (vs ++ us)) I e hr).1
      refine k _ _ _ s ?_ h.2
      split
      · next z => exact rs_tup I e hr ((h2 (it_d (and1 z))).append (h4 (it_d (and2 z))))
      · exact rs_tupB I e hr (h1.append h3)
  · exact h.elim
/-! in, not in, of plain items -/
def eqP : PyData → PyData → Bool
  | .none, .none => true
  | .bool a, .bool b => a == b
  | .bool a, .int b => (if a then 1 else 0) == b
  | .int a, .bool b => a == (if b then 1 else 0)
  | .int a, .int b => a == b
  | .str a, .str b => a == b
  | _, _ => false
def inP (x : PyData) (xs : List PyData) : Bool := xs.any fun y => eqP y x
theorem eqP_ok {d e : PyData} {v u : V} (f1 : flatD d = true) (f2 : flatD e = true) (r1 : Rp K H v d) (r2 : Rp K H1 u e) : eqV v u = eqP d e := by
  cases r1 <;> first
    | (cases f1; done)
    | (cases r2 <;> first | (cases f2; done) | rfl)
theorem flatV_of {d : PyData} {v : V} (f : flatD d = true) (r : Rp K H v d) : flatV v = true := by
  cases r <;> first | rfl | cases f
theorem inP_ok {d : PyData} {v : V} (f1 : flatD d = true) (r1 : Rp K H v d) : ∀ {vs : List V} {ds : List PyData}, ds.all flatD = true → RpAll K H1 vs ds → vs.all flatV = true ∧ inV v vs = inP d ds
  | _, _, _, .nil => ⟨rfl, rfl⟩
  | _, _, f, .cons h r => by
    rw [List.all_cons, Bool.and_eq_true] at f
    obtain ⟨a, b⟩ := inP_ok f1 r1 f.2 r
    have q := eqP_ok f.1 f1 h r1
    refine ⟨by rw [List.all_cons, flatV_of f.1 h, a]; rfl, ?_⟩
    unfold inV inP at b ⊢
    rw [List.any_cons, List.any_cons, b, q]
def pIn (neg : Bool) : Rs → Rs → (Rs → Prop) → Prop := fun x y Q => match x, y with
  | .v _ d, .v _ (.list ds) => flatD d = true ∧ ds.all flatD = true ∧ Q (.v .dat (.bool (if neg then !inP d ds else inP d ds)))
  | .v _ d, .v _ (.tuple ds) => flatD d = true ∧ ds.all flatD = true ∧ Q (.v .dat (.bool (if neg then !inP d ds else inP d ds)))
  | _, _ => False
theorem lr_in {neg : Bool} : LR2 K Ps (rIn K neg) (pIn neg) := by
  intro F g σ H H1 x y v u Q PQ I e rx ry h k
  unfold pIn at h
  split at h
  · next t d t2 ds =>
    obtain ⟨p, vs, rfl, hp, h1, h2⟩ := ry.items I e
    obtain ⟨a, b⟩ := inP_ok h.1 (rx.rp I e) h.2.1 h1
    refine ⟨p, vs, rfl, .inl (SqL.of hp), flatV_of h.1 (rx.rp I e), a, k _ _ _ (Sm.refl H1) (rs_dat (.bl _)) ?_⟩
    rw [b]
    exact h.2.2
  · next t d t2 ds =>
    obtain ⟨p, vs, rfl, hp, h1, h2⟩ := ry.itemsT I e
    obtain ⟨a, b⟩ := inP_ok h.1 (rx.rp I e) h.2.1 h1
    refine ⟨p, vs, rfl, .inr hp, flatV_of h.1 (rx.rp I e), a, k _ _ _ (Sm.refl H1) (rs_dat (.bl _)) ?_⟩
    rw [b]
    exact h.2.2
  · exact h.elim
/-! ##### arguments, displays, slices -/
def pNil : GA := fun _ _ Q => Q []
def pCons (pa : GE) (pr : GA) : GA := fun g PX Q => pa g PX fun x => pr g PX fun xs => Q (x :: xs)
theorem la_nil : LA K Ps W tNil pNil := fun F g σ H Q PX PQ I _ q k => k _ _ _ (Sm.refl H) .nil q
theorem la_cons {ta : TE} {tr : TA} {pa : GE} {pr : GA} (ha : LE K Ps W ta pa) (hr : LA K Ps W tr pr) : LA K Ps W (tCons ta tr) (pCons pa pr) := fun F g σ H Q PX PQ I w h k =>
  ha F g σ H _ PX _ I w h fun x v H1 e1 r1 h1 => hr F g σ H1 _ PX _ (I.step e1) (w.step e1) h1 fun xs vs H2 e2 r2 h2 => k _ _ _ (e1.trans e2) (.cons (r1.step e1 e2) (r2.back e1)) h2
/-- items of a list or a tuple as results -/
def Tg.items (t : Tg) (ds : List PyData) : List Rs := ds.map fun d => .v t.it d
def pStar (pa : GE) (pr : GA) : GA := fun g PX Q => pa g PX fun x => match x with
  | .v t (.list ds) => pr g PX fun xs => Q (t.items ds ++ xs)
  | .v t (.tuple ds) => pr g PX fun xs => Q (t.items ds ++ xs)
  | _ => False
theorem rsall_dat : ∀ {vs : List V} {ds : List PyData}, RpAll K (off H1 (F.L0 ++ owns g)) vs ds → RsAll K F g H H1 vs (ds.map fun d => .v .dat d)
  | _, _, .nil => .nil
  | _, _, .cons h r => .cons h (rsall_dat r)
theorem rsall_bor : ∀ {vs : List V} {ds : List PyData}, RpAll K (off H1 F.L0) vs ds → RsAll K F g H H1 vs (ds.map fun d => .v .bor d)
  | _, _, .nil => .nil
  | _, _, .cons h r => .cons h (rsall_bor r)
theorem rs_items {t : Tg} {vs : List V} {ds : List PyData} (h1 : RpAll K (off H1 F.L0) vs ds) (h2 : t.it = .dat → RpAll K (off H1 (F.L0 ++ owns g)) vs ds) : RsAll K F g H H1 vs (t.items ds) := by
  unfold Tg.items
  rcases tg_it (t := t) with z | z
  · rw [z]
    exact rsall_dat (h2 z)
  · rw [z]
    exact rsall_bor h1
theorem RsAll.append : ∀ {vs us : List V} {rs qs : List Rs}, RsAll K F g H H1 vs rs → RsAll K F g H H1 us qs → RsAll K F g H H1 (vs ++ us) (rs ++ qs)
  | _, _, _, _, .nil, s => s
  | _, _, _, _, .cons a r, s => .cons a (RsAll.append r s)
theorem la_star {ta : TE} {tr : TA} {pa : GE} {pr : GA} (ha : LE K Ps W ta pa) (hr : LA K Ps W tr pr) : LA K Ps W (StX.tStar K ta tr) (pStar pa pr) := fun F g σ H Q PX PQ I w h k =>
  ha F g σ H _ PX _ I w h fun x v H1 e1 r1 h1 => by
    split at h1
    · next t ds =>
      obtain ⟨p, vs, rfl, hp, a1, a2⟩ := r1.items I e1
      exact ⟨p, vs, rfl, .inr (SqL.of hp), hr F g σ H1 _ PX _ (I.step e1) (w.step e1) h1 fun xs us H2 e2 r2 h2 => k _ _ _ (e1.trans e2) (((rs_items a1 a2).step e1 e2).append (r2.back e1)) h2⟩
    · next t ds =>
      obtain ⟨p, vs, rfl, hp, a1, a2⟩ := r1.itemsT I e1
      exact ⟨p, vs, rfl, .inl hp, hr F g σ H1 _ PX _ (I.step e1) (w.step e1) h1 fun xs us H2 e2 r2 h2 => k _ _ _ (e1.trans e2) (((rs_items a1 a2).step e1 e2).append (r2.back e1)) h2⟩
    · exact h1.elim
/-- results that are data, all of them -/
def allD : List Rs → Option (List PyData)
  | [] => some []
  | .v _ d :: r => match allD r with
    | some ds => some (d :: ds)
    | none => none
  | .obj _ :: _ => none
def allS : List Rs → Bool
  | [] => true
  | .v t _ :: r => t.ok && allS r
  | .obj _ :: r => allS r
theorem allD_bor (I : Env K Ps F g σ H) (e : Sm H H1) : ∀ {rs : List Rs} {vs : List V} {ds : List PyData}, RsAll K F g H H1 vs rs → allD rs = some ds → RpAll K (off H1 F.L0) vs ds
  | [], _, _, .nil, h => by
    cases h
    exact .nil
  | .v t d :: r, _, _, .cons a b, h => by
    unfold allD at h
    split at h
    · next ds e2 =>
      cases h
      exact .cons (a.bor I e) (allD_bor I e b e2)
    · cases h
  | .obj _ :: _, _, _, _, h => by cases h
theorem allD_dat (I : Env K Ps F g σ H) (e : Sm H H1) : ∀ {rs : List Rs} {vs : List V} {ds : List PyData}, RsAll K F g H H1 vs rs → allD rs = some ds → allS rs = true → RpAll K (off H1 (F.L0 ++ owns g)) vs ds
  | [], _, _, .nil, h, _ => by
    cases h
    exact .nil
  | .v t d :: r, _, _, .cons a b, h, s => by
    have s' : (t.ok && allS r) = true := s
    unfold allD at h
    split at h
    · next ds e2 =>
      cases h
      exact .cons (a.dat I e (and1 s')) (allD_dat I e b e2 (and2 s'))
    · cases h
  | .obj _ :: _, _, _, _, h, _ => by cases h
def pTup (pa : GA) : GE := fun g PX Q => pa g PX fun rs => match allD rs with
  | some ds => ds.length ≤ sizeLine ∧ Q (.v (if allS rs then .dat else .bor) (.tuple ds))
  | none => False
theorem le_tup {ta : TA} {pa : GA} (ha : LA K Ps W ta pa) : LE K Ps W (tTup ta) (pTup pa) := fun F g σ H Q PX PQ I w h k =>
  ha F g σ H _ PX _ I w h fun rs vs H1 e1 r1 h1 => by
    split at h1
    · next ds ed =>
      have a1 := allD_bor I e1 r1 ed
      refine ⟨by rw [a1.length]; exact h1.1, fun p hp => k _ _ _ (e1.trans (new_in (o := .tup vs) I e1 hp).1) ?_ h1.2⟩
      split
      · next z => exact rs_tup I e1 hp (allD_dat I e1 r1 ed z)
      · exact rs_tupB I e1 hp a1
    · exact h1.elim
def pLst (pa : GA) : GE := fun g PX Q => pa g PX fun rs => match allD rs with
  | some ds => ds.length ≤ sizeLine ∧ Q (.v (if allS rs then .fr else .bor) (.list ds))
  | none => False
theorem le_lst {ta : TA} {pa : GA} (ha : LA K Ps W ta pa) : LE K Ps W (tLst ta) (pLst pa) := fun F g σ H Q PX PQ I w h k =>
  ha F g σ H _ PX _ I w h fun rs vs H1 e1 r1 h1 => by
    split at h1
    · next ds ed =>
      have a1 := allD_bor I e1 r1 ed
      refine ⟨by rw [a1.length]; exact h1.1, fun p hp => k _ _ _ (e1.trans (new_in (o := .lst vs) I e1 hp).1) ?_ h1.2⟩
      split
      · next z => exact rs_fr I e1 hp (allD_dat I e1 r1 ed z)
      · exact rs_bor I e1 hp a1
    · exact h1.elim
def pNoPart : GO := fun _ _ Q => Q none
def pPart (pa : GE) : GO := fun g PX Q => pa g PX fun x => match x with
  | .v _ (.int i) => Q (some i)
  | _ => False
theorem lo_none : LO K Ps W tNoPart pNoPart := fun F g σ H Q PX PQ I _ q k => k _ _ (Sm.refl H) q
theorem lo_some {ta : TE} {pa : GE} (ha : LE K Ps W ta pa) : LO K Ps W (tPart ta) (pPart pa) := fun F g σ H Q PX PQ I w h k =>
  ha F g σ H _ PX _ I w h fun x v H1 e1 r1 h1 => by
    split at h1
    · cases r1.rp I e1
      exact ⟨_, rfl, k _ _ e1 h1⟩
    · exact h1.elim
def cutD (xs : List PyData) (lo hi : Option Int) : List PyData := (xs.drop (HT.sIx xs.length 0 lo)).take (HT.sIx xs.length xs.length hi - HT.sIx xs.length 0 lo)
theorem RpAll.cut {vs : List V} {ds : List PyData} {lo hi : Option Int} (h : RpAll K H vs ds) : RpAll K H (cutV vs lo hi) (cutD ds lo hi) := by
  unfold cutV cutD
  rw [h.length]
  exact (h.drop _).take _
def pSlL (pa : GE) (lo hi : GO) : GE := fun g PX Q => pa g PX fun x => lo g PX fun l => hi g PX fun u => match x with
  | .v t (.list ds) => Q (.v (if t.d then .fr else .bor) (.list (cutD ds l u)))
  | _ => False
theorem le_slL {te : TE} {tl th : TO} {pa : GE} {lo hi : GO} (ha : LE K Ps W te pa) (hl : LO K Ps W tl lo) (hh : LO K Ps W th hi) : LE K Ps W (tSl (rSlL K) te tl th) (pSlL pa lo hi) := fun F g σ H Q PX PQ I w h k =>
  ha F g σ H _ PX _ I w h fun x v H1 e1 r1 h1 => hl F g σ H1 _ PX _ (I.step e1) (w.step e1) h1 fun l H2 e2 h2 => hh F g σ H2 _ PX _ (I.step (e1.trans e2)) (w.step (e1.trans e2)) h2 fun u H3 e3 h3 => by
    have e := (e1.trans e2).trans e3
    have r := r1.step e1 (e2.trans e3)
    split at h3
    · next t ds =>
      obtain ⟨p, vs, rfl, hp, a1, a2⟩ := r.items I e
      refine ⟨p, vs, rfl, SqL.of hp, fun q hq => k _ _ _ (e.trans (new_in (o := .lst (cutV vs l u)) I e hq).1) ?_ h3⟩
      split
      · next z => exact rs_fr I e hq (a2 (it_d z)).cut
      · exact rs_bor I e hq a1.cut
    · exact h3.elim
def pSlT (pa : GE) (lo hi : GO) : GE := fun g PX Q => pa g PX fun x => lo g PX fun l => hi g PX fun u => match x with
  | .v t (.tuple ds) => Q (.v t.it (.tuple (cutD ds l u)))
  | _ => False
theorem cutD_whole {xs : List PyData} {lo hi : Option Int} (h : HT.sIx xs.length 0 lo = 0 ∧ HT.sIx xs.length xs.length hi = xs.length) : cutD xs lo hi = xs := by
  unfold cutD
  rw [h.1, h.2, List.drop_zero, Nat.sub_zero, List.take_length]
theorem le_slT {te : TE} {tl th : TO} {pa : GE} {lo hi : GO} (ha : LE K Ps W te pa) (hl : LO K Ps W tl lo) (hh : LO K Ps W th hi) : LE K Ps W (tSl (rSlA K) te tl th) (pSlT pa lo hi) := fun F g σ H Q PX PQ I w h k =>
  ha F g σ H _ PX _ I w h fun x v H1 e1 r1 h1 => hl F g σ H1 _ PX _ (I.step e1) (w.step e1) h1 fun l H2 e2 h2 => hh F g σ H2 _ PX _ (I.step (e1.trans e2)) (w.step (e1.trans e2)) h2 fun u H3 e3 h3 => by
    have e := (e1.trans e2).trans e3
    have r := r1.step e1 (e2.trans e3)
    split at h3
    · next t ds =>
      obtain ⟨p, vs, rfl, hp, a1, a2⟩ := r.itemsT I e
      refine ⟨p, vs, rfl, hp, fun z => ?_, fun z q hq => k _ _ _ (e.trans (new_in (o := .tup (cutV vs l u)) I e hq).1) ?_ h3⟩
      · rw [a1.length] at z
        rw [cutD_whole z] at h3
        refine k _ _ _ e ?_ h3
        cases t with
        | fr => obtain ⟨_, _, _, z, _⟩ := r; cases z
        | own _ => obtain ⟨_, _, z, _⟩ := r; cases z
        | ft => obtain ⟨_, _, _, z, _⟩ := r; cases z
        | dat => exact r
        | bor => exact r
      · rcases tg_it (t := t) with z | z
        · rw [z]
          exact rs_tup I e hq (a2 z).cut
        · rw [z]
          exact rs_tupB I e hq a1.cut
    · exact h3.elim
end
end PV

namespace PV
open PySem PySem.Spec PyProof.Rows L2 Cm
open GX (Sm)
section
variable {K : PySem.W.Frag} {Ps : List Addr} {W : WX} {F : Fr} {g : Gm} {σ : L2.St} {H H1 H2 : Hp}
/-! ##### built-ins -/
def pCB (pr : List Rs → (Rs → Prop) → Prop) (pa : GA) : GE := fun g PX Q => pa g PX fun rs => pr rs Q
theorem le_cb {r : List V → Hp → VK → Prop} {pr : List Rs → (Rs → Prop) → Prop} {ta : TA} {pa : GA} (hr : LC K Ps r pr) (ha : LA K Ps W ta pa) : LE K Ps W (tCB r ta) (pCB pr pa) := fun F g σ H Q PX PQ I w h k =>
  ha F g σ H _ PX _ I w h fun rs vs H1 e1 r1 h1 => hr F g σ H H1 rs vs Q PQ I e1 r1 h1 fun r u H2 e2 r2 h2 => k r u H2 (e1.trans e2) r2 h2
theorem rs1 {x : Rs} {vs : List V} (h : RsAll K F g H H1 vs [x]) : ∃ v, vs = [v] ∧ RsR K F g H H1 v x := by
  cases h with
  | cons a r =>
    cases r
    exact ⟨_, rfl, a⟩
theorem rs2 {x y : Rs} {vs : List V} (h : RsAll K F g H H1 vs [x, y]) : ∃ v u, vs = [v, u] ∧ RsR K F g H H1 v x ∧ RsR K F g H H1 u y := by
  cases h with
  | cons a r =>
    obtain ⟨u, rfl, b⟩ := rs1 r
    exact ⟨_, u, rfl, a, b⟩
def pLen : List Rs → (Rs → Prop) → Prop := fun rs Q => match rs with
  | [.v _ (.list ds)] => Q (.v .dat (.int ds.length))
  | [.v _ (.tuple ds)] => Q (.v .dat (.int ds.length))
  | _ => False
theorem lc_len : LC K Ps (fun xs H Q => ∃ p ys, xs = [.ref p] ∧ (SqL K H p ys ∨ SqT K H p ys) ∧ Q (.int ys.length) H) pLen := by
  intro F g σ H H1 rs vs Q PQ I e r h k
  unfold pLen at h
  split at h
  · obtain ⟨v, rfl, a⟩ := rs1 r
    obtain ⟨p, vs, rfl, hp, h1, _⟩ := a.items I e
    refine ⟨p, vs, rfl, .inl (SqL.of hp), k _ _ _ (Sm.refl H1) (rs_dat (.int _)) ?_⟩
    rw [h1.length]
    exact h
  · obtain ⟨v, rfl, a⟩ := rs1 r
    obtain ⟨p, vs, rfl, hp, h1, _⟩ := a.itemsT I e
    refine ⟨p, vs, rfl, .inr hp, k _ _ _ (Sm.refl H1) (rs_dat (.int _)) ?_⟩
    rw [h1.length]
    exact h
  · exact h.elim
def pLenS : List Rs → (Rs → Prop) → Prop := fun rs Q => match rs with
  | [.v _ (.str z)] => z.length ≤ sizeLine ∧ Q (.v .dat (.int z.length))
  | _ => False
theorem lc_lenS : LC K Ps (fun xs H Q => ∃ z, xs = [.str z] ∧ z.length ≤ sizeLine ∧ Q (.int z.length) H) pLenS := by
  intro F g σ H H1 rs vs Q PQ I e r h k
  unfold pLenS at h
  split at h
  · obtain ⟨v, rfl, a⟩ := rs1 r
    cases a.rp I e
    exact ⟨_, rfl, h.1, k _ _ _ (Sm.refl H1) (rs_dat (.int _)) h.2⟩
  · exact h.elim
/-- one int in, a plain value out -/
def pI1 (C : Int → Prop) (f : Int → PyData) : List Rs → (Rs → Prop) → Prop := fun rs Q => match rs with
  | [.v _ (.int i)] => C i ∧ Q (.v .dat (f i))
  | _ => False
def pI10 (f : Int → PyData) : List Rs → (Rs → Prop) → Prop := fun rs Q => match rs with
  | [.v _ (.int i)] => Q (.v .dat (f i))
  | _ => False
theorem lc_I1 {C : Int → Prop} {f : Int → V} (hf : ∀ i, flatV (f i) = true := by intros; rfl) : LC K Ps (fun xs H Q => ∃ i, xs = [.int i] ∧ C i ∧ Q (f i) H) (pI1 C fun i => dV (f i)) := by
  intro F g σ H H1 rs vs Q PQ I e r h k
  unfold pI1 at h
  split at h
  · obtain ⟨v, rfl, a⟩ := rs1 r
    cases a.rp I e
    exact ⟨_, rfl, h.1, k _ _ _ (Sm.refl H1) (rs_dat (rp_dV (hf _))) h.2⟩
  · exact h.elim
theorem lc_I10 {f : Int → V} (hf : ∀ i, flatV (f i) = true := by intros; rfl) : LC K Ps (fun xs H Q => ∃ i, xs = [.int i] ∧ Q (f i) H) (pI10 fun i => dV (f i)) := by
  intro F g σ H H1 rs vs Q PQ I e r h k
  unfold pI10 at h
  split at h
  · obtain ⟨v, rfl, a⟩ := rs1 r
    cases a.rp I e
    exact ⟨_, rfl, k _ _ _ (Sm.refl H1) (rs_dat (rp_dV (hf _))) h⟩
  · exact h.elim
def pI2 (f : Int → Int → PyData) : List Rs → (Rs → Prop) → Prop := fun rs Q => match rs with
  | [.v _ (.int i), .v _ (.int j)] => Q (.v .dat (f i j))
  | _ => False
theorem lc_I2 {f : Int → Int → V} (hf : ∀ i j, flatV (f i j) = true := by intros; rfl) : LC K Ps (fun xs H Q => ∃ i j, xs = [.int i, .int j] ∧ Q (f i j) H) (pI2 fun i j => dV (f i j)) := by
  intro F g σ H H1 rs vs Q PQ I e r h k
  unfold pI2 at h
  split at h
  · obtain ⟨v, u, rfl, a, b⟩ := rs2 r
    cases a.rp I e
    cases b.rp I e
    exact ⟨_, _, rfl, k _ _ _ (Sm.refl H1) (rs_dat (rp_dV (hf _ _))) h⟩
  · exact h.elim
def pInt1 : List Rs → (Rs → Prop) → Prop := fun rs Q => match rs with
  | [.v _ (.int i)] => Q (.v .dat (.int i))
  | [.v _ (.bool b)] => Q (.v .dat (.int (if b then 1 else 0)))
  | _ => False
theorem lc_int1 : LC K Ps (fun xs H Q => (∃ i, xs = [.int i] ∧ Q (.int i) H) ∨ ∃ k, xs = [.bl k] ∧ Q (.int (if k then 1 else 0)) H) pInt1 := by
  intro F g σ H H1 rs vs Q PQ I e r h k
  unfold pInt1 at h
  split at h
  · obtain ⟨v, rfl, a⟩ := rs1 r
    cases a.rp I e
    exact .inl ⟨_, rfl, k _ _ _ (Sm.refl H1) (rs_dat (.int _)) h⟩
  · obtain ⟨v, rfl, a⟩ := rs1 r
    cases a.rp I e
    exact .inr ⟨_, rfl, k _ _ _ (Sm.refl H1) (rs_dat (.int _)) h⟩
  · exact h.elim
def pBool1 : List Rs → (Rs → Prop) → Prop := fun rs Q => match rs with
  | [.v _ (.int i)] => Q (.v .dat (.bool (i != 0)))
  | [.v _ (.bool b)] => Q (.v .dat (.bool b))
  | _ => False
theorem lc_bool1 : LC K Ps (fun xs H Q => (∃ i, xs = [.int i] ∧ Q (.bl (i != 0)) H) ∨ ∃ k, xs = [.bl k] ∧ Q (.bl k) H) pBool1 := by
  intro F g σ H H1 rs vs Q PQ I e r h k
  unfold pBool1 at h
  split at h
  · obtain ⟨v, rfl, a⟩ := rs1 r
    cases a.rp I e
    exact .inl ⟨_, rfl, k _ _ _ (Sm.refl H1) (rs_dat (.bl _)) h⟩
  · obtain ⟨v, rfl, a⟩ := rs1 r
    cases a.rp I e
    exact .inr ⟨_, rfl, k _ _ _ (Sm.refl H1) (rs_dat (.bl _)) h⟩
  · exact h.elim
def pS1 (C : Str → Prop) (f : Str → PyData) : List Rs → (Rs → Prop) → Prop := fun rs Q => match rs with
  | [.v _ (.str z)] => C z ∧ Q (.v .dat (f z))
  | _ => False
theorem lc_S1 {C : Str → Prop} {f : Str → V} (hf : ∀ i, flatV (f i) = true := by intros; rfl) : LC K Ps (fun xs H Q => ∃ z, xs = [.str z] ∧ C z ∧ Q (f z) H) (pS1 C fun i => dV (f i)) := by
  intro F g σ H H1 rs vs Q PQ I e r h k
  unfold pS1 at h
  split at h
  · obtain ⟨v, rfl, a⟩ := rs1 r
    cases a.rp I e
    exact ⟨_, rfl, h.1, k _ _ _ (Sm.refl H1) (rs_dat (rp_dV (hf _))) h.2⟩
  · exact h.elim
def pListOf : List Rs → (Rs → Prop) → Prop := fun rs Q => match rs with
  | [.v t (.list ds)] => Q (.v (if t.d then .fr else .bor) (.list ds))
  | [.v t (.tuple ds)] => Q (.v (if t.d then .fr else .bor) (.list ds))
  | _ => False
theorem lc_list : LC K Ps (fun xs H Q => ∃ p ys, xs = [.ref p] ∧ (SqL K H p ys ∨ SqT K H p ys) ∧ ∀ l, H l = none → Q (.ref l) (upd H l (.lst ys))) pListOf := by
  intro F g σ H H1 rs vs Q PQ I e r h k
  unfold pListOf at h
  split at h
  · obtain ⟨v, rfl, a⟩ := rs1 r
    obtain ⟨p, vs, rfl, hp, h1, h2⟩ := a.items I e
    refine ⟨p, vs, rfl, .inl (SqL.of hp), fun l hl => k _ _ _ (new_in (o := .lst vs) I e hl).1 ?_ h⟩
    split
    · next z => exact rs_fr I e hl (h2 (it_d z))
    · exact rs_bor I e hl h1
  · obtain ⟨v, rfl, a⟩ := rs1 r
    obtain ⟨p, vs, rfl, hp, h1, h2⟩ := a.itemsT I e
    refine ⟨p, vs, rfl, .inr hp, fun l hl => k _ _ _ (new_in (o := .lst vs) I e hl).1 ?_ h⟩
    split
    · next z => exact rs_fr I e hl (h2 (it_d z))
    · exact rs_bor I e hl h1
  · exact h.elim
theorem same_tup {t : Tg} {ds : List PyData} {v : V} (h : RsR K F g H H1 v (.v t (.tuple ds))) : RsR K F g H H1 v (.v t.it (.tuple ds)) := by
  cases t with
  | fr => obtain ⟨_, _, _, z, _⟩ := h; cases z
  | own _ => obtain ⟨_, _, z, _⟩ := h; cases z
  | ft => obtain ⟨_, _, _, z, _⟩ := h; cases z
  | dat => exact h
  | bor => exact h
def pTupOf : List Rs → (Rs → Prop) → Prop := fun rs Q => match rs with
  | [.v t (.list ds)] => Q (.v t.it (.tuple ds))
  | [.v t (.tuple ds)] => Q (.v t.it (.tuple ds))
  | _ => False
theorem lc_tuple : LC K Ps (fun xs H Q => ∃ p ys, xs = [.ref p] ∧ ((SqL K H p ys ∧ ∀ l, H l = none → Q (.ref l) (upd H l (.tup ys))) ∨ (SqT K H p ys ∧ Q (.ref p) H))) pTupOf := by
  intro F g σ H H1 rs vs Q PQ I e r h k
  unfold pTupOf at h
  split at h
  · next t ds =>
    obtain ⟨v, rfl, a⟩ := rs1 r
    obtain ⟨p, vs, rfl, hp, h1, h2⟩ := a.items I e
    refine ⟨p, vs, rfl, .inl ⟨SqL.of hp, fun l hl => k _ _ _ (new_in (o := .tup vs) I e hl).1 ?_ h⟩⟩
    rcases tg_it (t := t) with z | z
    · rw [z]
      exact rs_tup I e hl (h2 z)
    · rw [z]
      exact rs_tupB I e hl h1
  · obtain ⟨v, rfl, a⟩ := rs1 r
    obtain ⟨p, vs, rfl, hp, h1, h2⟩ := a.itemsT I e
    exact ⟨p, vs, rfl, .inr ⟨hp, k _ _ _ (Sm.refl H1) (same_tup a) h⟩⟩
  · exact h.elim
theorem lc_tupleT : LC K Ps (fun xs H Q => ∃ a ys, xs = [.ref a] ∧ SqT K H a ys ∧ Q (.ref a) H) fun rs Q => match rs with
  | [.v t (.tuple ds)] => Q (.v t.it (.tuple ds))
  | _ => False := by
  intro F g σ H H1 rs vs Q PQ I e r h k
  split at h
  · obtain ⟨v, rfl, a⟩ := rs1 r
    obtain ⟨p, vs, rfl, hp, h1, h2⟩ := a.itemsT I e
    exact ⟨p, vs, rfl, hp, k _ _ _ (Sm.refl H1) (same_tup a) h⟩
  · exact h.elim
/-- a list of ints in -/
def pNs (P : List Int → (Rs → Prop) → Prop) : List Rs → (Rs → Prop) → Prop := fun rs Q => ∃ t ns, rs = [.v t (.list (ns.map .int))] ∧ P ns Q
theorem ns_of (I : Env K Ps F g σ H) {t : Tg} {ns : List Int} {vs : List V} (e : Sm H H1) (r : RsAll K F g H H1 vs [.v t (.list (ns.map .int))]) : ∃ p, vs = [.ref p] ∧ H1 p = some (.lst (ns.map V.int)) := by
  obtain ⟨v, rfl, a⟩ := rs1 r
  obtain ⟨p, us, rfl, hp, h1, _⟩ := a.items I e
  rw [h1.flat_ints] at hp
  exact ⟨p, rfl, hp⟩
theorem lc_sum : LC K Ps (rSum K) (pNs fun ns Q => Q (.v .dat (.int ns.sum))) := by
  intro F g σ H H1 rs vs Q PQ I e r h k
  obtain ⟨t, ns, rfl, h⟩ := h
  obtain ⟨p, rfl, hp⟩ := ns_of I e r
  exact ⟨p, ns, rfl, SqL.of hp, k _ _ _ (Sm.refl H1) (rs_dat (.int _)) h⟩
theorem lc_max : LC K Ps (rMax K) (pNs fun ns Q => 0 < ns.length ∧ ∀ m, m ∈ ns → (∀ y, y ∈ ns → y ≤ m) → Q (.v .dat (.int m))) := by
  intro F g σ H H1 rs vs Q PQ I e r h k
  obtain ⟨t, ns, rfl, h, h2⟩ := h
  obtain ⟨p, rfl, hp⟩ := ns_of I e r
  exact ⟨p, ns, rfl, SqL.of hp, h, fun m hm hy => k _ _ _ (Sm.refl H1) (rs_dat (.int _)) (h2 m hm hy)⟩
theorem lc_min : LC K Ps (rMin K) (pNs fun ns Q => 0 < ns.length ∧ ∀ m, m ∈ ns → (∀ y, y ∈ ns → m ≤ y) → Q (.v .dat (.int m))) := by
  intro F g σ H H1 rs vs Q PQ I e r h k
  obtain ⟨t, ns, rfl, h, h2⟩ := h
  obtain ⟨p, rfl, hp⟩ := ns_of I e r
  exact ⟨p, ns, rfl, SqL.of hp, h, fun m hm hy => k _ _ _ (Sm.refl H1) (rs_dat (.int _)) (h2 m hm hy)⟩
/-! isinstance(e, a built-in class) -/
def tyD : PyData → String
  | .none => "NoneType"
  | .bool _ => "bool"
  | .int _ => "int"
  | .str _ => "str"
  | .list _ => "list"
  | .tuple _ => "tuple"
  | .dict _ => "dict"
theorem ty_of {v : V} {d : PyData} (h : Rp K H v d) : TyX K H v (.type (tyD d)) := by
  cases h with
  | non => exact .base .non
  | bl b => exact .base (.bl b)
  | int i => exact .base (.int i)
  | str x => exact .base (.str x)
  | lst h _ => exact tyx_list (SqL.of h)
  | tup h _ => exact tyx_tuple h
def isiQ (o : Option Bool) (Q : Rs → Prop) : Prop := match o with
  | some b => Q (.v .dat (.bool b))
  | none => False
def pIsi (n : String) (pa : GE) : GE := fun g PX Q => pa g PX fun x => match x with
  | .v _ d => isiQ (kitB (tyD d) n) Q
  | .obj _ => False
theorem le_isi {n : String} {te : TE} {pa : GE} (ha : LE K Ps W te pa) : LE K Ps W (tCB (rIsi K) (tCons te (tCons (tC (.ty n)) tNil))) (pIsi n pa) := fun F g σ H Q PX PQ I w h k =>
  ha F g σ H _ PX _ I w h fun x v H1 e1 r1 h1 => by
    split at h1
    · next t d =>
      unfold isiQ at h1
      split at h1
      · next b hb => exact ⟨v, _, _, _, b, rfl, .ty n, ty_of (r1.rp I e1), kit_ty hb, k _ _ _ e1 (rs_dat (.bl _)) h1⟩
      · exact h1.elim
    · exact h1.elim
/-! ##### and, or, not, if; tests -/
def bD : Rs → (Bool → Prop) → Prop := fun x Q => match x with
  | .v _ (.bool b) => Q b
  | _ => False
theorem bD_of (I : Env K Ps F g σ H) {x : Rs} {v : V} {P : Bool → Prop} (e : Sm H H1) (r : RsR K F g H H1 v x) (h : bD x P) : ∃ b, v = .bl b ∧ P b := by
  unfold bD at h
  split at h
  · cases r.rp I e
    exact ⟨_, rfl, h⟩
  · exact h.elim
def pAndV (pa pb : GE) : GE := fun g PX Q => pa g PX fun x => bD x fun c => (c = true → pb g PX Q) ∧ (c = false → Q (.v .dat (.bool false)))
theorem le_and {ta tb : TE} {pa pb : GE} (ha : LE K Ps W ta pa) (hb : LE K Ps W tb pb) : LE K Ps W (tAndV ta tb) (pAndV pa pb) := fun F g σ H Q PX PQ I w h k =>
  ha F g σ H _ PX _ I w h fun x v H1 e1 r1 h1 => by
    obtain ⟨c, rfl, q1, q2⟩ := bD_of I e1 r1 h1
    refine ⟨c, rfl, ?_⟩
    cases c with
    | true => exact iteT (hb F g σ H1 Q PX PQ (I.step e1) (w.step e1) (q1 rfl) fun r u H2 e2 r2 h2 => k r u H2 (e1.trans e2) (r2.back e1) h2)
    | false => exact iteF (k _ _ _ e1 (rs_dat (.bl _)) (q2 rfl))
def pOrV (pa pb : GE) : GE := fun g PX Q => pa g PX fun x => bD x fun c => (c = true → Q (.v .dat (.bool true))) ∧ (c = false → pb g PX Q)
theorem le_or {ta tb : TE} {pa pb : GE} (ha : LE K Ps W ta pa) (hb : LE K Ps W tb pb) : LE K Ps W (tOrV ta tb) (pOrV pa pb) := fun F g σ H Q PX PQ I w h k =>
  ha F g σ H _ PX _ I w h fun x v H1 e1 r1 h1 => by
    obtain ⟨c, rfl, q1, q2⟩ := bD_of I e1 r1 h1
    refine ⟨c, rfl, ?_⟩
    cases c with
    | true => exact iteT (k _ _ _ e1 (rs_dat (.bl _)) (q1 rfl))
    | false => exact iteF (hb F g σ H1 Q PX PQ (I.step e1) (w.step e1) (q2 rfl) fun r u H2 e2 r2 h2 => k r u H2 (e1.trans e2) (r2.back e1) h2)
def pNotV (pa : GE) : GE := fun g PX Q => pa g PX fun x => bD x fun c => Q (.v .dat (.bool (!c)))
theorem le_not {ta : TE} {pa : GE} (ha : LE K Ps W ta pa) : LE K Ps W (tNotV ta) (pNotV pa) := fun F g σ H Q PX PQ I w h k =>
  ha F g σ H _ PX _ I w h fun x v H1 e1 r1 h1 => by
    obtain ⟨c, rfl, q⟩ := bD_of I e1 r1 h1
    exact ⟨c, rfl, k _ _ _ e1 (rs_dat (.bl _)) q⟩
def pIfE (pt : GT) (pa pb : GE) : GE := fun g PX Q => pt g PX fun c => (c = true → pa g PX Q) ∧ (c = false → pb g PX Q)
theorem le_if {tt : TT} {ta tb : TE} {pt : GT} {pa pb : GE} (ht : LT K Ps W tt pt) (ha : LE K Ps W ta pa) (hb : LE K Ps W tb pb) : LE K Ps W (tIf tt ta tb) (pIfE pt pa pb) := fun F g σ H Q PX PQ I w h k =>
  ht F g σ H _ PX _ I w h fun c H1 e1 h1 => by
    cases c with
    | true => exact iteT (ha F g σ H1 Q PX PQ (I.step e1) (w.step e1) (h1.1 rfl) fun r u H2 e2 r2 h2 => k r u H2 (e1.trans e2) (r2.back e1) h2)
    | false => exact iteF (hb F g σ H1 Q PX PQ (I.step e1) (w.step e1) (h1.2 rfl) fun r u H2 e2 r2 h2 => k r u H2 (e1.trans e2) (r2.back e1) h2)
def pT (pa : GE) : GT := fun g PX Q => pa g PX fun x => bD x Q
theorem lt_test {ta : TE} {pa : GE} (ha : LE K Ps W ta pa) : LT K Ps W (tTest ta) (pT pa) := fun F g σ H Q PX PQ I w h k =>
  ha F g σ H _ PX _ I w h fun x v H1 e1 r1 h1 => by
    obtain ⟨c, rfl, q⟩ := bD_of I e1 r1 h1
    exact ⟨c, rfl, k _ _ e1 q⟩
theorem lt_B {ta : TE} {pa : GE} (ha : LE K Ps W ta pa) : LT K Ps W (tB ta) (pT pa) := fun F g σ H Q PX PQ I w h k =>
  ha F g σ H _ PX _ I w h fun x v H1 e1 r1 h1 => by
    obtain ⟨c, rfl, q⟩ := bD_of I e1 r1 h1
    exact ⟨c, rfl, k _ _ e1 q⟩
def pAnd (pa pb : GT) : GT := fun g PX Q => pa g PX fun c => (c = true → pb g PX Q) ∧ (c = false → Q false)
theorem lt_and {ta tb : TT} {pa pb : GT} (ha : LT K Ps W ta pa) (hb : LT K Ps W tb pb) : LT K Ps W (tAnd ta tb) (pAnd pa pb) := fun F g σ H Q PX PQ I w h k =>
  ha F g σ H _ PX _ I w h fun c H1 e1 h1 => by
    cases c with
    | true => exact iteT (hb F g σ H1 Q PX PQ (I.step e1) (w.step e1) (h1.1 rfl) fun b H2 e2 h2 => k b H2 (e1.trans e2) h2)
    | false => exact iteF (k _ _ e1 (h1.2 rfl))
def pOr (pa pb : GT) : GT := fun g PX Q => pa g PX fun c => (c = true → Q true) ∧ (c = false → pb g PX Q)
theorem lt_or {ta tb : TT} {pa pb : GT} (ha : LT K Ps W ta pa) (hb : LT K Ps W tb pb) : LT K Ps W (tOr ta tb) (pOr pa pb) := fun F g σ H Q PX PQ I w h k =>
  ha F g σ H _ PX _ I w h fun c H1 e1 h1 => by
    cases c with
    | true => exact iteT (k _ _ e1 (h1.1 rfl))
    | false => exact iteF (hb F g σ H1 Q PX PQ (I.step e1) (w.step e1) (h1.2 rfl) fun b H2 e2 h2 => k b H2 (e1.trans e2) h2)
def pNot (pa : GT) : GT := fun g PX Q => pa g PX fun c => Q (!c)
theorem lt_not {ta : TT} {pa : GT} (ha : LT K Ps W ta pa) : LT K Ps W (tNot ta) (pNot pa) := fun F g σ H Q PX PQ I w h k => ha F g σ H _ PX _ I w h fun c H1 e1 h1 => k _ _ e1 h1
/-- the truth of data -/
def truD : PyData → (Bool → Prop) → Prop := fun d Q => match d with
  | .none => Q false
  | .bool b => Q b
  | .int i => Q (i != 0)
  | .str z => z.length ≤ sizeLine ∧ Q ((z.length : Int) != 0)
  | .list ds => Q (!ds.isEmpty)
  | .tuple ds => Q (!ds.isEmpty)
  | .dict _ => False
theorem RpAll.empty {vs : List V} {ds : List PyData} (h : RpAll K H vs ds) : vs.isEmpty = ds.isEmpty := by cases h <;> rfl
theorem tru_of {v : V} {d : PyData} {P : Bool → Prop} (r : Rp K H v d) (h : truD d P) : ∃ k, TruV K v H k ∧ P k := by
  cases r with
  | non => exact ⟨false, rfl, h⟩
  | bl b => exact ⟨b, rfl, h⟩
  | int i => exact ⟨_, rfl, h⟩
  | str z => exact ⟨_, ⟨h.1, rfl⟩, h.2⟩
  | lst hp ha => exact ⟨_, .inl ⟨_, SqL.of hp, rfl⟩, by rw [ha.empty]; exact h⟩
  | tup hp ha => exact ⟨_, .inr (.inl ⟨_, hp, rfl⟩), by rw [ha.empty]; exact h⟩
def pTru (pa : GE) : GT := fun g PX Q => pa g PX fun x => match x with
  | .v _ d => truD d Q
  | .obj _ => False
theorem lt_truth {ta : TE} {pa : GE} (ha : LE K Ps W ta pa) : LT K Ps W (fun σ H Q => ta σ H fun x H' => ∃ k, TruV K x H' k ∧ Q k H') (pTru pa) := fun F g σ H Q PX PQ I w h k =>
  ha F g σ H _ PX _ I w h fun x v H1 e1 r1 h1 => by
    split at h1
    · obtain ⟨c, h2, q⟩ := tru_of (r1.rp I e1) h1
      exact ⟨c, h2, k _ _ e1 q⟩
    · exact h1.elim
def pNotT (pa : GE) : GE := fun g PX Q => pa g PX fun x => match x with
  | .v _ d => truD d fun b => Q (.v .dat (.bool (!b)))
  | .obj _ => False
theorem le_notT {ta : TE} {pa : GE} (ha : LE K Ps W ta pa) : LE K Ps W (tNotT K ta) (pNotT pa) := fun F g σ H Q PX PQ I w h k =>
  ha F g σ H _ PX _ I w h fun x v H1 e1 r1 h1 => by
    split at h1
    · obtain ⟨c, h2, q⟩ := tru_of (r1.rp I e1) h1
      exact ⟨c, h2, k _ _ _ e1 (rs_dat (.bl _)) q⟩
    · exact h1.elim
def pChain (pr pr' : Rs → Rs → (Rs → Prop) → Prop) (pa pb pc : GE) : GE := fun g PX Q => pa g PX fun x => pb g PX fun y => pr x y fun z => bD z fun k => (k = true → pc g PX fun w => pr' y w Q) ∧ (k = false → Q (.v .dat (.bool false)))
theorem le_chain {r r' : R2} {pr pr' : Rs → Rs → (Rs → Prop) → Prop} {ta tb tc : TE} {pa pb pc : GE} (hr : LR2 K Ps r pr) (hr' : LR2 K Ps r' pr') (ha : LE K Ps W ta pa) (hb : LE K Ps W tb pb) (hc : LE K Ps W tc pc) : LE K Ps W (tChain r r' ta tb tc) (pChain pr pr' pa pb pc) := fun F g σ H Q PX PQ I w h k =>
  ha F g σ H _ PX _ I w h fun x v H1 e1 r1 h1 => hb F g σ H1 _ PX _ (I.step e1) (w.step e1) h1 fun y u H2 e2 r2 h2 => hr F g σ H H2 x y v u _ _ I (e1.trans e2) (r1.step e1 e2) (r2.back e1) h2 fun z t H3 e3 r3 h3 => by
    have e12 := e1.trans e2
    have e123 := e12.trans e3
    obtain ⟨c, rfl, q1, q2⟩ := bD_of I e123 r3 h3
    refine ⟨c, rfl, ?_⟩
    cases c with
    | true => exact iteT (hc F g σ H3 _ PX _ (I.step e123) (w.step e123) (q1 rfl) fun s t H4 e4 r4 h4 => hr' F g σ H H4 y s u t Q PQ I (e123.trans e4) ((r2.back e1).step e12 (e3.trans e4)) (r4.back e123) h4 fun r5 u5 H5 e5 r5' h5 => k _ _ _ ((e123.trans e4).trans e5) r5' h5)
    | false => exact iteF (k _ _ _ e123 (rs_dat (.bl _)) (q2 rfl))
def pThree (p1 p2 p3 : Rs → Rs → (Rs → Prop) → Prop) (pa pb pc pd : GE) : GE := fun g PX Q => pa g PX fun x => pb g PX fun y => p1 x y fun z => bD z fun k =>
  (k = true → pc g PX fun w => p2 y w fun z2 => bD z2 fun k2 => (k2 = true → pd g PX fun u => p3 w u Q) ∧ (k2 = false → Q (.v .dat (.bool false)))) ∧ (k = false → Q (.v .dat (.bool false)))
theorem le_three {r1 r2 r3 : R2} {p1 p2 p3 : Rs → Rs → (Rs → Prop) → Prop} {ta tb tc td : TE} {pa pb pc pd : GE} (l1 : LR2 K Ps r1 p1) (l2 : LR2 K Ps r2 p2) (l3 : LR2 K Ps r3 p3) (ha : LE K Ps W ta pa) (hb : LE K Ps W tb pb) (hc : LE K Ps W tc pc) (hd : LE K Ps W td pd) :
    LE K Ps W (CH3.tThree r1 r2 r3 ta tb tc td) (pThree p1 p2 p3 pa pb pc pd) := fun F g σ H Q PX PQ I w h k =>
  ha F g σ H _ PX _ I w h fun x v H1 e1 q1 h1 => hb F g σ H1 _ PX _ (I.step e1) (w.step e1) h1 fun y u H2 e2 q2 h2 => l1 F g σ H H2 x y v u _ _ I (e1.trans e2) (q1.step e1 e2) (q2.back e1) h2 fun z t H3 e3 q3 h3 => by
    have e12 := e1.trans e2
    have e123 := e12.trans e3
    obtain ⟨c, rfl, a1, a2⟩ := bD_of I e123 q3 h3
    refine ⟨c, rfl, ?_⟩
    cases c with
    | false => exact iteF (k _ _ _ e123 (rs_dat (.bl _)) (a2 rfl))
    | true =>
      refine iteT (hc F g σ H3 _ PX _ (I.step e123) (w.step e123) (a1 rfl) fun s t H4 e4 r4 h4 => l2 F g σ H H4 y s u t _ _ I (e123.trans e4) ((q2.back e1).step e12 (e3.trans e4)) (r4.back e123) h4 fun z5 u5 H5 e5 r5 h5 => ?_)
      have e15 := (e123.trans e4).trans e5
      obtain ⟨c, rfl, b1, b2⟩ := bD_of I e15 r5 h5
      refine ⟨c, rfl, ?_⟩
      cases c with
      | false => exact iteF (k _ _ _ e15 (rs_dat (.bl _)) (b2 rfl))
      | true => exact iteT (hd F g σ H5 _ PX _ (I.step e15) (w.step e15) (b1 rfl) fun s6 t6 H6 e6 r6 h6 => l3 F g σ H H6 s s6 t t6 Q PQ I (e15.trans e6) ((r4.back e123).step (e123.trans e4) (e5.trans e6)) (r6.back e15) h6 fun r7 u7 H7 e7 r7' h7 => k _ _ _ ((e15.trans e6).trans e7) r7' h7)
/-! ##### calls -/
abbrev PSp := List Rs → (Er → Prop) → (Rs → Prop) → Prop
inductive ArgsR (K : PySem.W.Frag) (V0 : Hp) : List V → List Rs → Prop
  | nil : ArgsR K V0 [] []
  | dat {v d vs rs} : Rp K V0 v d → ArgsR K V0 vs rs → ArgsR K V0 (v :: vs) (.v .dat d :: rs)
  | obj {v vs rs} {A : Asr} : A.a v V0 → ArgsR K V0 vs rs → ArgsR K V0 (v :: vs) (.obj A :: rs)
/-- a def's promise in terms of values -/
def SpOk (K : PySem.W.Frag) (Ps : List Addr) (sp : Sp) (psp : PSp) : Prop := ∀ vs H Q E L0 as PX PQ, (∀ q ∈ L0, Hid H q) → ArgsR K (off H L0) vs as → (∀ P ∈ Ps, GxR.TabG H P) → psp as PX PQ →
  (∀ r v H2, Sm H H2 → RsR K ⟨H, L0⟩ [] H H2 v r → PQ r → Q v H2) → (∀ e cls d H2, Sm H H2 → ErR K L0 H2 e cls d → PX e → E cls d H2) → sp vs H Q E
def spP (K : PySem.W.Frag) (Ps : List Addr) (psp : PSp) : Sp := fun vs H Q E => ∃ L0 as PX PQ, (∀ q ∈ L0, Hid H q) ∧ ArgsR K (off H L0) vs as ∧ (∀ P ∈ Ps, GxR.TabG H P) ∧ psp as PX PQ ∧
  (∀ r v H2, Sm H H2 → RsR K ⟨H, L0⟩ [] H H2 v r → PQ r → Q v H2) ∧ (∀ e cls d H2, Sm H H2 → ErR K L0 H2 e cls d → PX e → E cls d H2)
theorem spok {psp : PSp} : SpOk K Ps (spP K Ps psp) psp := fun _ _ _ _ L0 as PX PQ h1 h2 h3 h4 h5 h6 => ⟨L0, as, PX, PQ, h1, h2, h3, h4, h5, h6⟩
def Rs.arg : Rs → Rs
  | .v _ d => .v .dat d
  | .obj A => .obj A
/-- what comes back where a list of one's own was lent -/
def lend (b : Bool) (r : Rs) (Q : Rs → Prop) : Prop := match b, r with
  | true, r => Q r
  | false, .v .fr (.list xs) => Q (.v (if xs.all flatD then .fr else .bor) (.list xs))
  | false, .v _ d => Q (.v (if flatD d then .dat else .bor) d)
  | false, .obj _ => False
def pCall (psp : PSp) (pa : GA) : GE := fun g PX Q => pa g PX fun rs => psp (rs.map Rs.arg) PX fun r => lend (allS rs) r Q
def pCall0 (psp : PSp) (pa : GA) : GE := fun g PX Q => pa g PX fun rs => psp (rs.map Rs.arg) (fun _ => False) fun r => lend (allS rs) r Q
theorem args_ok (I : Env K Ps F g σ H) (e : Sm H H1) {rs : List Rs} {vs : List V} (h : RsAll K F g H H1 vs rs) (s : allS rs = true) : ArgsR K (off H1 (F.L0 ++ owns g)) vs (rs.map Rs.arg) := by
  induction h with
  | nil => exact .nil
  | @cons v r vs rs a _ ih =>
    cases r with
    | obj A => exact .obj a (ih s)
    | v t d =>
      have s' : (t.ok && allS rs) = true := s
      exact .dat (a.dat I e (and1 s')) (ih (and2 s'))
theorem args_bor (I : Env K Ps F g σ H) (e : Sm H H1) {rs : List Rs} {vs : List V} (h : RsAll K F g H H1 vs rs) : ArgsR K (off H1 F.L0) vs (rs.map Rs.arg) := by
  induction h with
  | nil => exact .nil
  | @cons v r vs rs a _ ih =>
    cases r with
    | obj A => exact .obj (A.mono _ _ _ (sm_sub fun a z => List.mem_append_left _ z) a) ih
    | v t d => exact .dat (a.bor I e) ih
theorem ErR.sub {L L' : List Addr} {e : Er} {cls : Value} {d : Option Addr} (h : ErR K L H e cls d) (s : ∀ a, a ∈ L' → a ∈ L) : ErR K L' H e cls d := by
  refine ⟨h.1, ?_⟩
  have h2 := h.2
  cases q : e.fs with
  | none =>
    rw [q] at h2
    exact h2
  | some fs =>
    rw [q] at h2
    obtain ⟨a, us, rfl, ha, hp⟩ := h2
    obtain ⟨n, ha⟩ := off_some ha
    refine ⟨a, us, rfl, ?_, L2.Paired.mapP hp fun u f z => ⟨z.1, z.2.mono (sm_sub s)⟩⟩
    rw [off_ne fun z => n (s a z)]
    exact ha
theorem RsR.up (I : Env K Ps F g σ H) (e : Sm H H1) {r : Rs} {v : V} (h : RsR K ⟨H1, F.L0 ++ owns g⟩ [] H1 H2 v r) : RsR K F g H H2 v r := by
  have q : F.L0 ++ owns g ++ owns [] = F.L0 ++ owns g := List.append_nil _
  cases r with
  | obj A =>
    have h : A.a v (off H2 (F.L0 ++ owns g ++ owns [])) := h
    rw [q] at h
    exact h
  | v t d =>
    cases t with
    | dat =>
      have h : Rp K (off H2 (F.L0 ++ owns g ++ owns [])) v d := h
      rw [q] at h
      exact h
    | bor => exact Rp.mono (sm_sub fun a z => List.mem_append_left _ z) h
    | own p =>
      obtain ⟨vs, xs, _, _, z, _⟩ := h
      cases z
    | fr =>
      obtain ⟨p, vs, xs, rfl, rfl, hn, hp, ha⟩ := h
      have ha : RpAll K (off H2 (p :: (F.L0 ++ owns g ++ owns []))) vs xs := ha
      rw [q] at ha
      exact ⟨p, vs, xs, rfl, rfl, hn.back e, hp, ha⟩
    | ft =>
      obtain ⟨p, rs, rows, rfl, rfl, hn, hr, nd, hp, ht⟩ := h
      have ht : TabR K H2 (off H2 (p :: rs ++ (F.L0 ++ owns g ++ owns []))) rs rows := ht
      rw [q] at ht
      exact ⟨p, rs, rows, rfl, rfl, hn.back e, fun r hr2 => (hr r hr2).back e, nd, hp, ht⟩
theorem lend_ok (I : Env K Ps F g σ H) (e : Sm H H1) {r : Rs} {v : V} {Q : Rs → Prop} (h : RsR K ⟨H1, F.L0⟩ [] H1 H2 v r) (q : lend false r Q) : ∃ r', RsR K F g H H2 v r' ∧ Q r' := by
  have z0 : F.L0 ++ owns [] = F.L0 := List.append_nil _
  have flat : ∀ {d}, Rp K (off H2 F.L0) v d → Q (.v (if flatD d then .dat else .bor) d) → ∃ r', RsR K F g H H2 v r' ∧ Q r' := fun {d} hr q => by
    split at q
    · next f => exact ⟨.v .dat d, hr.flat f, q⟩
    · exact ⟨.v .bor d, hr, q⟩
  cases r with
  | obj A => exact q.elim
  | v t d =>
    cases t with
    | dat =>
      have h : Rp K (off H2 (F.L0 ++ owns [])) v d := h
      rw [z0] at h
      exact flat h q
    | bor => exact flat h q
    | own p =>
      obtain ⟨vs, xs, _, _, z, _⟩ := h
      cases z
    | fr =>
      obtain ⟨p, vs, xs, rfl, rfl, hn, hp, ha⟩ := h
      have ha : RpAll K (off H2 (p :: (F.L0 ++ owns []))) vs xs := ha
      rw [z0] at ha
      have q : Q (.v (if xs.all flatD then .fr else .bor) (.list xs)) := q
      split at q
      · next f => exact ⟨.v .fr (.list xs), ⟨p, vs, xs, rfl, rfl, hn.back e, hp, ha.flat f⟩, q⟩
      · refine ⟨.v .bor (.list xs), Rp.lst ?_ (ha.mono (sm_sub fun a z => .tail _ z)), q⟩
        rw [off_ne fun z => (((I.hd p z).mono e).ne hn) rfl]
        exact hp
    | ft =>
      refine flat ?_ q
      obtain ⟨p, rs, rows, rfl, rfl, hn, hr, nd, hp, ht⟩ := h
      refine Rp.lst ?_ (ht.rp (sm_sub fun a z => List.mem_append_right _ (List.mem_append_left _ z)) fun r hr2 z => (((I.hd r z).mono e).ne (hr r hr2)) rfl)
      rw [off_ne fun z => (((I.hd p z).mono e).ne hn) rfl]
      exact hp
/-- a call's reading, by what becomes of its errors -/
theorem call_of {sp : Sp} {psp : PSp} (ok : SpOk K Ps sp psp) (I : Env K Ps F g σ H) (e : Sm H H1) {rs : List Rs} {vs : List V} {Q : VK} {E : XK} {PX : Er → Prop} {PQ : Rs → Prop} (r : RsAll K F g H H1 vs rs) (h : psp (rs.map Rs.arg) PX fun r => lend (allS rs) r PQ)
    (k : ∀ r v H2, Sm H H2 → RsR K F g H H2 v r → PQ r → Q v H2) (x : ∀ e cls d H2, Sm H H2 → ErR K F.L0 H2 e cls d → PX e → E cls d H2) : sp vs H1 Q E := by
  have I1 := I.step e
  by_cases s : allS rs = true
  · refine ok vs H1 Q E (F.L0 ++ owns g) _ PX _ (fun q z => hidden I1 z) (args_ok I e r s) I1.tb h (fun r v H2 s2 r2 q => ?_) fun er cls d H2 s2 h2 p => x er cls d H2 (e.trans s2) (h2.sub fun a z => List.mem_append_left _ z) p
    rw [s] at q
    exact k _ _ _ (e.trans s2) (r2.up I e) q
  · have s' : allS rs = false := by simpa using s
    refine ok vs H1 Q E F.L0 _ PX _ I1.hd (args_bor I e r) I1.tb h (fun r v H2 s2 r2 q => ?_) fun er cls d H2 s2 h2 p => x er cls d H2 (e.trans s2) h2 p
    rw [s'] at q
    obtain ⟨r', h1, h2⟩ := lend_ok I e r2 q
    exact k _ _ _ (e.trans s2) h1 h2
theorem le_call0 {sp : Sp} {psp : PSp} {E : XK} {ta : TA} {pa : GA} (ok : SpOk K Ps sp psp) (ha : LA K Ps W ta pa) : LE K Ps W (tCall sp [] E ta) (pCall0 psp pa) := fun F g σ H Q PX PQ I w h k =>
  ha F g σ H _ PX _ I w h fun rs vs H1 e1 r1 h1 => by
    rw [List.append_nil]
    exact call_of ok I e1 r1 h1 k fun _ _ _ _ _ _ z => z.elim
theorem le_callX {sp : Sp} {psp : PSp} {E : XK} {ta : TA} {pa : GA} (ok : SpOk K Ps sp psp) (ha : LA K Ps (fun cls d _ H => E cls d H) ta pa) : LE K Ps (fun cls d _ H => E cls d H) (tCall sp [] E ta) (pCall psp pa) := fun F g σ H Q PX PQ I w h k =>
  ha F g σ H _ PX _ I w h fun rs vs H1 e1 r1 h1 => by
    rw [List.append_nil]
    exact call_of ok I e1 r1 h1 k w
theorem le_callT {sp : Sp} {psp : PSp} {ta : TA} {pa : GA} (ok : SpOk K Ps sp psp) (ha : LA K Ps W ta pa) : LE K Ps W (tCallS sp (fun σ cls d H => W cls d σ H) ta) (pCall psp pa) := fun F g σ H Q PX PQ I w h k =>
  ha F g σ H _ PX _ I w h fun rs vs H1 e1 r1 h1 => call_of ok I e1 r1 h1 k w
end
end PV

namespace PV
open PySem PySem.Spec PyProof.Rows L2 Cm
open GX (Sm)
section
variable {K : PySem.W.Frag} {Ps : List Addr} {W : WX} {F : Fr} {g : Gm} {σ : L2.St} {H H1 H2 : Hp}
/-! ##### what is walked -/
theorem wok_at {V0 : Hp} {J : It} {n : Nat} {G : Hp → Prop} {Y : Nat → Hp → V → Hp → Prop} {items : List PyData} (w : Walk J n G Y) (hn : n = items.length) (hG : ∀ H L, Sm V0 (off H L) → G H)
    (hy : ∀ i H L x H', i < n → Sm V0 (off H L) → (∀ q ∈ L, Hid H q) → Y i H x H' → Sm H H' ∧ ∃ d, items[i]? = some d ∧ Rp K (off H' L) x d) : WOk K V0 J items := by
  subst hn
  exact ⟨fun i H L hi e => w.goes i H hi (hG H L e), fun H L e => w.stops H (hG H L e), fun i H L x H' hi e q y => hy i H L x H' hi e q (w.yields i H x H' hi (hG H L e) y)⟩
def pIt (pa : GE) : GI := fun g PX Q => pa g PX fun x => match x with
  | .v t (.list ds) => t.ok = true ∧ Q ds
  | _ => False
theorem li_list {te : TE} {pa : GE} (ha : LE K Ps W te pa) : LI K Ps W (iList K te) (pIt pa) := fun F g σ H R PX PQ I w h k =>
  ha F g σ H _ PX _ I w h fun x v H1 e1 r1 h1 => by
    split at h1
    · next t ds =>
      have q := r1.dat I e1 h1.1
      cases q with
      | @lst a vs _ hp hr =>
        refine ⟨a, rfl, ⟨vs, SqL.of (off_some hp).2⟩, k _ _ _ e1 ?_ h1.2⟩
        refine wok_at (walk_list (K := K) (a := a) (xs := vs)) hr.length (fun H L e => SqL.of (off_some (e.l hp)).2) fun i H L x H' hi e _ y => ?_
        obtain ⟨rfl, hx⟩ := y
        obtain ⟨d, h1, h2⟩ := hr.getV hx
        exact ⟨Sm.refl _, d, h1, h2.mono e⟩
    · exact h1.elim
def pItT (pa : GE) : GI := fun g PX Q => pa g PX fun x => match x with
  | .v t (.tuple ds) => t.ok = true ∧ Q ds
  | _ => False
theorem li_tup {te : TE} {pa : GE} (ha : LE K Ps W te pa) : LI K Ps W (iTup K te) (pItT pa) := fun F g σ H R PX PQ I w h k =>
  ha F g σ H _ PX _ I w h fun x v H1 e1 r1 h1 => by
    split at h1
    · next t ds =>
      have q := r1.dat I e1 h1.1
      cases q with
      | @tup a vs _ hp hr =>
        refine ⟨a, rfl, ⟨vs, sm_hide.tup hp⟩, k _ _ _ e1 ?_ h1.2⟩
        refine wok_at (walk_tup (K := K) (a := a) (xs := vs)) hr.length (fun H L e => sm_hide.tup (e.tup hp)) fun i H L x H' hi e _ y => ?_
        obtain ⟨rfl, hx⟩ := y
        obtain ⟨d, h1, h2⟩ := hr.getV hx
        exact ⟨Sm.refl _, d, h1, h2.mono e⟩
    · exact h1.elim
/-- lo, lo + 1, .. as data -/
def rgD (lo : Int) (n : Nat) : List PyData := (List.range n).map fun (i : Nat) => .int (lo + (i : Int))
theorem rgD_get {lo : Int} {n i : Nat} (h : i < n) : (rgD lo n)[i]? = some (.int (lo + (i : Int))) := by
  unfold rgD
  rw [List.getElem?_map, List.getElem?_range h]
  rfl
theorem wok_rg {V0 : Hp} {lo : Int} {n : Nat} : WOk K V0 (Itr lo n) (rgD lo n) := by
  refine wok_at walk_range (by simp [rgD]) (fun _ _ _ => trivial) fun i H L x H' hi _ _ y => ?_
  obtain ⟨rfl, rfl⟩ := y
  exact ⟨Sm.refl _, _, rgD_get hi, .int _⟩
def pRg1 (pa : GA) : GI := fun g PX Q => pa g PX fun rs => match rs with
  | [.v _ (.int j)] => -(2 ^ 62) ≤ j ∧ j < 2 ^ 62 ∧ Q (rgD 0 j.toNat)
  | _ => False
theorem li_rg1 {ta : TA} {pa : GA} (ha : LA K Ps W ta pa) : LI K Ps W (iRng1 ta) (pRg1 pa) := fun F g σ H R PX PQ I w h k =>
  ha F g σ H _ PX _ I w h fun rs vs H1 e1 r1 h1 => by
    split at h1
    · obtain ⟨v, rfl, a⟩ := rs1 r1
      cases a.rp I e1
      exact ⟨_, rfl, h1.1, h1.2.1, k _ _ _ e1 wok_rg h1.2.2⟩
    · exact h1.elim
def pRg2 (pa : GA) : GI := fun g PX Q => pa g PX fun rs => match rs with
  | [.v _ (.int i), .v _ (.int j)] => (-(2 ^ 62) ≤ i ∧ i < 2 ^ 62 ∧ -(2 ^ 62) ≤ j ∧ j < 2 ^ 62) ∧ Q (rgD i (j - i).toNat)
  | _ => False
theorem li_rg2 {ta : TA} {pa : GA} (ha : LA K Ps W ta pa) : LI K Ps W (iRng2 ta) (pRg2 pa) := fun F g σ H R PX PQ I w h k =>
  ha F g σ H _ PX _ I w h fun rs vs H1 e1 r1 h1 => by
    split at h1
    · obtain ⟨v, u, rfl, a, b⟩ := rs2 r1
      cases a.rp I e1
      cases b.rp I e1
      exact ⟨_, _, rfl, h1.1, k _ _ _ e1 wok_rg h1.2⟩
    · exact h1.elim
/-- lo, lo + c, .. as data -/
def rgC (lo c : Int) (n : Nat) : List PyData := (List.range n).map fun (i : Nat) => .int (lo + (i : Int) * c)
theorem rgC_get {lo c : Int} {n i : Nat} (h : i < n) : (rgC lo c n)[i]? = some (.int (lo + (i : Int) * c)) := by
  unfold rgC
  rw [List.getElem?_map, List.getElem?_range h]
  rfl
def pRg3 (pa : GA) : GI := fun g PX Q => pa g PX fun rs => match rs with
  | [.v _ (.int i), .v _ (.int j), .v _ (.int c)] => ∃ n, RgC i j c n ∧ Q (rgC i c n)
  | _ => False
theorem li_rg3 {ta : TA} {pa : GA} (ha : LA K Ps W ta pa) : LI K Ps W (iRng3 ta) (pRg3 pa) := fun F g σ H R PX PQ I w h k =>
  ha F g σ H _ PX _ I w h fun rs vs H1 e1 r1 h1 => by
    split at h1
    · obtain ⟨n, hn, q⟩ := h1
      cases r1 with
      | cons a r1 =>
        obtain ⟨u, v, rfl, b, c⟩ := rs2 r1
        cases a.rp I e1
        cases b.rp I e1
        cases c.rp I e1
        refine ⟨_, _, _, n, rfl, hn, k _ _ _ e1 ?_ q⟩
        refine wok_at walk_rangeC (by simp [rgC]) (fun _ _ _ => trivial) fun i H L x H' hi _ _ y => ?_
        obtain ⟨rfl, rfl⟩ := y
        exact ⟨Sm.refl _, _, rgC_get hi, .int _⟩
    · exact h1.elim
/-- a new pair, seen -/
theorem rp_pair {T : Addr} {x y : V} {d e : PyData} {L : List Addr} (hT : H T = none) (hL : ∀ q ∈ L, Hid H q) (h1 : Rp K (off H L) x d) (h2 : Rp K (off H L) y e) : Sm H (upd H T (.tup [x, y])) ∧ Rp K (off (upd H T (.tup [x, y])) L) (.ref T) (.tuple [d, e]) := by
  have s := sm_new (o := .tup [x, y]) (Sm.refl H) hT
  have s2 : Sm (off H L) (off (upd H T (.tup [x, y])) L) := sm_off s fun _ z => .inl z
  refine ⟨s, .tup (SqT.of ?_) (.cons (h1.mono s2) (.cons (h2.mono s2) .nil))⟩
  rw [off_ne fun z => (hL T z).ne (NewTo.none hT) rfl]
  exact upd_same
def enD (ds : List PyData) : List PyData := (List.range ds.length).zipWith (fun (i : Nat) d => .tuple [.int (i : Int), d]) ds
theorem enD_get {ds : List PyData} {i : Nat} {d : PyData} (h : ds[i]? = some d) : (enD ds)[i]? = some (.tuple [.int (i : Int), d]) := by
  have hi : i < ds.length := by
    by_cases z : i < ds.length
    · exact z
    · rw [List.getElem?_eq_none (Nat.le_of_not_lt z)] at h
      cases h
  unfold enD
  rw [List.getElem?_zipWith, List.getElem?_range hi, h]
def pEnum (pa : GA) : GI := fun g PX Q => pa g PX fun rs => match rs with
  | [.v t (.list ds)] => t.ok = true ∧ Q (enD ds)
  | _ => False
theorem li_enum {ta : TA} {pa : GA} (ha : LA K Ps W ta pa) : LI K Ps W (iEnum K ta) (pEnum pa) := fun F g σ H R PX PQ I w h k =>
  ha F g σ H _ PX _ I w h fun rs vs H1 e1 r1 h1 => by
    split at h1
    · next t ds =>
      obtain ⟨v, rfl, ra⟩ := rs1 r1
      have q := ra.dat I e1 h1.1
      cases q with
      | @lst a vs _ hp hr =>
        refine ⟨a, vs, rfl, SqL.of (off_some hp).2, k _ _ _ e1 ?_ h1.2⟩
        refine wok_at (walk_enum (K := K) (a := a) (xs := vs)) (by rw [hr.length]; simp [enD]) (fun H L e => SqL.of (off_some (e.l hp)).2) fun i H L x H' hi e hL y => ?_
        obtain ⟨T, x, z, rfl, hT, rfl, h1, h2⟩ := y
        cases h1
        obtain ⟨d, h3, h4⟩ := hr.getV h2
        obtain ⟨s, q⟩ := rp_pair hT hL (Rp.int (i : Int)) (h4.mono e)
        exact ⟨s, _, enD_get h3, q⟩
    · exact h1.elim
def zipD (xs ys : List PyData) : List PyData := xs.zipWith (fun x y => .tuple [x, y]) ys
def pZip (pa : GA) : GI := fun g PX Q => pa g PX fun rs => match rs with
  | [.v t (.list ds), .v u (.list es)] => t.ok = true ∧ u.ok = true ∧ Q (zipD ds es)
  | _ => False
theorem li_zip {ta : TA} {pa : GA} (ha : LA K Ps W ta pa) : LI K Ps W (iZip K ta) (pZip pa) := fun F g σ H R PX PQ I w h k =>
  ha F g σ H _ PX _ I w h fun rs vs H1 e1 r1 h1 => by
    split at h1
    · next t ds u es =>
      obtain ⟨v, u, rfl, ra, rb⟩ := rs2 r1
      have q := ra.dat I e1 h1.1
      have q2 := rb.dat I e1 h1.2.1
      cases q with
      | @lst a vs _ hp hr =>
        cases q2 with
        | @lst b us _ hp2 hr2 =>
          refine ⟨a, b, vs, us, rfl, SqL.of (off_some hp).2, SqL.of (off_some hp2).2, k _ _ _ e1 ?_ h1.2.2⟩
          refine wok_at (walk_zip (K := K) (a := a) (b := b) (xs := vs) (ys := us) rfl) (by rw [hr.length, hr2.length]; simp [zipD]) (fun H L e => ⟨SqL.of (off_some (e.l hp)).2, SqL.of (off_some (e.l hp2)).2⟩) fun i H L x H' hi e hL y => ?_
          obtain ⟨T, x, z, rfl, hT, rfl, h1, h2⟩ := y
          obtain ⟨d, h3, h4⟩ := hr.getV h1
          obtain ⟨d2, h5, h6⟩ := hr2.getV h2
          obtain ⟨s, q⟩ := rp_pair hT hL (h4.mono e) (h6.mono e)
          exact ⟨s, _, by unfold zipD; rw [List.getElem?_zipWith, h3, h5], q⟩
    · exact h1.elim
def pRev (pa : GA) : GI := fun g PX Q => pa g PX fun rs => match rs with
  | [.v t (.list ds)] => t.ok = true ∧ Q ds.reverse
  | _ => False
theorem li_rev {ta : TA} {pa : GA} (ha : LA K Ps W ta pa) : LI K Ps W (iRev K ta) (pRev pa) := fun F g σ H R PX PQ I w h k =>
  ha F g σ H _ PX _ I w h fun rs vs H1 e1 r1 h1 => by
    split at h1
    · next t ds =>
      obtain ⟨v, rfl, ra⟩ := rs1 r1
      have q := ra.dat I e1 h1.1
      cases q with
      | @lst a vs _ hp hr =>
        refine ⟨a, vs, rfl, SqL.of (off_some hp).2, k _ _ _ e1 ?_ h1.2⟩
        refine wok_at (walk_rev (K := K) (a := a) (xs := vs)) (by rw [List.length_reverse, hr.length]) (fun H L e => SqL.of (off_some (e.l hp)).2) fun i H L x H' hi e _ y => ?_
        obtain ⟨rfl, hx⟩ := y
        obtain ⟨d, h1, h2⟩ := hr.getV hx
        refine ⟨Sm.refl _, d, ?_, h2.mono e⟩
        rw [List.getElem?_reverse (by rw [← hr.length]; exact hi), ← hr.length]
        exact h1
    · exact h1.elim
def chD (z : Str) : List PyData := z.cps.toList.map fun c => .str ⟨#[c]⟩
def pStr (pa : GE) : GI := fun g PX Q => pa g PX fun x => match x with
  | .v _ (.str z) => Q (chD z)
  | _ => False
theorem li_str {te : TE} {pa : GE} (ha : LE K Ps W te pa) : LI K Ps W (iStr te) (pStr pa) := fun F g σ H R PX PQ I w h k =>
  ha F g σ H _ PX _ I w h fun x v H1 e1 r1 h1 => by
    split at h1
    · next t z =>
      cases r1.rp I e1
      refine ⟨z, rfl, k _ _ _ e1 ?_ h1⟩
      refine wok_at walk_str (by simp [chD]) (fun _ _ _ => trivial) fun i H L x H' hi _ _ y => ?_
      obtain ⟨rfl, c, hc, rfl⟩ := y
      refine ⟨Sm.refl _, _, ?_, .str _⟩
      unfold chD
      rw [List.getElem?_map, Array.getElem?_toList, hc]
      rfl
    · exact h1.elim
/-! ##### targets -/
def setR (own : Bool) (i : Nat) (r : Rs) (g : Gm) (Q : Gm → Prop) : Prop := match r with
  | .v .dat d => Q (g.set i (some (.dat d)))
  | .v .fr (.list xs) => (own = true → ∀ p, Q (g.set i (some (.own p xs)))) ∧ (own = false → Q (g.set i (some (.dat (.list xs)))))
  | .v .fr _ => False
  | .v .ft (.list ds) => (own = true → ∀ p rs rows, ds = rows.map PyData.list → Q (g.set i (some (.tab p rs rows)))) ∧ (own = false → Q (g.set i (some (.dat (.list ds)))))
  | .v .ft _ => False
  | .v (.own _) d => Q ((shr g).set i (some (.dat d)))
  | .v .bor d => Q ((shr g).set i (some (.dat d)))
  | .obj A => Q (g.set i (some (.obj A)))
theorem set_ok (I : Env K Ps F g σ H) (e : Sm H H1) {r : Rs} {v : V} {i : Nat} {b : Bool} {Q : Gm → Prop} (h : RsR K F g H H1 v r) (q : setR b i r g Q) : ∃ g', Env K Ps F g' (σ.set i (some v)) H1 ∧ Q g' := by
  have I1 := I.step e
  cases r with
  | obj A => exact ⟨_, I1.set_obj h, q⟩
  | v t d =>
    cases t with
    | dat => exact ⟨_, I1.set_dat h, q⟩
    | bor =>
      have I2 := I1.share
      have h2 : Rp K (off H1 (F.L0 ++ owns (shr g))) v d := by
        rw [owns_shr, List.append_nil]
        exact h
      exact ⟨_, I2.set_dat h2, q⟩
    | own p =>
      have h2 := h.bor I e
      rw [← List.append_nil F.L0, ← owns_shr (g := g)] at h2
      exact ⟨_, I1.share.set_dat h2, q⟩
    | fr =>
      have hd := h.dat I e rfl
      obtain ⟨p, vs, xs, rfl, rfl, hn, hp, ha⟩ := h
      cases b with
      | true => exact ⟨_, I.set_own e hn hp ha, q.1 rfl p⟩
      | false => exact ⟨_, I1.set_dat hd, q.2 rfl⟩
    | ft =>
      have hd := h.dat I e rfl
      obtain ⟨p, rs, rows, rfl, rfl, hn, hr, nd, hp, ht⟩ := h
      cases b with
      | true => exact ⟨_, I.set_tab e hn hr nd hp ht, q.1 rfl p rs rows rfl⟩
      | false => exact ⟨_, I1.set_dat hd, q.2 rfl⟩
def pName (b : Bool) (i : Nat) : GG := fun r g _ Q => setR b i r g Q
def LG' (K : PySem.W.Frag) (Ps : List Addr) (tg : TG) (pg : GG) (vs : List Nat) : Prop := ∀ F g σ H H1 v r Q PX PQ, Env K Ps F g σ H → Sm H H1 → RsR K F g H H1 v r → pg r g PX PQ →
  (∀ g' σ', Env K Ps F g' σ' H1 → (∀ j, j ∉ vs → σ'[j]? = σ[j]?) → σ'.length = σ.length → PQ g' → Q σ' H1) → tg v σ H1 Q
theorem lg_name {b : Bool} {i : Nat} : LG' K Ps (gName i) (pName b i) [i] := fun F g σ H H1 v r Q PX PQ I e hr h k => by
  obtain ⟨g', J, q⟩ := set_ok I e hr h
  exact k g' _ J (fun j hj => List.getElem?_set_ne fun z => hj (by subst z; exact .head _)) (by simp) q
/-! targets of data: names, tuples of targets -/
mutual
inductive Tgt where
  | name (i : Nat)
  | tup (ts : Tgts)
inductive Tgts where
  | nil
  | cons (t : Tgt) (ts : Tgts)
end
def Tgts.length : Tgts → Nat
  | .nil => 0
  | .cons _ ts => ts.length + 1
mutual
def tgT (K : PySem.W.Frag) : Tgt → TG
  | .name i => gName i
  | .tup ts => gTup K ts.length (tgsT K ts)
def tgsT (K : PySem.W.Frag) : Tgts → TGs
  | .nil => gNil
  | .cons t ts => gCons (tgT K t) (tgsT K ts)
end
mutual
def pTgt : Tgt → PyData → Gm → (Gm → Prop) → Prop
  | .name i, d, g, Q => Q (g.set i (some (.dat d)))
  | .tup ts, .tuple ds, g, Q => pTgts ts ds g Q
  | .tup _, _, _, _ => False
def pTgts : Tgts → List PyData → Gm → (Gm → Prop) → Prop
  | .nil, [], g, Q => Q g
  | .cons t ts, d :: ds, g, Q => pTgt t d g fun g' => pTgts ts ds g' Q
  | _, _, _, _ => False
end
mutual
def tgV : Tgt → List Nat
  | .name i => [i]
  | .tup ts => tgsV ts
def tgsV : Tgts → List Nat
  | .nil => []
  | .cons t ts => tgV t ++ tgsV ts
end
mutual
theorem tgt_ok : ∀ (t : Tgt) {F : Fr} {g : Gm} {σ : L2.St} {H : Hp} {v : V} {d : PyData} {Q : L2.St → Hp → Prop} {PQ : Gm → Prop}, Env K Ps F g σ H → Rp K (off H (F.L0 ++ owns g)) v d → pTgt t d g PQ →
    (∀ g' σ', Env K Ps F g' σ' H → Sm (off H (F.L0 ++ owns g)) (off H (F.L0 ++ owns g')) → (∀ j, j ∉ tgV t → σ'[j]? = σ[j]?) → σ'.length = σ.length → PQ g' → Q σ' H) → tgT K t v σ H Q
  | .name i, F, g, σ, H, v, d, Q, PQ, I, hr, h, k => by
    unfold tgT
    unfold pTgt at h
    refine k _ _ (I.set_dat hr) (vis_set rfl) (fun j hj => List.getElem?_set_ne fun z => hj ?_) (by simp) h
    subst z
    unfold tgV
    exact .head _
  | .tup ts, F, g, σ, H, v, d, Q, PQ, I, hr, h, k => by
    unfold tgT
    cases hr with
    | tup hp ha =>
      unfold pTgt at h
      have hl := tgts_len ts h
      refine ⟨_, _, rfl, sm_hide.tup hp, by rw [ha.length]; exact hl, ?_⟩
      refine tgts_ok ts I ha h fun g' σ' J e hj hn q => k g' σ' J e (fun j z => hj j fun z2 => z ?_) hn q
      unfold tgV
      exact z2
    | non => unfold pTgt at h; exact h.elim
    | bl _ => unfold pTgt at h; exact h.elim
    | int _ => unfold pTgt at h; exact h.elim
    | str _ => unfold pTgt at h; exact h.elim
    | lst _ _ => unfold pTgt at h; exact h.elim
theorem tgts_ok : ∀ (ts : Tgts) {F : Fr} {g : Gm} {σ : L2.St} {H : Hp} {vs : List V} {ds : List PyData} {Q : L2.St → Hp → Prop} {PQ : Gm → Prop}, Env K Ps F g σ H → RpAll K (off H (F.L0 ++ owns g)) vs ds → pTgts ts ds g PQ →
    (∀ g' σ', Env K Ps F g' σ' H → Sm (off H (F.L0 ++ owns g)) (off H (F.L0 ++ owns g')) → (∀ j, j ∉ tgsV ts → σ'[j]? = σ[j]?) → σ'.length = σ.length → PQ g' → Q σ' H) → tgsT K ts vs σ H Q
  | .nil, F, g, σ, H, vs, ds, Q, PQ, I, hr, h, k => by
    unfold tgsT
    cases hr with
    | nil =>
      unfold pTgts at h
      exact ⟨rfl, k _ _ I (Sm.refl _) (fun _ _ => rfl) rfl h⟩
    | cons _ _ => unfold pTgts at h; exact h.elim
  | .cons t ts, F, g, σ, H, vs, ds, Q, PQ, I, hr, h, k => by
    unfold tgsT
    cases hr with
    | nil => unfold pTgts at h; exact h.elim
    | cons h1 h2 =>
      unfold pTgts at h
      refine ⟨_, _, rfl, tgt_ok t I h1 h fun g' σ' J e hj hn q => ?_⟩
      refine tgts_ok ts J (h2.mono e) q fun g2 σ2 J2 e2 hj2 hn2 q2 => k g2 σ2 J2 (e.trans e2) (fun j z => ?_) (hn2.trans hn) q2
      unfold tgsV at z
      rw [hj2 j fun y => z (List.mem_append_right _ y), hj j fun y => z (List.mem_append_left _ y)]
theorem tgts_len : ∀ (ts : Tgts) {ds : List PyData} {g : Gm} {PQ : Gm → Prop}, pTgts ts ds g PQ → ds.length = ts.length
  | .nil, ds, g, PQ, h => by
    cases ds with
    | nil => rfl
    | cons _ _ => unfold pTgts at h; exact h.elim
  | .cons t ts, ds, g, PQ, h => by
    cases ds with
    | nil => unfold pTgts at h; exact h.elim
    | cons d ds =>
      unfold pTgts at h
      obtain ⟨g', PQ', h2⟩ : ∃ g' PQ', pTgts ts ds g' PQ' := tgt_some t h fun g' q => ⟨g', _, q⟩
      rw [List.length_cons, tgts_len ts h2, Tgts.length]
theorem tgt_some : ∀ (t : Tgt) {d : PyData} {g : Gm} {PQ : Gm → Prop} {A : Prop}, pTgt t d g PQ → (∀ g', PQ g' → A) → A
  | .name i, d, g, PQ, A, h, k => by
    unfold pTgt at h
    exact k _ h
  | .tup ts, d, g, PQ, A, h, k => by
    cases d with
    | tuple ds =>
      unfold pTgt at h
      exact tgts_some ts h k
    | none => unfold pTgt at h; exact h.elim
    | bool _ => unfold pTgt at h; exact h.elim
    | int _ => unfold pTgt at h; exact h.elim
    | str _ => unfold pTgt at h; exact h.elim
    | list _ => unfold pTgt at h; exact h.elim
    | dict _ => unfold pTgt at h; exact h.elim
theorem tgts_some : ∀ (ts : Tgts) {ds : List PyData} {g : Gm} {PQ : Gm → Prop} {A : Prop}, pTgts ts ds g PQ → (∀ g', PQ g' → A) → A
  | .nil, ds, g, PQ, A, h, k => by
    cases ds with
    | nil => unfold pTgts at h; exact k _ h
    | cons _ _ => unfold pTgts at h; exact h.elim
  | .cons t ts, ds, g, PQ, A, h, k => by
    cases ds with
    | nil => unfold pTgts at h; exact h.elim
    | cons d ds =>
      unfold pTgts at h
      exact tgt_some t h fun g' q => tgts_some ts q k
end
end
end PV

namespace PV
open PySem PySem.Spec PyProof.Rows L2 Cm
open GX (Sm)
section
variable {K : PySem.W.Frag} {Ps : List Addr} {W : WX} {F : Fr} {g : Gm} {σ : L2.St} {H H1 H2 : Hp}
def pTg (t : Tgt) : GG := fun r g _ Q => match r with
  | .v k d => k.ok = true ∧ pTgt t d g Q
  | .obj _ => False
theorem lg_tgt (t : Tgt) : LG' K Ps (tgT K t) (pTg t) (tgV t) := fun F g σ H H1 v r Q PX PQ I e hr h k => by
  cases r with
  | obj A => exact h.elim
  | v t2 d => exact tgt_ok t (I.step e) (hr.dat I e h.1) h.2 fun g' σ' J _ hj hn q => k g' σ' J hj hn q
/-! ##### statements -/
theorem Ends'.to {PD : GEnds} {D : Ends} (h : Ends' K Ps W F PD D) {N : L2.St → Hp → Prop} {PN : Gm → Prop} (hn : ∀ g σ H, Env K Ps F g σ H → PN g → N σ H) : Ends' K Ps W F { PD with nx := PN } { D with nx := N } :=
  ⟨hn, h.bk, h.ct, h.rt, h.ex⟩
def pNext : GS := fun PD g => PD.nx g
theorem ls_next : LS K Ps W tNext pNext := fun F D σ H PD g I E h => E.nx g σ H I h
def pBreak : GS := fun PD g => PD.bk g
theorem ls_break : LS K Ps W tBreak pBreak := fun F D σ H PD g I E h => E.bk g σ H I h
def pCont : GS := fun PD g => PD.ct g
theorem ls_cont : LS K Ps W tCont pCont := fun F D σ H PD g I E h => E.ct g σ H I h
def pSeq (a b : GS) : GS := fun PD g => a { PD with nx := b PD } g
theorem ls_seq {t u : TS} {a b : GS} (h1 : LS K Ps W t a) (h2 : LS K Ps W u b) : LS K Ps W (tSeq t u) (pSeq a b) := fun F D σ H PD g I E h =>
  h1 F { D with nx := u D } σ H { PD with nx := b PD } g I (E.to fun g' σ' H' J q => h2 F D σ' H' PD g' J E q) h
def pCut (a b : GS) : GS := fun PD g => ∃ Mid : Gm → Prop, a { PD with nx := Mid } g ∧ ∀ g', Mid g' → b PD g'
theorem ls_cut {t u : TS} {a b : GS} (h1 : LS K Ps W t a) (h2 : LS K Ps W u b) : LS K Ps W (Evl.tCut t u) (pCut a b) := fun F D σ H PD g I E ⟨Mid, ha, hb⟩ =>
  ⟨fun σ' H' => ∃ g', Env K Ps F g' σ' H' ∧ Mid g', h1 F _ σ H { PD with nx := Mid } g I (E.to fun g' σ' H' J q => ⟨g', J, q⟩) ha, fun σ' H' ⟨g', J, q⟩ => h2 F D σ' H' PD g' J E (hb g' q)⟩
theorem ls_cutS {t u : TS} {a b : GS} (h1 : LS K Ps W t a) (h2 : LS K Ps W u b) : LS K Ps W (tSeq t u) (pCut a b) := fun F D σ H PD g I E ⟨Mid, ha, hb⟩ =>
  h1 F _ σ H { PD with nx := Mid } g I (E.to fun g' σ' H' J q => h2 F D σ' H' PD g' J E (hb g' q)) ha
/-- lists of one's own are given up first -/
def pShr (a : GS) : GS := fun PD g => a PD (shr g)
theorem ls_shr {t : TS} {a : GS} (h : LS K Ps W t a) : LS K Ps W t (pShr a) := fun F D σ H PD g I E q => h F D σ H PD (shr g) I.share E q
/-- slots are forgotten first -/
def fgt : List Nat → Gm → Gm
  | [], g => g
  | i :: r, g => fgt r (g.set i none)
theorem set_same {α : Type} {l : List α} {i : Nat} : ∀ {v : α}, l[i]? = some v → l.set i v = l := fun {v} h => by
  apply List.ext_getElem?
  intro j
  by_cases z : i = j
  · subst z
    rw [List.getElem?_set_self', h]
    rfl
  · rw [List.getElem?_set_ne z]
theorem Env.fgt1 (I : Env K Ps F g σ H) (i : Nat) : Env K Ps F (g.set i none) σ H := by
  cases e : σ[i]? with
  | none =>
    have : g.set i none = g := by
      rw [List.set_eq_of_length_le]
      rw [← I.sl.len]
      exact List.getElem?_eq_none_iff.mp e
    rw [this]
    exact I
  | some u =>
    have := I.forget (i := i) u
    rwa [set_same e] at this
theorem Env.fgt (is : List Nat) : ∀ {g : Gm}, Env K Ps F g σ H → Env K Ps F (fgt is g) σ H := by
  induction is with
  | nil => exact fun I => I
  | cons i r ih => exact fun I => ih (I.fgt1 i)
theorem own_out {x : Sl} {a : Addr} (ha : a ∈ ownsOf (some x)) : ∀ {g : Gm} {i : Nat}, (owns g).Nodup → g[i]? = some (some x) → a ∉ owns (g.set i none)
  | [], _, _, h => by simp at h
  | y :: g, 0, nd, h => by
    simp at h
    subst h
    intro z
    exact (List.nodup_append.mp nd).2.2 a ha a (show a ∈ owns g from z) rfl
  | y :: g, i + 1, nd, h => by
    have h : g[i]? = some (some x) := by simpa using h
    intro z
    rcases List.mem_append.mp (show a ∈ ownsOf y ++ owns (g.set i none) from z) with z | z
    · exact (List.nodup_append.mp nd).2.2 a z a (mem_ownsOf ha (List.mem_of_getElem? h)) rfl
    · exact own_out ha (List.nodup_append.mp nd).2.1 h z
/-- one list of one's own is given up -/
theorem Env.share1 (I : Env K Ps F g σ H) {i : Nat} {p : Addr} {xs : List PyData} (hg : g[i]? = some (some (.own p xs))) : Env K Ps F (g.set i (some (.dat (.list xs)))) σ H := by
  obtain ⟨u, hu, rfl, vs, hH, hr⟩ := I.sl.get hg
  have hp : p ∉ F.L0 ++ owns (g.set i none) := fun z => (List.mem_append.mp z).elim (I.nw p (mem_owns (List.mem_of_getElem? hg))).2.1 (own_out (List.mem_cons_self ..) I.nd hg)
  have J := (I.fgt1 i).set_dat (i := i) (v := .ref p) (d := .list xs) (.lst (by rw [off_ne hp]; exact hH) (hr.mono (vis_set rfl)))
  rw [List.set_set, set_same hu] at J
  exact J
theorem Env.shareT (I : Env K Ps F g σ H) {i : Nat} {p : Addr} {rs : List Addr} {rows : List (List PyData)} (hg : g[i]? = some (some (.tab p rs rows))) : Env K Ps F (g.set i (some (.dat (.list (rows.map PyData.list))))) σ H := by
  obtain ⟨u, hu, rfl, hH, ht⟩ := I.sl.get hg
  have hp : ∀ a ∈ p :: rs, a ∉ F.L0 ++ owns (g.set i none) := fun a ha z => (List.mem_append.mp z).elim (I.nw a (mem_ownsOf (x := some (.tab p rs rows)) ha (List.mem_of_getElem? hg))).2.1 (own_out (x := .tab p rs rows) ha I.nd hg)
  have J := (I.fgt1 i).set_dat (i := i) (v := .ref p) (d := .list (rows.map PyData.list)) (.lst (by rw [off_ne (hp p (List.mem_cons_self ..))]; exact hH) (ht.rp (vis_set rfl) fun r hr => hp r (List.mem_cons_of_mem _ hr)))
  rw [List.set_set, set_same hu] at J
  exact J
def shI (i : Nat) (g : Gm) : Gm := match g[i]? with
  | some (some (.own _ xs)) => g.set i (some (.dat (.list xs)))
  | some (some (.tab _ _ rows)) => g.set i (some (.dat (.list (rows.map PyData.list))))
  | _ => g
theorem Env.shI (I : Env K Ps F g σ H) (i : Nat) : Env K Ps F (shI i g) σ H := by
  unfold PV.shI
  split
  · next h => exact I.share1 h
  · next h => exact I.shareT h
  · exact I
def pShrI (i : Nat) (a : GS) : GS := fun PD g => a PD (shI i g)
theorem ls_shrI {t : TS} {a : GS} (i : Nat) (h : LS K Ps W t a) : LS K Ps W t (pShrI i a) := fun F D σ H PD g I E q => h F D σ H PD _ (I.shI i) E q
def pFgt (is : List Nat) (a : GS) : GS := fun PD g => a PD (fgt is g)
theorem ls_fgt {t : TS} {a : GS} (is : List Nat) (h : LS K Ps W t a) : LS K Ps W t (pFgt is a) := fun F D σ H PD g I E q => h F D σ H PD _ (I.fgt is) E q
/-- a cut behind which slots are forgotten -/
def pCutF (is : List Nat) (a b : GS) : GS := fun PD g => ∃ Mid : Gm → Prop, a ⟨fun g' => Mid (fgt is g'), PD.rt, PD.bk, PD.ct, PD.ex⟩ g ∧ ∀ g', Mid g' → b PD g'
theorem ls_cutF {t u : TS} {a b : GS} (is : List Nat) (h1 : LS K Ps W t a) (h2 : LS K Ps W u b) : LS K Ps W (Evl.tCut t u) (pCutF is a b) := fun F D σ H PD g I E ⟨Mid, ha, hb⟩ =>
  ⟨fun σ' H' => ∃ g', Env K Ps F g' σ' H' ∧ Mid g', h1 F _ σ H ⟨fun g' => Mid (fgt is g'), PD.rt, PD.bk, PD.ct, PD.ex⟩ g I ⟨fun g' σ' H' J q => ⟨fgt is g', J.fgt is, q⟩, E.bk, E.ct, E.rt, E.ex⟩ ha, fun σ' H' ⟨g', J, q⟩ => h2 F D σ' H' PD g' J E (hb g' q)⟩
def pAsg (pa : GE) (pg : GG) : GS := fun PD g => pa g (PD.ex g) fun r => pg r g (PD.ex g) PD.nx
theorem ls_asg {te : TE} {tg : TG} {pa : GE} {pg : GG} {vs : List Nat} (ha : LE K Ps W te pa) (hg : LG' K Ps tg pg vs) : LS K Ps W (tAsg te tg) (pAsg pa pg) := fun F D σ H PD g I E h =>
  ha F g σ H _ _ _ I (E.wx I) h fun r v H1 e1 r1 h1 => hg F g σ H H1 v r _ _ _ I e1 r1 h1 fun g' σ' J _ _ q => E.nx g' σ' H1 J q
def pExpr (pa : GE) : GS := fun PD g => pa g (PD.ex g) fun _ => PD.nx g
theorem ls_expr {te : TE} {pa : GE} (ha : LE K Ps W te pa) : LS K Ps W (tDrop te) (pExpr pa) := fun F D σ H PD g I E h =>
  ha F g σ H _ _ _ I (E.wx I) h fun r v H1 e1 r1 h1 => E.nx g σ H1 (I.step e1) h1
/-- what a caller sees of a result -/
def Rs.ret : Rs → Rs
  | .v .dat d => .v .dat d
  | .v .fr d => .v .fr d
  | .v (.own _) d => .v .fr d
  | .v .bor d => .v .dat d
  | .v .ft d => .v .ft d
  | .obj A => .obj A
theorem ret_ok (I : Env K Ps F g σ H) (e : Sm H H1) {r : Rs} {v : V} (h : RsR K F g H H1 v r) : RsR K F [] F.H0 H1 v r.ret := by
  have m : Sm (off H1 (F.L0 ++ owns g)) (off H1 (F.L0 ++ owns [])) := sm_sub fun a z => by
    rw [show owns [] = [] from rfl, List.append_nil] at z
    exact List.mem_append_left _ z
  cases r with
  | obj A => exact A.mono _ _ _ m h
  | v t d =>
    cases t with
    | dat => exact Rp.mono m h
    | bor =>
      have h2 : Rp K (off H1 F.L0) v d := h
      rw [← List.append_nil F.L0] at h2
      exact h2
    | fr =>
      obtain ⟨p, vs, xs, rfl, rfl, hn, hp, ha⟩ := h
      exact ⟨p, vs, xs, rfl, rfl, hn.back I.sm, hp, ha.mono (sm_sub fun a z => (List.mem_cons.mp z).elim (fun q => by subst q; exact .head _) fun z => .tail _ (List.mem_append_left _ (by simpa [owns] using z)))⟩
    | own p =>
      obtain ⟨vs, xs, rfl, rfl, hm, hp, ha⟩ := h
      exact ⟨p, vs, xs, rfl, rfl, (I.nw p hm).1, hp, ha.mono (sm_sub fun a z => (List.mem_cons.mp z).elim (fun q => by subst q; exact List.mem_append_right _ hm) fun z => List.mem_append_left _ (by simpa [owns] using z))⟩
    | ft =>
      obtain ⟨p, rs, rows, rfl, rfl, hn, hr, nd, hp, ht⟩ := h
      refine ⟨p, rs, rows, rfl, rfl, hn.back I.sm, fun r hr2 => (hr r hr2).back I.sm, nd, hp, ht.mono (Sm.refl _) (sm_sub fun a z => (List.mem_append.mp z).elim (fun z => List.mem_append_left _ z) fun z => List.mem_append_right _ (List.mem_append_left _ (by simpa [owns] using z)))⟩
def pRet (pa : GE) : GS := fun PD g => pa g (PD.ex g) fun r => PD.rt r.ret
theorem ls_ret {te : TE} {pa : GE} (ha : LE K Ps W te pa) : LS K Ps W (tRet te) (pRet pa) := fun F D σ H PD g I E h =>
  ha F g σ H _ _ _ I (E.wx I) h fun r v H1 e1 r1 h1 => E.rt _ v H1 (I.sm.trans e1) (ret_ok I e1 r1) h1
def pRetN : GS := fun PD _ => PD.rt (.v .dat .none)
theorem ls_retN : LS K Ps W tRetN pRetN := fun F D σ H PD g I E h => E.rt _ _ H I.sm (rs_dat .non) h
def pIf (pt : GT) (a b : GS) : GS := fun PD g => pt g (PD.ex g) fun c => (c = true → a PD g) ∧ (c = false → b PD g)
theorem ls_if {tt : TT} {t u : TS} {pt : GT} {a b : GS} (ht : LT K Ps W tt pt) (h1 : LS K Ps W t a) (h2 : LS K Ps W u b) : LS K Ps W (tIfS tt t u) (pIf pt a b) := fun F D σ H PD g I E h =>
  ht F g σ H _ _ _ I (E.wx I) h fun c H1 e1 h1' => by
    cases c with
    | true => exact iteT (h1 F D σ H1 PD g (I.step e1) E (h1'.1 rfl))
    | false => exact iteF (h2 F D σ H1 PD g (I.step e1) E (h1'.2 rfl))
def pAug (i : Nat) (f : Int → Int → Int) (pa : GE) : GS := fun PD g => match g[i]? with
  | some (some (.dat (.int a))) => pa g (PD.ex g) fun r => match r with
    | .v _ (.int b) => PD.nx (g.set i (some (.dat (.int (f a b)))))
    | _ => False
  | _ => False
theorem ls_aug {i : Nat} {f : Int → Int → Int} {te : TE} {pa : GE} (ha : LE K Ps W te pa) : LS K Ps W (tAug i te (ipI f)) (pAug i f pa) := fun F D σ H PD g I E h => by
  unfold pAug at h
  split at h
  · next a e =>
    obtain ⟨u, h1, h2⟩ := I.sl.get e
    cases h2
    refine ⟨_, h1, ha F g σ H _ _ _ I (E.wx I) h fun r v H1 e1 r1 h1 => ?_⟩
    split at h1
    · next t b =>
      cases r1.rp I e1
      exact ⟨_, _, rfl, rfl, E.nx _ _ H1 ((I.step e1).set_dat (.int _)) h1⟩
    · exact h1.elim
  · exact h.elim
def pPar (i j : Nat) (pa : GA) : GS := fun PD g => pa g (PD.ex g) fun rs => match rs with
  | [r, q] => setR false i r g fun g' => match q with
    | .v .dat d => r.arg = r ∧ PD.nx (g'.set j (some (.dat d)))
    | _ => False
  | _ => False
theorem ls_par {i j : Nat} {ta : TA} {pa : GA} (ha : LA K Ps W ta pa) : LS K Ps W (tPar i j ta) (pPar i j pa) := fun F D σ H PD g I E h =>
  ha F g σ H _ _ _ I (E.wx I) h fun rs vs H1 e1 r1 h1 => by
    split at h1
    · next r q =>
      obtain ⟨v, u, rfl, a, b⟩ := rs2 r1
      refine ⟨v, u, rfl, ?_⟩
      cases r with
      | obj A =>
        cases q with
        | obj _ => exact h1.elim
        | v t d => cases t with
          | dat => exact E.nx _ _ H1 (((I.step e1).set_obj (i := i) a).set_dat (Rp.mono (vis_set rfl) b)) h1.2
          | fr => exact h1.elim
          | bor => exact h1.elim
          | own _ => exact h1.elim
          | ft => exact h1.elim
      | v t d =>
        have ht : t = .dat := by
          cases t with
          | dat => rfl
          | ft => cases d <;> first | exact h1.elim | (have := h1.2 rfl; split at this <;> first | (cases this.1) | exact this.elim)
          | fr => cases d <;> first | exact h1.elim | (have := h1.2 rfl; split at this <;> first | (cases this.1) | exact this.elim)
          | bor => split at h1 <;> first | (cases h1.1) | exact h1.elim
          | own _ => split at h1 <;> first | (cases h1.1) | exact h1.elim
        subst ht
        cases q with
        | obj _ => exact h1.elim
        | v t2 d2 => cases t2 with
          | dat => exact E.nx _ _ H1 (((I.step e1).set_dat (i := i) a).set_dat (Rp.mono (vis_set rfl) b)) h1.2
          | fr => exact h1.elim
          | bor => exact h1.elim
          | own _ => exact h1.elim
          | ft => exact h1.elim
    · exact h1.elim
/-! ##### lists of one's own that change -/
theorem own_of (I : Env K Ps F g σ H) {j : Nat} {p : Addr} {xs : List PyData} (h : g[j]? = some (some (.own p xs))) : ∃ vs, σ[j]? = some (some (.ref p)) ∧ H p = some (.lst vs) ∧ RpAll K (off H (F.L0 ++ owns g)) vs xs := by
  obtain ⟨u, h1, rfl, vs, h2, h3⟩ := I.sl.get h
  exact ⟨vs, h1, h2, h3⟩
/-- a method that changes a list of one's own -/
def LM (K : PySem.W.Frag) (Ps : List Addr) (r : V → List V → Hp → VK → Prop) (pr : List PyData → List Rs → (List PyData → Prop) → Prop) : Prop := ∀ F g σ H H1 p vs xs us rs Q PQ, Env K Ps F g σ H → Sm H H1 → H1 p = some (.lst vs) → RpAll K (off H1 (F.L0 ++ owns g)) vs xs → RsAll K F g H H1 us rs → pr xs rs PQ →
  (∀ ys ws, RpAll K (off H1 (F.L0 ++ owns g)) ws ys → PQ ys → Q .non (upd H1 p (.lst ws))) → r (.ref p) us H1 Q
def pBM (j : Nat) (pr : List PyData → List Rs → (List PyData → Prop) → Prop) (pa : GA) : GS := fun PD g => match g[j]? with
  | some (some (.own p xs)) => pa g (PD.ex g) fun rs => pr xs rs fun ys => PD.nx (g.set j (some (.own p ys)))
  | _ => False
theorem ls_bm {j : Nat} {r : V → List V → Hp → VK → Prop} {pr : List PyData → List Rs → (List PyData → Prop) → Prop} {ta : TA} {pa : GA} (hm : LM K Ps r pr) (ha : LA K Ps W ta pa) : LS K Ps W (tDrop (tBM K "list" r (tVar j) ta)) (pBM j pr pa) := fun F D σ H PD g I E h => by
  unfold pBM at h
  split at h
  · next p xs e =>
    obtain ⟨vs, h1, h2, h3⟩ := own_of I e
    refine ⟨_, h1, .inl ⟨rfl, _, SqL.of h2⟩, ha F g σ H _ _ _ I (E.wx I) h fun rs us H1 e1 r1 q => ?_⟩
    have I1 := I.step e1
    exact hm F g σ H H1 p vs xs us rs _ _ I e1 (e1.l h2) (h3.mono (sm_off e1 fun _ z => .inl z)) r1 q fun ys ws hw q => E.nx _ σ _ (I1.put e hw) q
  · exact h.elim
def pBM0 (j : Nat) (pr : List PyData → List Rs → (List PyData → Prop) → Prop) : GS := fun PD g => match g[j]? with
  | some (some (.own p xs)) => pr xs [] fun ys => PD.nx (g.set j (some (.own p ys)))
  | _ => False
theorem ls_bm0 {j : Nat} {r : V → List V → Hp → VK → Prop} {pr : List PyData → List Rs → (List PyData → Prop) → Prop} (hm : LM K Ps r pr) : LS K Ps W (tDrop (tBM0 K "list" r (tVar j))) (pBM0 j pr) := fun F D σ H PD g I E h => by
  unfold pBM0 at h
  split at h
  · next p xs e =>
    obtain ⟨vs, h1, h2, h3⟩ := own_of I e
    exact ⟨_, h1, .inl ⟨rfl, _, SqL.of h2⟩, hm F g σ H H p vs xs [] [] _ _ I (Sm.refl H) h2 h3 .nil h fun ys ws hw q => E.nx _ σ _ (I.put e hw) q⟩
  · exact h.elim
def pAppend : List PyData → List Rs → (List PyData → Prop) → Prop := fun xs rs Q => match rs with
  | [.v t d] => t.ok = true ∧ xs.length < sizeLine ∧ Q (xs ++ [d])
  | _ => False
theorem lm_append : LM K Ps rAppend pAppend := by
  intro F g σ H H1 p vs xs us rs Q PQ I e hp ha r h k
  unfold pAppend at h
  split at h
  · next t d =>
    obtain ⟨v, rfl, a⟩ := rs1 r
    exact ⟨p, vs, v, rfl, rfl, hp, by rw [ha.length]; exact h.2.1, k _ _ (ha.append (.cons (a.dat I e h.1) .nil)) h.2.2⟩
  · exact h.elim
def pExtend : List PyData → List Rs → (List PyData → Prop) → Prop := fun xs rs Q => match rs with
  | [.v t (.list ds)] => t.d = true ∧ xs.length + ds.length ≤ sizeLine ∧ Q (xs ++ ds)
  | _ => False
theorem lm_extend : LM K Ps rExtend pExtend := by
  intro F g σ H H1 p vs xs us rs Q PQ I e hp ha r h k
  unfold pExtend at h
  split at h
  · next t ds =>
    obtain ⟨v, rfl, a⟩ := rs1 r
    obtain ⟨q, ws, rfl, hq, h1, h2⟩ := a.items I e
    exact ⟨p, q, vs, ws, rfl, rfl, hp, hq, by rw [ha.length, h1.length]; exact h.2.1, k _ _ (ha.append (h2 (it_d h.1))) h.2.2⟩
  · exact h.elim
def pExtT : List PyData → List Rs → (List PyData → Prop) → Prop := fun xs rs Q => match rs with
  | [.v t (.tuple ds)] => t.d = true ∧ xs.length + ds.length ≤ sizeLine ∧ Q (xs ++ ds)
  | _ => False
theorem lm_extT : LM K Ps (fun x vs H Q => ∃ l b xs zs, x = .ref l ∧ vs = [.ref b] ∧ H l = some (.lst xs) ∧ SqT K H b zs ∧ xs.length + zs.length ≤ sizeLine ∧ Q .non (upd H l (.lst (xs ++ zs)))) pExtT := by
  intro F g σ H H1 p vs xs us rs Q PQ I e hp ha r h k
  unfold pExtT at h
  split at h
  · next t ds =>
    obtain ⟨v, rfl, a⟩ := rs1 r
    obtain ⟨q, ws, rfl, hq, h1, h2⟩ := a.itemsT I e
    exact ⟨p, q, vs, ws, rfl, rfl, hp, hq, by rw [ha.length, h1.length]; exact h.2.1, k _ _ (ha.append (h2 (it_d h.1))) h.2.2⟩
  · exact h.elim
def pClear : List PyData → List Rs → (List PyData → Prop) → Prop := fun _ rs Q => rs = [] ∧ Q []
theorem lm_clear : LM K Ps rClear pClear := by
  intro F g σ H H1 p vs xs us rs Q PQ I e hp ha r h k
  obtain ⟨rfl, h⟩ := h
  cases r
  exact ⟨p, vs, rfl, rfl, hp, k _ _ .nil h⟩
def pReverse : List PyData → List Rs → (List PyData → Prop) → Prop := fun xs rs Q => rs = [] ∧ Q xs.reverse
theorem lm_reverse : LM K Ps rReverse pReverse := by
  intro F g σ H H1 p vs xs us rs Q PQ I e hp ha r h k
  obtain ⟨rfl, h⟩ := h
  cases r
  exact ⟨p, vs, rfl, rfl, hp, k _ _ ha.reverse h⟩
/-- target = xs.pop() -/
def pPop (j : Nat) (pg : GG) : GS := fun PD g => match g[j]? with
  | some (some (.own p xs)) => ∃ ys d, xs = ys ++ [d] ∧ pg (.v .dat d) (g.set j (some (.own p ys))) (PD.ex g) PD.nx
  | _ => False
theorem ls_pop {j : Nat} {tg : TG} {pg : GG} {vs : List Nat} (hg : LG' K Ps tg pg vs) : LS K Ps W (tAsg (tBM0 K "list" rPop (tVar j)) tg) (pPop j pg) := fun F D σ H PD g I E h => by
  unfold pPop at h
  split at h
  · next p xs e =>
    obtain ⟨us, h1, h2, h3⟩ := own_of I e
    obtain ⟨ys, d, rfl, h⟩ := h
    have hl := h3.length
    rw [List.length_append, List.length_singleton] at hl
    obtain ⟨v, h4, h5⟩ := h3.get (i := ys.length) (d := d) (by simp)
    have ht := h3.take ys.length
    rw [List.take_left] at ht
    have hd : us.dropLast = us.take ys.length := by rw [List.dropLast_eq_take, hl]; rfl
    have J := I.put (vs := us.dropLast) (xs := ys) e (by rw [hd]; exact ht)
    refine ⟨_, h1, .inl ⟨rfl, _, SqL.of h2⟩, p, us, v, rfl, rfl, h2, by rw [hl]; exact h4, ?_⟩
    refine hg F _ σ _ _ v _ _ _ _ J (Sm.refl _) (rs_dat ?_) h fun g' σ' J2 _ _ q => E.nx g' σ' _ J2 q
    have e2 : off (upd H p (.lst us.dropLast)) (F.L0 ++ owns (g.set j (some (.own p ys)))) = off H (F.L0 ++ owns g) := by rw [owns_put (x := some (.own p ys)) (y := some (.own p (ys ++ [d]))) rfl e, off_upd (List.mem_append_right _ (mem_owns (List.mem_of_getElem? e)))]
    rw [e2]
    exact h5
  · exact h.elim
/-- xs[i] = e -/
def pSetIx (j : Nat) (pi pa : GE) : GS := fun PD g => match g[j]? with
  | some (some (.own p xs)) => pa g (PD.ex g) fun r => pi g (PD.ex g) fun ix => match r, ix with
    | .v t d, .v _ (.int k) => t.ok = true ∧ ∃ n, ixN xs.length k = some n ∧ PD.nx (g.set j (some (.own p (xs.set n d))))
    | _, _ => False
  | _ => False
theorem ls_setix {j : Nat} {te ti : TE} {pa pi : GE} (ha : LE K Ps W te pa) (hi : LE K Ps W ti pi) : LS K Ps W (tAsg te (gSub (tVar j) ti rSetL)) (pSetIx j pi pa) := fun F D σ H PD g I E h => by
  unfold pSetIx at h
  split at h
  · next p xs e =>
    obtain ⟨us, h1, h2, h3⟩ := own_of I e
    refine ha F g σ H _ _ _ I (E.wx I) h fun r v H1 e1 r1 q => ⟨_, h1, hi F g σ H1 _ _ _ (I.step e1) (E.wx (I.step e1)) q fun ix u H2 e2 r2 q2 => ?_⟩
    split at q2
    · next t d t2 k =>
      obtain ⟨h4, n, hn, q2⟩ := q2
      have e12 := e1.trans e2
      cases r2.rp (I.step e1) e2
      refine ⟨p, us, k, n, rfl, rfl, e12.l h2, by rw [h3.length]; exact hn, E.nx _ σ _ ((I.step e12).put e ?_) q2⟩
      exact RpAll.set n ((r1.step e1 e2).dat I e12 h4) (h3.mono (sm_off e12 fun _ z => .inl z))
    · exact q2.elim
  · exact h.elim
/-! ##### loops -/
def Loop (pg : GG) (b : GS) (PD : GEnds) : List PyData → Gm → Prop
  | [], g => PD.nx g
  | x :: xs, g => pg (.v .dat x) g (PD.ex g) fun g' => b { PD with nx := Loop pg b PD xs, ct := Loop pg b PD xs, bk := PD.nx } g'
def pFor (pi : GI) (pg : GG) (b : GS) : GS := fun PD g => pi g (PD.ex g) fun items => Loop pg b PD items g
theorem drop_get {α : Type} {xs : List α} {i : Nat} {x : α} (h : xs[i]? = some x) : xs.drop i = x :: xs.drop (i + 1) := by
  have hi : i < xs.length := by
    by_cases z : i < xs.length
    · exact z
    · rw [List.getElem?_eq_none (Nat.le_of_not_lt z)] at h
      cases h
  rw [List.getElem?_eq_getElem hi] at h
  cases h
  exact List.drop_eq_getElem_cons hi
theorem ls_for {wi : TI} {tg : TG} {tb : TS} {pi : GI} {pg : GG} {b : GS} {vs : List Nat} (hi : LI K Ps W wi pi) (hg : LG' K Ps tg pg vs) (hb : LS K Ps W tb b) : LS K Ps W (tFor wi tg tb) (pFor pi pg b) := fun F D σ H PD g I E h =>
  hi F g σ H _ _ _ I (E.wx I) h fun J H1 items e1 wk q => by
    have I1 := I.step e1
    have E1 := E.base I1
    refine ⟨fun i m σ' H' => m = items.length - i ∧ i ≤ items.length ∧ ∃ g', Env K Ps ⟨off H1 (owns g), F.L0⟩ g' σ' H' ∧ Loop pg b PD (items.drop i) g', ⟨items.length, by simp, Nat.zero_le _, g, I1.base, by rw [List.drop_zero]; exact q⟩, ?_⟩
    rintro i m σ' H' ⟨rfl, hi, g', I', q⟩
    have st := I1.still I'
    by_cases hlt : i < items.length
    · refine .inr ⟨wk.go i H' _ hlt st, fun σ2 H2 => ∃ g2, Env K Ps ⟨off H1 (owns g), F.L0⟩ g2 σ2 H2 ∧ Loop pg b PD (items.drop (i + 1)) g2, fun σ2 H2 ⟨g2, I2, q2⟩ => ⟨items.length - (i + 1), by omega, rfl, hlt, g2, I2, q2⟩, fun x H2 y => ?_⟩
      obtain ⟨s, d, hd, hr⟩ := wk.yld i H' _ x H2 hlt st (fun q hq => hidden I' hq) y
      rw [drop_get hd] at q
      refine hg _ g' σ' H' H2 x (.v .dat d) _ _ _ I' s (rs_dat hr) q fun g2 σ2 I2 _ _ q2 => ?_
      refine hb _ { D with nx := fun σ2 H2 => ∃ g2, Env K Ps ⟨off H1 (owns g), F.L0⟩ g2 σ2 H2 ∧ Loop pg b PD (items.drop (i + 1)) g2, ct := fun σ2 H2 => ∃ g2, Env K Ps ⟨off H1 (owns g), F.L0⟩ g2 σ2 H2 ∧ Loop pg b PD (items.drop (i + 1)) g2, bk := D.nx } σ2 H2 { PD with nx := Loop pg b PD (items.drop (i + 1)), ct := Loop pg b PD (items.drop (i + 1)), bk := PD.nx } g2 I2 ⟨fun g3 σ3 H3 I3 q3 => ⟨g3, I3, q3⟩, E1.nx, fun g3 σ3 H3 I3 q3 => ⟨g3, I3, q3⟩, E1.rt, E1.ex⟩ q2
    · have : i = items.length := by omega
      subst this
      rw [List.drop_length] at q
      exact .inl ⟨wk.stop H' _ st, E1.nx g' σ' H' I' q⟩
def pWhile (pt : GT) (b : GS) : GS := fun PD g => ∃ Iv : Nat → Gm → Prop, (∃ m, Iv m g) ∧ ∀ m g, Iv m g → pt g (PD.ex g) fun c =>
  (c = true → b { PD with nx := fun g' => ∃ m', m' < m ∧ Iv m' g', ct := fun g' => ∃ m', m' < m ∧ Iv m' g', bk := PD.nx } g) ∧ (c = false → PD.nx g)
theorem ls_while {tt : TT} {tb : TS} {pt : GT} {b : GS} (ht : LT K Ps W tt pt) (hb : LS K Ps W tb b) : LS K Ps W (tWhile tt tb) (pWhile pt b) := fun F D σ H PD g I E ⟨Iv, ⟨m0, h0⟩, turn⟩ => by
  refine ⟨fun m σ' H' => ∃ g', Env K Ps F g' σ' H' ∧ Iv m g', ⟨m0, g, I, h0⟩, fun m σ' H' ⟨g', I', q⟩ => ?_⟩
  refine ht F g' σ' H' _ _ _ I' (E.wx I') (turn m g' q) fun c H1 e1 h1 => ?_
  cases c with
  | false => exact iteF (E.nx g' σ' H1 (I'.step e1) (h1.2 rfl))
  | true =>
    refine iteT ⟨fun σ2 H2 => ∃ m', m' < m ∧ ∃ g2, Env K Ps F g2 σ2 H2 ∧ Iv m' g2, fun σ2 H2 z => z, ?_⟩
    exact hb F { D with nx := fun σ2 H2 => ∃ m', m' < m ∧ ∃ g2, Env K Ps F g2 σ2 H2 ∧ Iv m' g2, ct := fun σ2 H2 => ∃ m', m' < m ∧ ∃ g2, Env K Ps F g2 σ2 H2 ∧ Iv m' g2, bk := D.nx } σ' H1 { PD with nx := fun g' => ∃ m', m' < m ∧ Iv m' g', ct := fun g' => ∃ m', m' < m ∧ Iv m' g', bk := PD.nx } g' (I'.step e1)
      ⟨fun g3 σ3 H3 I3 ⟨m', hm, q3⟩ => ⟨m', hm, g3, I3, q3⟩, E.nx, fun g3 σ3 H3 I3 ⟨m', hm, q3⟩ => ⟨m', hm, g3, I3, q3⟩, E.rt, E.ex⟩ (h1.1 rfl)
/-! ##### comprehensions -/
def wipeG (g : Gm) : List Nat → Gm
  | [] => g
  | v :: vs => (wipeG g vs).set v none
theorem Env.wipe (I : Env K Ps F g σ H) : ∀ vs : List Nat, Env K Ps F (wipeG g vs) (wipe σ vs) H
  | [] => I
  | v :: vs => (Env.wipe I vs).forget none
theorem wipe_get {σ : L2.St} : ∀ {vs : List Nat} {j : Nat}, (wipe σ vs)[j]? = if j ∈ vs ∧ j < σ.length then some none else σ[j]?
  | [], j => by simp [L2.wipe]
  | v :: vs, j => by
    rw [L2.wipe]
    by_cases z : v = j
    · subst z
      rw [List.getElem?_set_self', wipe_get (vs := vs)]
      by_cases l : v < σ.length
      · by_cases hv : v ∈ vs <;> simp [hv, l]
      · have : σ[v]? = none := List.getElem?_eq_none_iff.mpr (by omega)
        simp [l, this]
    · rw [List.getElem?_set_ne z, wipe_get (vs := vs)]
      have : j ∈ v :: vs ↔ j ∈ vs := by
        simp only [List.mem_cons]
        exact ⟨fun q => q.elim (fun q => absurd q.symm z) id, .inr⟩
      simp [this]
theorem wipe_of {σ σ' : L2.St} {vs us : List Nat} (hs : ∀ j, j ∈ us → j ∈ vs) (hl : σ'.length = (wipe σ vs).length) (h : ∀ j, j ∉ us → σ'[j]? = (wipe σ vs)[j]?) : wipe σ' vs = wipe σ vs := by
  rw [wipe_length] at hl
  apply List.ext_getElem?
  intro j
  rw [wipe_get, wipe_get, hl]
  by_cases z : j ∈ vs ∧ j < σ.length
  · simp [z]
  · rw [if_neg z, if_neg z]
    by_cases hj : j ∈ us
    · have hv := hs j hj
      have : ¬ j < σ.length := fun l => z ⟨hv, l⟩
      rw [List.getElem?_eq_none_iff.mpr (by omega), List.getElem?_eq_none_iff.mpr (by omega)]
    · rw [h j hj, wipe_get, if_neg z]
/-- a hidden list changes -/
theorem Env.hid_upd (I : Env K Ps F g σ H) {D : Addr} {vs : List V} (hm : D ∈ F.L0) (hn : NewTo F.H0 D) : Env K Ps F g σ (upd H D (.lst vs)) := by
  have hh : ∀ {q}, Hid H q → Hid (upd H D (.lst vs)) q := fun {q} ⟨o, h1, h2⟩ => by
    by_cases z : q = D
    · subst z
      exact .lst upd_same
    · exact ⟨o, by rw [upd_ne z]; exact h1, h2⟩
  have no : ∀ {ps}, H D ≠ some (.tbl ps) := fun {ps} z => by
    obtain ⟨o, h1, h2⟩ := I.hd D hm
    rw [z] at h1
    cases h1
    exact h2 _ rfl
  refine ⟨?_, sm_upd I.sm hn, fun P z => ?_, fun q z => hh (I.hd q z), I.nd, fun q z => ⟨(I.nw q z).1, (I.nw q z).2.1, hh (I.nw q z).2.2⟩⟩
  · rw [off_upd (List.mem_append_left _ hm)]
    exact I.sl.imp fun x v hx q => SlR.still (fun a ha => upd_ne fun z => (I.nw a (mem_ownsOf ha hx)).2.1 (by rw [z]; exact hm)) q
  · obtain ⟨ps, q, t⟩ := I.tb P z
    refine ⟨ps, ?_, t⟩
    rw [upd_ne fun z => by subst z; exact no q]
    exact q
/-- a new list is hidden -/
theorem Env.hide (I : Env K Ps F g σ H) {D : Addr} {vs : List V} (hD : H D = none) : Env K Ps ⟨F.H0, D :: F.L0⟩ g σ (upd H D (.lst vs)) := by
  obtain ⟨s, hn, _, hv⟩ := new_in (o := .lst vs) I (Sm.refl H) hD
  have J := I.step s
  refine ⟨I.sl.mono s (hv _), J.sm, J.tb, fun q z => (List.mem_cons.mp z).elim (fun y => by subst y; exact .lst upd_same) (J.hd q), J.nd, fun q z => ⟨(J.nw q z).1, fun y => (List.mem_cons.mp y).elim (fun y => ?_) (J.nw q z).2.1, (J.nw q z).2.2⟩⟩
  subst y
  exact (I.nw q z).2.2.ne hn rfl
theorem owns_none : ∀ {g : Gm} {i : Nat}, (∀ x, g[i]? = some x → ownsOf x = []) → owns (g.set i none) = owns g
  | [], _, _ => rfl
  | x :: g, 0, h => by
    have := h x rfl
    show owns g = ownsOf x ++ owns g
    rw [this]
    rfl
  | x :: g, i + 1, h => congrArg (ownsOf x ++ ·) (owns_none (g := g) (i := i) fun y e => h y (by simpa using e))
theorem owns_dt {d : PyData} : ∀ {g : Gm} {i : Nat}, (∀ x, g[i]? = some x → ownsOf x = []) → owns (g.set i (some (.dat d))) = owns g
  | [], _, _ => rfl
  | x :: g, 0, h => by
    have := h x rfl
    show owns g = ownsOf x ++ owns g
    rw [this]
    rfl
  | x :: g, i + 1, h => congrArg (ownsOf x ++ ·) (owns_dt (g := g) (i := i) fun y e => h y (by simpa using e))
mutual
theorem tgt_owns : ∀ (t : Tgt) {d : PyData} {g : Gm} {PQ : Gm → Prop}, (∀ j ∈ tgV t, ∀ x, g[j]? = some x → ownsOf x = []) → pTgt t d g PQ → pTgt t d g fun g' => PQ g' ∧ owns g' = owns g ∧ ∀ (j : Nat) (x : Option Sl), g'[j]? = some x → ownsOf x ≠ [] → g[j]? = some x
  | .name i, d, g, PQ, no, h => by
    unfold pTgt at h ⊢
    have n1 : ∀ x, g[i]? = some x → ownsOf x = [] := no i (by unfold tgV; exact .head _)
    refine ⟨h, owns_dt n1, fun j x e hx => ?_⟩
    by_cases z : i = j
    · subst z
      rw [List.getElem?_set_self'] at e
      cases q : g[i]? with
      | none => rw [q] at e; cases e
      | some u => rw [q] at e; cases e; exact (hx rfl).elim
    · rwa [List.getElem?_set_ne z] at e
  | .tup ts, d, g, PQ, no, h => by
    cases d with
    | tuple ds =>
      unfold pTgt at h ⊢
      exact tgts_owns ts (fun j hj => no j (by unfold tgV; exact hj)) h
    | none => unfold pTgt at h; exact h.elim
    | bool _ => unfold pTgt at h; exact h.elim
    | int _ => unfold pTgt at h; exact h.elim
    | str _ => unfold pTgt at h; exact h.elim
    | list _ => unfold pTgt at h; exact h.elim
    | dict _ => unfold pTgt at h; exact h.elim
theorem tgts_owns : ∀ (ts : Tgts) {ds : List PyData} {g : Gm} {PQ : Gm → Prop}, (∀ j ∈ tgsV ts, ∀ x, g[j]? = some x → ownsOf x = []) → pTgts ts ds g PQ → pTgts ts ds g fun g' => PQ g' ∧ owns g' = owns g ∧ ∀ (j : Nat) (x : Option Sl), g'[j]? = some x → ownsOf x ≠ [] → g[j]? = some x
  | .nil, ds, g, PQ, no, h => by
    cases ds with
    | nil => unfold pTgts at h ⊢; exact ⟨h, rfl, fun _ _ z _ => z⟩
    | cons _ _ => unfold pTgts at h; exact h.elim
  | .cons t ts, ds, g, PQ, no, h => by
    cases ds with
    | nil => unfold pTgts at h; exact h.elim
    | cons d ds =>
      unfold pTgts at h ⊢
      have h2 := tgt_owns t (fun j hj => no j (by unfold tgsV; exact List.mem_append_left _ hj)) h
      refine tgt_mono t h2 fun g1 ⟨q1, o1, k1⟩ => ?_
      refine tgts_mono ts (tgts_owns ts (fun j hj x e => by
        by_cases hx : ownsOf x = []
        · exact hx
        · exact no j (by unfold tgsV; exact List.mem_append_right _ hj) x (k1 j x e hx)) q1) fun g2 ⟨q2, o2, k2⟩ => ⟨q2, o2.trans o1, fun j x e hx => k1 j x (k2 j x e hx) hx⟩
theorem tgt_mono : ∀ (t : Tgt) {d : PyData} {g : Gm} {PQ PQ' : Gm → Prop}, pTgt t d g PQ → (∀ g', PQ g' → PQ' g') → pTgt t d g PQ'
  | .name i, d, g, PQ, PQ', h, k => by
    unfold pTgt at h ⊢
    exact k _ h
  | .tup ts, d, g, PQ, PQ', h, k => by
    cases d with
    | tuple ds =>
      unfold pTgt at h ⊢
      exact tgts_mono ts h k
    | none => unfold pTgt at h; exact h.elim
    | bool _ => unfold pTgt at h; exact h.elim
    | int _ => unfold pTgt at h; exact h.elim
    | str _ => unfold pTgt at h; exact h.elim
    | list _ => unfold pTgt at h; exact h.elim
    | dict _ => unfold pTgt at h; exact h.elim
theorem tgts_mono : ∀ (ts : Tgts) {ds : List PyData} {g : Gm} {PQ PQ' : Gm → Prop}, pTgts ts ds g PQ → (∀ g', PQ g' → PQ' g') → pTgts ts ds g PQ'
  | .nil, ds, g, PQ, PQ', h, k => by
    cases ds with
    | nil => unfold pTgts at h ⊢; exact k _ h
    | cons _ _ => unfold pTgts at h; exact h.elim
  | .cons t ts, ds, g, PQ, PQ', h, k => by
    cases ds with
    | nil => unfold pTgts at h; exact h.elim
    | cons d ds =>
      unfold pTgts at h ⊢
      exact tgt_mono t h fun g1 q1 => tgts_mono ts q1 k
end
theorem wipeG_no {g : Gm} : ∀ {vs : List Nat} {j : Nat}, j ∈ vs → ∀ x, (wipeG g vs)[j]? = some x → ownsOf x = []
  | [], _, h, _ => by cases h
  | v :: vs, j, h, x => fun e => by
    rw [wipeG] at e
    by_cases z : v = j
    · subst z
      rw [List.getElem?_set_self'] at e
      cases q : (wipeG g vs)[v]? with
      | none => rw [q] at e; cases e
      | some u => rw [q] at e; cases e; rfl
    · rw [List.getElem?_set_ne z] at e
      exact wipeG_no ((List.mem_cons.mp h).resolve_left fun q => z q.symm) x e
def Comp (t : Tgt) (pt : GT) (pe : GE) (gw : Gm) (PX : Er → Prop) (k : List PyData → Prop) : List PyData → List PyData → Prop
  | acc, [] => k acc
  | acc, x :: xs => pTgt t x gw fun g' => pt g' PX fun b => (b = true → pe g' PX fun r => match r with
      | .v t2 d => t2.ok = true ∧ acc.length < sizeLine ∧ Comp t pt pe gw PX k (acc ++ [d]) xs
      | .obj _ => False) ∧ (b = false → Comp t pt pe gw PX k acc xs)
def pLc (pi : GI) (t : Tgt) (pt : GT) (pe : GE) (vs : List Nat) : GE := fun g PX Q => owns (wipeG g vs) = owns g ∧ pi g PX fun items => Comp t pt pe (wipeG g vs) PX (fun out => Q (.v .fr (.list out))) [] items
theorem Wx.at {PX : Er → Prop} {σ' : L2.St} (hw : ∀ cls d H2, W cls d σ H2 → W cls d σ' H2) (h : Wx K W F σ H PX) : Wx K W F σ' H PX := fun e cls d H2 s r p => hw _ _ _ (h e cls d H2 s r p)
/-- the wish does not look at the slots -/
def NoSlot (W : WX) : Prop := ∀ cls d σ σ' H, W cls d σ H → W cls d σ' H
theorem le_lc {wi : TI} {tt : TT} {te : TE} {vs : List Nat} {pi : GI} {pt : GT} {pe : GE} (t : Tgt) (hs : ∀ j, j ∈ tgV t → j ∈ vs) (hW : NoSlot W) (hi : LI K Ps W wi pi) (ht : LT K Ps W tt pt) (he : LE K Ps W te pe) :
    LE K Ps W (tLc wi (tgT K t) tt te vs) (pLc pi t pt pe vs) := fun F g σ H Q PX PQ I w h k =>
  hi F g σ H _ _ _ I w h.2 fun J H1 items e1 wk q => fun D hD => by
    have how := h.1
    have I1 := I.step e1
    obtain ⟨s1, hnD, hDn, hv⟩ := new_in (o := .lst []) I1 (Sm.refl H1) hD
    have nF : NewTo F.H0 D := hnD.back I1.sm
    have J0 := (Env.hide (vs := []) I1 hD).wipe vs
    refine ⟨fun i m H' => m = items.length - i ∧ i ≤ items.length ∧ Env K Ps ⟨F.H0, D :: F.L0⟩ (wipeG g vs) (wipe σ vs) H' ∧ Sm H1 H' ∧ ∃ ws acc, H' D = some (.lst ws) ∧ RpAll K (off H' (D :: (F.L0 ++ owns g))) ws acc ∧
      Sm (off H1 (F.L0 ++ owns g)) (off H' (D :: (F.L0 ++ owns g))) ∧ Comp t pt pe (wipeG g vs) PX (fun out => PQ (.v .fr (.list out))) acc (items.drop i), ⟨items.length, by simp, Nat.zero_le _, J0, s1, [], [], upd_same, .nil, hv _, by rw [List.drop_zero]; exact q⟩, ?_⟩
    rintro i m H' ⟨rfl, hi, J', e', ws, acc, hws, hacc, st, q⟩
    by_cases hlt : i < items.length
    · refine .inr ⟨wk.go i H' _ hlt st, fun H2 => Env K Ps ⟨F.H0, D :: F.L0⟩ (wipeG g vs) (wipe σ vs) H2 ∧ Sm H1 H2 ∧ ∃ ws acc, H2 D = some (.lst ws) ∧ RpAll K (off H2 (D :: (F.L0 ++ owns g))) ws acc ∧
        Sm (off H1 (F.L0 ++ owns g)) (off H2 (D :: (F.L0 ++ owns g))) ∧ Comp t pt pe (wipeG g vs) PX (fun out => PQ (.v .fr (.list out))) acc (items.drop (i + 1)), fun H2 z => ⟨items.length - (i + 1), by omega, rfl, hlt, z⟩, fun x H2 y => ?_⟩
      have hL : ∀ q ∈ D :: (F.L0 ++ owns g), Hid H' q := fun q hq => hidden J' (by rw [how]; exact hq)
      obtain ⟨s, d, hd, hr⟩ := wk.yld i H' _ x H2 hlt st hL y
      rw [drop_get hd] at q
      have hr' : Rp K (off H2 (D :: F.L0 ++ owns (wipeG g vs))) x d := by rw [how]; exact hr
      refine tgt_ok t (J'.step s) hr' (tgt_owns t (fun j hj => wipeG_no (hs j hj)) q) fun g2 σ2 I2 _ hj hn ⟨q2, ho2, _⟩ => ⟨wipe_of hs hn hj, ?_⟩
      have w2 : ∀ {H3}, Sm H1 H3 → Wx K W ⟨F.H0, D :: F.L0⟩ σ2 H3 PX := fun {H3} e3 er cls d H4 s4 r4 p4 => hW _ _ _ _ _ (w er cls d H4 ((e1.trans e3).trans s4) (r4.sub fun a z => .tail _ z) p4)
      refine ht _ g2 σ2 H2 _ PX _ I2 (w2 (e'.trans s)) q2 fun b H3 e3 q3 => ?_
      have s3 := s.trans e3
      cases b with
      | false =>
        refine iteF ⟨J'.step s3, e'.trans s3, ws, acc, s3.l hws, hacc.mono (sm_off s3 fun _ z => .inl z), st.trans (sm_off s3 fun _ z => .inl z), q3.2 rfl⟩
      | true =>
        refine iteT (he _ g2 σ2 H3 _ PX _ (I2.step e3) (w2 (e'.trans s3)) (q3.1 rfl) fun r y H4 e4 r4 q4 => ?_)
        split at q4
        · next t d2 =>
          have s4 := s3.trans e4
          refine ⟨ws, s4.l hws, by rw [hacc.length]; exact q4.2.1, (J'.step s4).hid_upd (.head _) nF, sm_upd (e'.trans s4) (NewTo.none hD), ws ++ [y], acc ++ [d2], upd_same, ?_, ?_, q4.2.2⟩
          · rw [off_upd (.head _)]
            refine (hacc.mono (sm_off s4 fun _ z => .inl z)).append (.cons ?_ .nil)
            have hy := r4.dat (I2.step e3) e4 q4.1
            rw [ho2, how] at hy
            exact hy
          · rw [off_upd (.head _)]
            exact st.trans (sm_off s4 fun _ z => .inl z)
        · exact q4.elim
    · have : i = items.length := by omega
      subst this
      rw [List.drop_length] at q
      exact .inl ⟨wk.stop H' _ st, k (.v .fr (.list acc)) _ _ (e1.trans e') ⟨D, ws, acc, rfl, rfl, hnD.back e1, hws, hacc⟩ q⟩
end
end PV

namespace PV
open PySem PySem.Spec PyProof.Rows L2 Cm
open GX (Sm)
section
variable {K : PySem.W.Frag} {Ps : List Addr} {W : WX} {F : Fr} {g : Gm} {σ : L2.St} {H H1 H2 : Hp}
/-! ##### generator expressions in any, all, sum -/
/-- more slots, all empty -/
theorem Slots.more {V0 : Hp} {n : Nat} : ∀ {g : Gm} {s : L2.St}, Slots K H V0 g s → Slots K H V0 (g ++ List.replicate n none) (s ++ List.replicate n none)
  | [], [], _ => by
    induction n with
    | zero => exact trivial
    | succ n ih => exact ih
  | none :: g, _ :: s, h => Slots.more (g := g) (s := s) h
  | some x :: g, v :: s, h => ⟨h.1, Slots.more (g := g) (s := s) h.2⟩
theorem owns_more {n : Nat} : ∀ {g : Gm}, owns (g ++ List.replicate n none) = owns g
  | [] => by
    induction n with
    | zero => rfl
    | succ n ih => exact ih
  | x :: g => congrArg (ownsOf x ++ ·) (owns_more (g := g))
theorem Env.more (I : Env K Ps F g σ H) (n : Nat) : Env K Ps F (g ++ List.replicate n none) (σ ++ List.replicate n none) H := by
  refine ⟨?_, I.sm, I.tb, I.hd, by rw [owns_more]; exact I.nd, fun q z => by rw [owns_more] at z; exact I.nw q z⟩
  rw [owns_more]
  exact I.sl.more
def gG (g : Gm) (own : List (Str × Nat)) (ext : List Str) : Gm := wipeG (g ++ List.replicate ext.length none) (own.map (·.2))
theorem Env.gen (I : Env K Ps F g σ H) (own : List (Str × Nat)) (ext : List Str) : Env K Ps F (gG g own ext) (GX.gS σ own ext) H := by
  unfold gG GX.gS
  rw [List.map_const']
  exact (I.more ext.length).wipe _
def GenB (stop : Bool) (t : Tgt) (pe : GE) (gw : Gm) (PX : Er → Prop) (Q : Rs → Prop) : List PyData → Prop
  | [] => Q (.v .dat (.bool (!stop)))
  | x :: xs => pTgt t x gw fun g' => pe g' PX fun r => bD r fun b => (b = stop → Q (.v .dat (.bool stop))) ∧ (b = (!stop) → GenB stop t pe gw PX Q xs)
def pGen (stop : Bool) (pi : GI) (t : Tgt) (pe : GE) (own : List (Str × Nat)) (ext : List Str) : GE := fun g PX Q => owns (gG g own ext) = owns g ∧ pi g PX fun items => GenB stop t pe (gG g own ext) PX Q items
theorem gen_side (I : Env K Ps F g σ H) (e1 : Sm H H1) {P : Addr} (hP : P ∈ Ps) (e2 : GxR.Tabbed P H1 H2) : Sm H1 H2 := Sm.tabbed ((I.step e1).tb P hP) e2
theorem le_gen {wi : TI} {te : TE} {pi : GI} {pe : GE} {P : Addr} {own : List (Str × Nat)} {ext : List Str} {stop : Bool} (t : Tgt) (hP : P ∈ Ps) (hW : NoSlot W) (hi : LI K Ps W wi pi) (he : LE K Ps W te pe) :
    LE K Ps W (GX.tGen P wi (tgT K t) te own ext stop) (pGen stop pi t pe own ext) := fun F g σ H Q PX PQ I w h k =>
  hi F g σ H _ _ _ I w h.2 fun J H1 items e1 wk q => ⟨(I.step e1).tb P hP, fun H2 tb => by
    have how := h.1
    have s12 := gen_side I e1 hP tb
    have e2 := e1.trans s12
    have J0 := (I.step e2).gen own ext
    refine ⟨fun i m H' => m = items.length - i ∧ i ≤ items.length ∧ Sm H2 H' ∧ GenB stop t pe (gG g own ext) PX PQ (items.drop i), ⟨items.length, by simp, Nat.zero_le _, Sm.refl H2, by rw [List.drop_zero]; exact q⟩, ?_⟩
    rintro i m H' ⟨rfl, hi, e', q⟩
    have st : Sm (off H1 (F.L0 ++ owns g)) (off H' (F.L0 ++ owns g)) := sm_off (s12.trans e') fun _ z => .inl z
    have J' := J0.step e'
    by_cases hlt : i < items.length
    · refine .inr ⟨wk.go i H' _ hlt st, fun H3 => Sm H2 H3 ∧ GenB stop t pe (gG g own ext) PX PQ (items.drop (i + 1)), fun H3 z => ⟨items.length - (i + 1), by omega, rfl, hlt, z⟩, fun x H3 y => ?_⟩
      obtain ⟨s, d, hd, hr⟩ := wk.yld i H' _ x H3 hlt st (fun q hq => hidden (I.step (e2.trans e')) hq) y
      rw [drop_get hd] at q
      have hr' : Rp K (off H3 (F.L0 ++ owns (gG g own ext))) x d := by rw [how]; exact hr
      refine tgt_ok t (J'.step s) hr' q fun g2 σ2 I2 _ _ _ q2 => ?_
      have w2 : Wx K W F σ2 H3 PX := fun er cls d H4 s4 r4 p4 => hW _ _ _ _ _ (w er cls d H4 (((e2.trans e').trans s).trans s4) r4 p4)
      refine he _ g2 σ2 H3 _ PX _ I2 w2 q2 fun r v H4 e4 r4 q4 => ?_
      have e4' := (e'.trans s).trans e4
      obtain ⟨b, rfl, q5, q6⟩ := bD_of I2 e4 r4 q4
      refine ⟨b, rfl, ?_⟩
      by_cases z : b = stop
      · rw [if_pos z]
        exact k _ _ _ (e2.trans e4') (rs_dat (.bl _)) (q5 z)
      · rw [if_neg z]
        exact ⟨e4', q6 (by cases b <;> cases stop <;> first | rfl | exact absurd rfl z)⟩
    · have : i = items.length := by omega
      subst this
      rw [List.drop_length] at q
      exact .inl ⟨wk.stop H' _ st, k _ _ _ (e2.trans e') (rs_dat (.bl _)) q⟩⟩
def GenS (t : Tgt) (pt : GT) (pe : GE) (gw : Gm) (PX : Er → Prop) (Q : Rs → Prop) : Int → List PyData → Prop
  | a, [] => Q (.v .dat (.int a))
  | a, x :: xs => pTgt t x gw fun g' => pt g' PX fun c => (c = true → pe g' PX fun r => match r with
      | .v _ (.int b) => GenS t pt pe gw PX Q (a + b) xs
      | _ => False) ∧ (c = false → GenS t pt pe gw PX Q a xs)
def pYes : GT := fun _ _ Q => Q true
theorem lt_yes : LT K Ps W tYes pYes := fun F g σ H Q PX PQ I _ q k => k _ _ (Sm.refl H) q
def pSum (pi : GI) (t : Tgt) (pt : GT) (pe : GE) (own : List (Str × Nat)) (ext : List Str) : GE := fun g PX Q => owns (gG g own ext) = owns g ∧ pi g PX fun items => GenS t pt pe (gG g own ext) PX Q 0 items
theorem le_sumF {wi : TI} {te : TE} {tt : TT} {pi : GI} {pt : GT} {pe : GE} {P : Addr} {own : List (Str × Nat)} {ext : List Str} (t : Tgt) (hP : P ∈ Ps) (hW : NoSlot W) (hi : LI K Ps W wi pi) (ht : LT K Ps W tt pt) (he : LE K Ps W te pe) :
    LE K Ps W (GX.tSumF P wi (tgT K t) te tt own ext) (pSum pi t pt pe own ext) := fun F g σ H Q PX PQ I w h k =>
  hi F g σ H _ _ _ I w h.2 fun J H1 items e1 wk q => ⟨(I.step e1).tb P hP, fun H2 tb => by
    have how := h.1
    have s12 := gen_side I e1 hP tb
    have e2 := e1.trans s12
    have J0 := (I.step e2).gen own ext
    refine ⟨fun i m a H' => m = items.length - i ∧ i ≤ items.length ∧ Sm H2 H' ∧ GenS t pt pe (gG g own ext) PX PQ a (items.drop i), ⟨items.length, by simp, Nat.zero_le _, Sm.refl H2, by rw [List.drop_zero]; exact q⟩, ?_⟩
    rintro i m a H' ⟨rfl, hi, e', q⟩
    have st : Sm (off H1 (F.L0 ++ owns g)) (off H' (F.L0 ++ owns g)) := sm_off (s12.trans e') fun _ z => .inl z
    have J' := J0.step e'
    by_cases hlt : i < items.length
    · refine .inr ⟨wk.go i H' _ hlt st, fun a H3 => Sm H2 H3 ∧ GenS t pt pe (gG g own ext) PX PQ a (items.drop (i + 1)), fun a H3 z => ⟨items.length - (i + 1), by omega, rfl, hlt, z⟩, fun x H3 y => ?_⟩
      obtain ⟨s, d, hd, hr⟩ := wk.yld i H' _ x H3 hlt st (fun q hq => hidden (I.step (e2.trans e')) hq) y
      rw [drop_get hd] at q
      have hr' : Rp K (off H3 (F.L0 ++ owns (gG g own ext))) x d := by rw [how]; exact hr
      refine tgt_ok t (J'.step s) hr' q fun g2 σ2 I2 _ _ _ q2 => ?_
      have w2 : ∀ {H5}, Sm H3 H5 → Wx K W F σ2 H5 PX := fun {H5} e5 er cls d H4 s4 r4 p4 => hW _ _ _ _ _ (w er cls d H4 ((((e2.trans e').trans s).trans e5).trans s4) r4 p4)
      refine ht _ g2 σ2 H3 _ PX _ I2 (w2 (Sm.refl _)) q2 fun c H5 e5 q5 => ?_
      have e5' := (e'.trans s).trans e5
      cases c with
      | false => exact iteF ⟨e5', q5.2 rfl⟩
      | true =>
        refine iteT (he _ g2 σ2 H5 _ PX _ (I2.step e5) (w2 e5) (q5.1 rfl) fun r v H4 e4 r4 q4 => ?_)
        split at q4
        · next t2 b =>
          cases r4.rp (I2.step e5) e4
          exact ⟨b, rfl, e5'.trans e4, q4⟩
        · exact q4.elim
    · have : i = items.length := by omega
      subst this
      rw [List.drop_length] at q
      exact .inl ⟨wk.stop H' _ st, k _ _ _ (e2.trans e') (rs_dat (.int _)) q⟩⟩
theorem le_sumG {wi : TI} {te : TE} {pi : GI} {pe : GE} {P : Addr} {own : List (Str × Nat)} {ext : List Str} (t : Tgt) (hP : P ∈ Ps) (hW : NoSlot W) (hi : LI K Ps W wi pi) (he : LE K Ps W te pe) :
    LE K Ps W (GX.tSumG P wi (tgT K t) te own ext) (pSum pi t pYes pe own ext) := fun F g σ H Q PX PQ I w h k =>
  hi F g σ H _ _ _ I w h.2 fun J H1 items e1 wk q => ⟨(I.step e1).tb P hP, fun H2 tb => by
    have how := h.1
    have s12 := gen_side I e1 hP tb
    have e2 := e1.trans s12
    have J0 := (I.step e2).gen own ext
    refine ⟨fun i m a H' => m = items.length - i ∧ i ≤ items.length ∧ Sm H2 H' ∧ GenS t pYes pe (gG g own ext) PX PQ a (items.drop i), ⟨items.length, by simp, Nat.zero_le _, Sm.refl H2, by rw [List.drop_zero]; exact q⟩, ?_⟩
    rintro i m a H' ⟨rfl, hi, e', q⟩
    have st : Sm (off H1 (F.L0 ++ owns g)) (off H' (F.L0 ++ owns g)) := sm_off (s12.trans e') fun _ z => .inl z
    have J' := J0.step e'
    by_cases hlt : i < items.length
    · refine .inr ⟨wk.go i H' _ hlt st, fun a H3 => Sm H2 H3 ∧ GenS t pYes pe (gG g own ext) PX PQ a (items.drop (i + 1)), fun a H3 z => ⟨items.length - (i + 1), by omega, rfl, hlt, z⟩, fun x H3 y => ?_⟩
      obtain ⟨s, d, hd, hr⟩ := wk.yld i H' _ x H3 hlt st (fun q hq => hidden (I.step (e2.trans e')) hq) y
      rw [drop_get hd] at q
      have hr' : Rp K (off H3 (F.L0 ++ owns (gG g own ext))) x d := by rw [how]; exact hr
      refine tgt_ok t (J'.step s) hr' q fun g2 σ2 I2 _ _ _ q2 => ?_
      have w2 : ∀ {H5}, Sm H3 H5 → Wx K W F σ2 H5 PX := fun {H5} e5 er cls d H4 s4 r4 p4 => hW _ _ _ _ _ (w er cls d H4 ((((e2.trans e').trans s).trans e5).trans s4) r4 p4)
      refine he _ g2 σ2 H3 _ PX _ I2 (w2 (Sm.refl _)) (q2.1 rfl) fun r v H4 e4 r4 q4 => ?_
      split at q4
      · next t2 b =>
        cases r4.rp I2 e4
        exact ⟨b, rfl, (e'.trans s).trans e4, q4⟩
      · exact q4.elim
    · have : i = items.length := by omega
      subst this
      rw [List.drop_length] at q
      exact .inl ⟨wk.stop H' _ st, k _ _ _ (e2.trans e') (rs_dat (.int _)) q⟩⟩
/-! ##### raising -/
def pRaise (e : Er) : GS := fun PD g => PD.ex g e
theorem ls_raise {C : Addr} : LS K Ps W (fun _ σ H => W (.ref C) none σ H) (pRaise ⟨C, none⟩) := fun F D σ H PD g I E h => E.ex g σ H _ _ _ I ⟨rfl, rfl⟩ h
def pRaise1 (pa : GE) (e : Er) : GS := fun PD g => pa g (PD.ex g) fun _ => PD.ex g e
theorem ls_raise1 {C : Addr} {ta : TE} {pa : GE} (ha : LE K Ps W ta pa) : LS K Ps W (fun _ σ H => ta σ H fun _ H1 => W (.ref C) none σ H1) (pRaise1 pa ⟨C, none⟩) := fun F D σ H PD g I E h =>
  ha F g σ H _ _ _ I (E.wx I) h fun r v H1 e1 r1 h1 => E.ex g σ H1 _ _ _ (I.step e1) ⟨rfl, rfl⟩ h1
/-! ##### defs -/
/-- the slots of a call -/
def slA : Rs → Option Sl
  | .v _ d => some (.dat d)
  | .obj A => some (.obj A)
def startG (n : Nat) (as : List Rs) : Gm := as.map slA ++ List.replicate (n - as.length) none
theorem ArgsR.length {V0 : Hp} {vs : List V} {as : List Rs} (h : ArgsR K V0 vs as) : vs.length = as.length := by
  induction h with
  | nil => rfl
  | dat _ _ ih => simp [ih]
  | obj _ _ ih => simp [ih]
theorem owns_start {n : Nat} {V0 : Hp} {vs : List V} {as : List Rs} (h : ArgsR K V0 vs as) : owns (startG n as) = [] := by
  unfold startG
  rw [owns_more]
  induction h with
  | nil => rfl
  | dat _ _ ih => exact ih
  | obj _ _ ih => exact ih
theorem start_ok {L0 : List Addr} {N : List Str} {vs : List V} {as : List Rs} (h1 : ∀ q ∈ L0, Hid H q) (h2 : ArgsR K (off H L0) vs as) (h3 : ∀ P ∈ Ps, GxR.TabG H P) : Env K Ps ⟨H, L0⟩ (startG N.length as) (L2.start N vs) H := by
  have e := owns_start (n := N.length) h2
  refine ⟨?_, Sm.refl H, h3, h1, by rw [e]; exact List.nodup_nil, fun q z => by rw [e] at z; cases z⟩
  rw [e, List.append_nil]
  unfold startG L2.start
  rw [h2.length]
  refine Slots.more ?_
  clear e
  induction h2 with
  | nil => exact trivial
  | dat a _ ih => exact ⟨⟨_, rfl, a⟩, ih⟩
  | obj a _ ih => exact ⟨⟨_, rfl, a⟩, ih⟩
def W0 : WX := fun _ _ _ _ => False
theorem ns0 : NoSlot W0 := fun _ _ _ _ _ z => z
def WE (E : XK) : WX := fun cls d _ H => E cls d H
theorem nsE {E : XK} : NoSlot (WE E) := fun _ _ _ _ _ z => z
def ends (PQ : Rs → Prop) (PX : Er → Prop) : GEnds := ⟨fun _ => PQ (.v .dat .none), PQ, fun _ => False, fun _ => False, fun _ => PX⟩
theorem ends_ok {L0 : List Addr} {Q : VK} {E : XK} {PQ : Rs → Prop} {PX : Er → Prop} (k : ∀ r v H2, Sm H H2 → RsR K ⟨H, L0⟩ [] H H2 v r → PQ r → Q v H2) (x : ∀ e cls d H2, Sm H H2 → ErR K L0 H2 e cls d → PX e → E cls d H2) :
    Ends' K Ps (WE E) ⟨H, L0⟩ (ends PQ PX) { nx := fun _ H' => Q .non H', rt := Q } :=
  ⟨fun g σ H' I q => k _ _ H' I.sm (rs_dat .non) q, fun _ _ _ _ z => z.elim, fun _ _ _ _ z => z.elim, fun r v H' s h q => k r v H' s h q, fun g σ H' e cls d I h p => x e cls d H' I.sm h p⟩
theorem ends_ok0 {L0 : List Addr} {Q : VK} {PQ : Rs → Prop} (k : ∀ r v H2, Sm H H2 → RsR K ⟨H, L0⟩ [] H H2 v r → PQ r → Q v H2) :
    Ends' K Ps W0 ⟨H, L0⟩ (ends PQ fun _ => False) { nx := fun _ H' => Q .non H', rt := Q } :=
  ⟨fun g σ H' I q => k _ _ H' I.sm (rs_dat .non) q, fun _ _ _ _ z => z.elim, fun _ _ _ _ z => z.elim, fun r v H' s h q => k r v H' s h q, fun g σ H' e cls d I h p => p.elim⟩
variable {P : Program} {w : World} {mg : Str → Option Value} {base : Heap} {x qual : Str} {st : Stmt} {f : Addr} {fd : FuncData} {N ps : List Str} {k : Nat} {psp : PSp}
/-- a def that lets nothing out -/
theorem pv_fn (Fn : Fun K x qual st f fd) (S : FnScope N ps (defScope st)) (len : ∀ as PX PQ, psp as PX PQ → as.length = ps.length)
    (hb : ∀ (cdv : Value) (A : Around) (outer : List PySem.Env) (s : Shared) (H : Hp) (E : XK), Room k (A.deeper (envOfC qual (defScope st) s.heap.objs.size f cdv)) →
      ∃ t p, PSs (cxOf CX0 P w K mg base N qual (defScope st) f cdv A outer s H E).nox (defBody st) t ∧ LS K Ps W0 t p ∧ ∀ as PX PQ, psp as PX PQ → p (ends PQ fun _ => False) (startG N.length as)) :
    FnOk P w K mg base CX0 (k + 1) f fd ps (spP K Ps psp) := by
  refine Fn.ok S (fun vs H Q E h => ?_) fun cdv A outer s H vs Q E hr h => ?_
  · obtain ⟨L0, as, PX, PQ, h1, h2, h3, h4, h5, h6⟩ := h
    rw [h2.length]
    exact len as PX PQ h4
  · obtain ⟨L0, as, PX, PQ, h1, h2, h3, h4, h5, h6⟩ := h
    obtain ⟨t, p, ht, hl, hp⟩ := hb cdv A outer s H E hr
    exact ⟨t, ht, hl ⟨H, L0⟩ _ _ H _ _ (start_ok h1 h2 h3) (ends_ok0 h5) (hp as PX PQ h4)⟩
/-- a def that errors leave -/
theorem pv_fnX (Fn : Fun K x qual st f fd) (S : FnScope N ps (defScope st)) (len : ∀ as PX PQ, psp as PX PQ → as.length = ps.length)
    (hb : ∀ (cdv : Value) (A : Around) (outer : List PySem.Env) (s : Shared) (H : Hp) (E : XK), Room k (A.deeper (envOfC qual (defScope st) s.heap.objs.size f cdv)) →
      ∃ t p, PSs (cxOf (CXN P w) P w K mg base N qual (defScope st) f cdv A outer s H E) (defBody st) t ∧ LS K Ps (WE E) t p ∧ ∀ as PX PQ, psp as PX PQ → p (ends PQ PX) (startG N.length as)) :
    FnOk P w K mg base (CXN P w) (k + 1) f fd ps (spP K Ps psp) := by
  refine okN Fn S (fun vs H Q E h => ?_) fun cdv A outer s H vs Q E hr h => ?_
  · obtain ⟨L0, as, PX, PQ, h1, h2, h3, h4, h5, h6⟩ := h
    rw [h2.length]
    exact len as PX PQ h4
  · obtain ⟨L0, as, PX, PQ, h1, h2, h3, h4, h5, h6⟩ := h
    obtain ⟨t, p, ht, hl, hp⟩ := hb cdv A outer s H E hr
    exact ⟨t, ht, hl ⟨H, L0⟩ _ _ H _ _ (start_ok h1 h2 h3) (ends_ok h5 h6) (hp as PX PQ h4)⟩
theorem pv_def (d : Dn K mg x st ps) (S : FnScope N ps (defScope st)) (len : ∀ as PX PQ, psp as PX PQ → as.length = ps.length)
    (hb : ∀ (f : Addr) (cdv : Value) (A : Around) (outer : List PySem.Env) (s : Shared) (H : Hp) (E : XK), Room k (A.deeper (envOfC x (defScope st) s.heap.objs.size f cdv)) →
      ∃ t p, PSs (cxOf CX0 P w K mg base N x (defScope st) f cdv A outer s H E).nox (defBody st) t ∧ LS K Ps W0 t p ∧ ∀ as PX PQ, psp as PX PQ → p (ends PQ fun _ => False) (startG N.length as)) :
    Ok P w K mg base CX0 (k + 1) x ps (spP K Ps psp) := ok_of d fun f fd Fn => pv_fn Fn S len (hb f)
theorem pv_defX (d : Dn K mg x st ps) (S : FnScope N ps (defScope st)) (len : ∀ as PX PQ, psp as PX PQ → as.length = ps.length)
    (hb : ∀ (f : Addr) (cdv : Value) (A : Around) (outer : List PySem.Env) (s : Shared) (H : Hp) (E : XK), Room k (A.deeper (envOfC x (defScope st) s.heap.objs.size f cdv)) →
      ∃ t p, PSs (cxOf (CXN P w) P w K mg base N x (defScope st) f cdv A outer s H E) (defBody st) t ∧ LS K Ps (WE E) t p ∧ ∀ as PX PQ, psp as PX PQ → p (ends PQ PX) (startG N.length as)) :
    Ok P w K mg base (CXN P w) (k + 1) x ps (spP K Ps psp) := ok_of d fun f fd Fn => pv_fnX Fn S len (hb f)
/-- a def with a generator expression -/
theorem pv_defC {c : Addr} {CX : CXT} (d : GX.DnC K mg x st ps c) (S : FnScope N ps (defScope st)) (len : ∀ as PX PQ, psp as PX PQ → as.length = ps.length)
    (hb : ∀ (f : Addr) (A : Around) (outer : List PySem.Env) (s : Shared) (H : Hp) (E : XK), Room k (A.deeper (envOfC x (defScope st) s.heap.objs.size f (.ref c))) →
      ∃ t p, PSs (cxOf CX P w K mg base N x (defScope st) f (.ref c) A outer s H E) (defBody st) t ∧ LS K Ps (WE E) t p ∧ ∀ as PX PQ, psp as PX PQ → p (ends PQ PX) (startG N.length as)) :
    Ok P w K mg base CX (k + 1) x ps (spP K Ps psp) := by
  refine GX.okc_of d S (fun vs H Q E h => ?_) fun f A outer s H vs Q E hr h => ?_
  · obtain ⟨L0, as, PX, PQ, h1, h2, h3, h4, h5, h6⟩ := h
    rw [h2.length]
    exact len as PX PQ h4
  · obtain ⟨L0, as, PX, PQ, h1, h2, h3, h4, h5, h6⟩ := h
    obtain ⟨t, p, ht, hl, hp⟩ := hb f A outer s H E hr
    exact ⟨t, ht, hl ⟨H, L0⟩ _ _ H _ _ (start_ok h1 h2 h3) (ends_ok h5 h6) (hp as PX PQ h4)⟩
end
end PV

namespace PV
open PySem PySem.Spec PyProof.Rows L2 Cm
open GX (Sm)
section
variable {K : PySem.W.Frag} {Ps : List Addr} {W : WX} {F : Fr} {g : Gm} {σ : L2.St} {H H1 H2 : Hp}
/-! ##### constants, texts, turns of lists -/
theorem rpAll_dV : ∀ {vs : List V}, vs.all flatV = true → RpAll K H vs (vs.map dV)
  | [], _ => .nil
  | v :: vs, h => by
    rw [List.all_cons, Bool.and_eq_true] at h
    exact .cons (rp_dV h.1) (rpAll_dV h.2)
theorem le_globT {vs : List V} (h : vs.all flatV = true) : LE K Ps W (fun _ H Q => ∀ p, (∀ H', SqT K H' p vs) → Q (.ref p) H) (pC (.tuple (vs.map dV))) := fun F g σ H Q PX PQ I _ q k p hp => k _ _ _ (Sm.refl H) (rs_dat (.tup (hp _) (rpAll_dV h))) q
def pRevL (pa : GE) : GE := fun g PX Q => pa g PX fun x => match x with
  | .v t (.list ds) => Q (.v (if t.d then .fr else .bor) (.list ds.reverse))
  | _ => False
theorem le_revL {te : TE} {pa : GE} (ha : LE K Ps W te pa) : LE K Ps W (tRevL K te) (pRevL pa) := fun F g σ H Q PX PQ I w h k =>
  ha F g σ H _ PX _ I w h fun x v H1 e r h3 => by
    split at h3
    · next t ds =>
      obtain ⟨p, vs, rfl, hp, a1, a2⟩ := r.items I e
      refine ⟨p, vs, rfl, SqL.of hp, fun q hq => k _ _ _ (e.trans (new_in (o := .lst vs.reverse) I e hq).1) ?_ h3⟩
      split
      · next z => exact rs_fr I e hq (a2 (it_d z)).reverse
      · exact rs_bor I e hq a1.reverse
    · exact h3.elim
def pSlS (pa : GE) (lo hi : GO) : GE := fun g PX Q => pa g PX fun x => lo g PX fun l => hi g PX fun u => match x with
  | .v _ (.str z) => z.length ≤ sizeLine ∧ Q (.v .dat (.str (cutS z l u)))
  | _ => False
theorem le_slS {te : TE} {tl th : TO} {pa : GE} {lo hi : GO} (ha : LE K Ps W te pa) (hl : LO K Ps W tl lo) (hh : LO K Ps W th hi) : LE K Ps W (tSl rSlS te tl th) (pSlS pa lo hi) := fun F g σ H Q PX PQ I w h k =>
  ha F g σ H _ PX _ I w h fun x v H1 e1 r1 h1 => hl F g σ H1 _ PX _ (I.step e1) (w.step e1) h1 fun l H2 e2 h2 => hh F g σ H2 _ PX _ (I.step (e1.trans e2)) (w.step (e1.trans e2)) h2 fun u H3 e3 h3 => by
    have e := (e1.trans e2).trans e3
    have r := r1.step e1 (e2.trans e3)
    split at h3
    · cases r.rp I e
      exact ⟨_, rfl, h3.1, k _ _ _ e (rs_dat (.str _)) h3.2⟩
    · exact h3.elim
theorem lr_ixS : LR2 K Ps rIxS fun x y Q => match x, y with
  | .v _ (.str z), .v _ (.int i) => z.length ≤ sizeLine ∧ ∃ c, atI z.cps.toList i = some c ∧ Q (.v .dat (.str ⟨#[c]⟩))
  | _, _ => False := by
  intro F g σ H H1 x y v u Q PQ I e rx ry h k
  split at h
  · obtain ⟨hz, c, hc, q⟩ := h
    cases rx.rp I e
    cases ry.rp I e
    exact ⟨_, _, c, rfl, rfl, hz, hc, k _ _ _ (Sm.refl H1) (rs_dat (.str _)) q⟩
  · exact h.elim
def pSign (f : Bool → Bool) : Rs → Rs → (Rs → Prop) → Prop := fun x y Q => match x, y with
  | .v _ (.str s), .v _ (.str z) => ∃ c, s = ⟨#[c]⟩ ∧ Q (.v .dat (.bool (f (decide (c ∈ z.cps.toList)))))
  | _, _ => False
theorem lr_inSign : LR2 K Ps (fun x y H Q => ∃ (c : Nat) (z : Str), x = .str ⟨#[c]⟩ ∧ y = .str z ∧ Q (.bl (decide (c ∈ z.cps.toList))) H) (pSign fun b => b) := by
  intro F g σ H H1 x y v u Q PQ I e rx ry h k
  unfold pSign at h
  split at h
  · obtain ⟨c, rfl, q⟩ := h
    cases rx.rp I e
    cases ry.rp I e
    exact ⟨_, _, rfl, rfl, k _ _ _ (Sm.refl H1) (rs_dat (.bl _)) q⟩
  · exact h.elim
theorem lr_notInSign : LR2 K Ps (fun x y H Q => ∃ (c : Nat) (z : Str), x = .str ⟨#[c]⟩ ∧ y = .str z ∧ Q (.bl (!decide (c ∈ z.cps.toList))) H) (pSign fun b => !b) := by
  intro F g σ H H1 x y v u Q PQ I e rx ry h k
  unfold pSign at h
  split at h
  · obtain ⟨c, rfl, q⟩ := h
    cases rx.rp I e
    cases ry.rp I e
    exact ⟨_, _, rfl, rfl, k _ _ _ (Sm.refl H1) (rs_dat (.bl _)) q⟩
  · exact h.elim
/-- a result as data -/
def Rs.asD : Rs → Rs
  | .v _ d => .v .dat d
  | .obj A => .obj A
def pRetD (pa : GE) : GS := fun PD g => pa g (PD.ex g) fun r => PD.rt r.asD
theorem ls_retD {te : TE} {pa : GE} (ha : LE K Ps W te pa) : LS K Ps W (tRet te) (pRetD pa) := fun F D σ H PD g I E h =>
  ha F g σ H _ _ _ I (E.wx I) h fun r v H1 e1 r1 h1 => E.rt _ v H1 (I.sm.trans e1) (by
    cases r with
    | obj A => exact ret_ok I e1 r1
    | v t d =>
      have h2 := r1.bor I e1
      rw [← List.append_nil F.L0] at h2
      exact h2) h1
/-! ##### objects: properties, fields, making -/
/-- an instance of the class at C -/
def InsOf (C : Addr) (A : Asr) : Prop := ∀ v H, A.a v H → ∃ a dx fs, v = .ref a ∧ H a = some (.ins C dx fs)
def pProp (C : Addr) (psp : PSp) (pa : GE) : GE := fun g PX Q => pa g PX fun x => match x with
  | .obj A => InsOf C A ∧ psp [.obj A] (fun _ => False) Q
  | _ => False
theorem le_prop {C : Addr} {sp : Sp} {psp : PSp} {E : XK} {te : TE} {pa : GE} (ok : SpOk K Ps sp psp) (ha : LE K Ps W te pa) : LE K Ps W (tProp C sp [] E te) (pProp C psp pa) := fun F g σ H Q PX PQ I w h k =>
  ha F g σ H _ PX _ I w h fun x v H1 e1 r1 h1 => by
    split at h1
    · next A =>
      obtain ⟨a, dx, fs, rfl, hv⟩ := h1.1 _ _ r1
      refine ⟨a, dx, fs, rfl, (off_some hv).2, ?_⟩
      exact call_of (rs := [.obj A]) ok I e1 (.cons r1 .nil) h1.2 k fun _ _ _ _ _ _ z => z.elim
    · exact h1.elim
/-- the field f of what A says holds d -/
def HasF (K : PySem.W.Frag) (A : Asr) (f : Str) (r : Rs) : Prop := ∀ v H, A.a v H → ∃ a C dx fs u, v = .ref a ∧ H a = some (.ins C dx fs) ∧ Cls K C ∧ NoAttr K C f ∧ fs.lookup f = some u ∧ match r with
  | .v .dat d => Rp K H u d
  | .obj B => B.a u H
  | _ => False
def pFld (K : PySem.W.Frag) (f : Str) (fv : Asr → Rs) (pa : GE) : GE := fun g PX Q => pa g PX fun x => match x with
  | .obj A => HasF K A f (fv A) ∧ Q (fv A)
  | _ => False
theorem le_fld {f : Str} {fv : Str → Asr → Rs} {te : TE} {pa : GE} (ha : LE K Ps W te pa) : LE K Ps W (tFld K te f) (pFld K f (fv f) pa) := fun F g σ H Q PX PQ I w h k =>
  ha F g σ H _ PX _ I w h fun x v H1 e1 r1 h1 => by
    split at h1
    · next A =>
      obtain ⟨hr, q⟩ := h1
      obtain ⟨a, C, dx, fs, u, rfl, hv, h2, h3, h4, h5⟩ := hr _ _ r1
      refine ⟨a, C, dx, fs, u, rfl, (off_some hv).2, h2, h3, h4, k (fv f A) u H1 e1 ?_ q⟩
      revert h5
      cases fv f A with
      | obj B => exact fun h5 => h5
      | v t d => cases t with
        | dat => exact fun h5 => h5
        | fr => exact fun h5 => h5.elim
        | bor => exact fun h5 => h5.elim
        | own _ => exact fun h5 => h5.elim
        | ft => exact fun h5 => h5.elim
    · exact h1.elim
/-- what making an instance promises -/
def MkOk (K : PySem.W.Frag) (Ps : List Addr) (C : Addr) (sp : Sp) (psp : PSp) : Prop := ∀ (vs : List V) (H : Hp) (Q : VK) (E : XK) (L0 : List Addr) (as : List Rs) (PX : Er → Prop) (PQ : Rs → Prop), (∀ q ∈ L0, Hid H q) → ArgsR K (off H L0) vs as → (∀ P ∈ Ps, GxR.TabG H P) → psp as PX PQ →
  (∀ r v H2, Sm H H2 → RsR K ⟨H, L0⟩ [] H H2 v r → PQ r → Q v H2) → (∀ e cls d H2, Sm H H2 → ErR K L0 H2 e cls d → PX e → E cls d H2) →
  ∀ x dx, H x = none → H dx = none → dx ≠ x → sp (.ref x :: vs) (upd (upd H dx (.own x)) x (.ins C dx [])) (fun v H2 => v = .non ∧ Q (.ref x) H2) E
theorem mk_of {C : Addr} {sp : Sp} {psp : PSp} (ok : MkOk K Ps C sp psp) (I : Env K Ps F g σ H) (e : Sm H H1) {rs : List Rs} {vs : List V} {Q : VK} {E : XK} {PX : Er → Prop} {PQ : Rs → Prop} (r : RsAll K F g H H1 vs rs) (s : allS rs = true) (h : psp (rs.map Rs.arg) PX PQ)
    (k : ∀ r v H2, Sm H H2 → RsR K F g H H2 v r → PQ r → Q v H2) (x : ∀ e cls d H2, Sm H H2 → ErR K F.L0 H2 e cls d → PX e → E cls d H2) :
    ∀ x dx, H1 x = none → H1 dx = none → dx ≠ x → sp (.ref x :: vs) (upd (upd H1 dx (.own x)) x (.ins C dx [])) (fun v H2 => v = .non ∧ Q (.ref x) H2) E := by
  have I1 := I.step e
  exact ok vs H1 Q E (F.L0 ++ owns g) _ PX _ (fun q z => hidden I1 z) (args_ok I e r s) I1.tb h (fun r v H2 s2 r2 q => k _ _ _ (e.trans s2) (r2.up I e) q) fun er cls d H2 s2 h2 p => x er cls d H2 (e.trans s2) (h2.sub fun a z => List.mem_append_left _ z) p
def pMake (psp : PSp) (pa : GA) : GE := fun g PX Q => pa g PX fun rs => allS rs = true ∧ psp (rs.map Rs.arg) PX Q
def pMake0 (psp : PSp) (pa : GA) : GE := fun g PX Q => pa g PX fun rs => allS rs = true ∧ psp (rs.map Rs.arg) (fun _ => False) Q
theorem le_make0 {C : Addr} {sp : Sp} {psp : PSp} {E : XK} {ta : TA} {pa : GA} (ok : MkOk K Ps C sp psp) (ha : LA K Ps W ta pa) : LE K Ps W (tMake C sp [] E ta) (pMake0 psp pa) := fun F g σ H Q PX PQ I w h k =>
  ha F g σ H _ PX _ I w h fun rs vs H1 e1 r1 h1 => by
    show ∀ x dx, _
    rw [List.append_nil]
    exact mk_of ok I e1 r1 h1.1 h1.2 k fun _ _ _ _ _ _ z => z.elim
theorem le_makeX {C : Addr} {sp : Sp} {psp : PSp} {E : XK} {ta : TA} {pa : GA} (ok : MkOk K Ps C sp psp) (ha : LA K Ps (fun cls d _ H => E cls d H) ta pa) : LE K Ps (fun cls d _ H => E cls d H) (tMake C sp [] E ta) (pMake psp pa) := fun F g σ H Q PX PQ I w h k =>
  ha F g σ H _ PX _ I w h fun rs vs H1 e1 r1 h1 => by
    show ∀ x dx, _
    rw [List.append_nil]
    exact mk_of ok I e1 r1 h1.1 h1.2 k w
theorem le_makeT {C : Addr} {sp : Sp} {psp : PSp} {ta : TA} {pa : GA} (ok : MkOk K Ps C sp psp) (ha : LA K Ps W ta pa) : LE K Ps W (CL.tMakeT C sp (fun σ cls d H => W cls d σ H) ta) (pMake psp pa) := fun F g σ H Q PX PQ I w h k =>
  ha F g σ H _ PX _ I w h fun rs vs H1 e1 r1 h1 => mk_of ok I e1 r1 h1.1 h1.2 k w
/-! ##### try .. except X as n: the error in the suite -/
/-- the value is the error at a, of this class, with this dict -/
def errA (K : PySem.W.Frag) (e : Er) (a : Addr) (cls : Value) (d : Option Addr) : Asr where
  a := fun v H => v = .ref a ∧ cls = .ref e.cls ∧ match e.fs with
    | none => d = none
    | some fs => ∃ b us, d = some b ∧ H b = some (.xd us) ∧ Paired (fun u f => u.1 = f.1 ∧ Rp K H u.2 f.2) us fs
  mono := fun v H H' s h => by
    refine ⟨h.1, h.2.1, ?_⟩
    have h2 := h.2.2
    cases q : e.fs with
    | none =>
      rw [q] at h2
      exact h2
    | some fs =>
      rw [q] at h2
      obtain ⟨b, us, rfl, hb, hp⟩ := h2
      exact ⟨b, us, rfl, s.keep _ _ hb (fun _ z => by cases z), L2.Paired.mapP hp fun u f z => ⟨z.1, z.2.mono s⟩⟩
theorem own_lst {V0 : Hp} : ∀ {g : Gm} {s : L2.St} {q : Addr}, Slots K H V0 g s → q ∈ owns g → ∃ o, H q = some o ∧ ∀ us, o ≠ .xd us
  | [], [], _, _, h => by cases h
  | none :: g, _ :: s, q, h, m => own_lst (g := g) (s := s) h m
  | some x :: g, _ :: s, q, ⟨⟨u, _, hx⟩, h⟩, m => by
    rcases List.mem_append.mp (show q ∈ ownsOf (some x) ++ owns g from m) with z | z
    · cases x with
      | dat d => cases z
      | obj A => cases z
      | own p xs =>
        obtain ⟨_, vs, hp, _⟩ := hx
        rw [List.mem_singleton.mp z]
        exact ⟨_, hp, fun _ z => by cases z⟩
      | dic p kvs =>
        obtain ⟨_, vs, hp, _⟩ := hx
        rw [List.mem_singleton.mp z]
        exact ⟨_, hp, fun _ z => by cases z⟩
      | tab p rs rows =>
        obtain ⟨_, hp, ht⟩ := hx
        rcases List.mem_cons.mp z with rfl | z
        · exact ⟨_, hp, fun _ z => by cases z⟩
        · obtain ⟨vs, h2⟩ := ht.hid q z
          exact ⟨_, h2, fun _ z => by cases z⟩
    · exact own_lst (g := g) (s := s) h z
/-- error fields are plain: their values hold no objects -/
def Er.plain (e : Er) : Prop := ∀ fs, e.fs = some fs → ∀ p ∈ fs, flatD p.2 = true
theorem paired_plain {R S : Str × V → Str × PyData → Prop} : ∀ {us : List (Str × V)} {fs : List (Str × PyData)}, Paired R us fs → (∀ u f, f ∈ fs → R u f → S u f) → Paired S us fs
  | _, _, .nil, _ => .nil
  | _, _, .cons a r, k => .cons (k _ _ (.head _) a) (paired_plain r fun u f hf => k u f (.tail _ hf))
theorem err_ok (I : Env K Ps F g σ H) {e : Er} {cls : Value} {d : Option Addr} (pl : e.plain) (h : ErR K F.L0 H e cls d) (a : Addr) : (errA K e a cls d).a (.ref a) (off H (F.L0 ++ owns g)) := by
  refine ⟨rfl, h.1, ?_⟩
  have h2 := h.2
  cases q : e.fs with
  | none =>
    rw [q] at h2
    exact h2
  | some fs =>
    rw [q] at h2
    obtain ⟨b, us, rfl, hb, hp⟩ := h2
    obtain ⟨nb, hb⟩ := off_some hb
    refine ⟨b, us, rfl, ?_, paired_plain hp fun u f hf z => ⟨z.1, z.2.flat (pl fs q f hf)⟩⟩
    rw [off_ne fun z => ?_]
    · exact hb
    · rcases List.mem_append.mp z with z | z
      · exact nb z
      · obtain ⟨o, hv, no⟩ := own_lst I.sl z
        rw [hb] at hv
        cases hv
        exact no _ rfl
def rIsU (K : PySem.W.Frag) (a : Addr) (cls : Value) (d : Option Addr) : List V → Hp → VK → Prop := fun xs H Q => ∃ (D : Addr) (c : V) (cv : Value) (b : Bool), xs = [.ref a, c] ∧ cls = .ref D ∧ ExcC K D ∧ (∀ u, RelV c u → u = cv) ∧ PySem.W.kitOne K (.ref D) cv = some b ∧
  (d = none ∨ ∃ dd fs, d = some dd ∧ H dd = some (.xd fs)) ∧ Q (.bl b) H
def pIsU (K : PySem.W.Frag) (a : Addr) (cls : Value) (d : Option Addr) (i : Nat) (C : Addr) : GE := fun g _ Q => ∃ e b, g[i]? = some (some (.obj (errA K e a cls d))) ∧ ExcC K e.cls ∧ PySem.W.kitOne K (.ref e.cls) (.ref C) = some b ∧ Q (.v .dat (.bool b))
theorem le_isU {a : Addr} {cls : Value} {d : Option Addr} {i : Nat} {C : Addr} : LE K Ps W (tCB (rIsU K a cls d) (tCons (tVar i) (tCons (tC (.ref C)) tNil))) (pIsU K a cls d i C) := fun F g σ H Q PX PQ I w h k => by
  obtain ⟨e, b, hg, hx, hk, q⟩ := h
  obtain ⟨u, h1, h2⟩ := I.sl.get hg
  obtain ⟨rfl, rfl, h3⟩ := h2
  refine ⟨_, h1, e.cls, _, _, b, rfl, rfl, hx, fun _ z => z, hk, ?_, k _ _ _ (Sm.refl H) (rs_dat (.bl _)) q⟩
  cases q2 : e.fs with
  | none =>
    rw [q2] at h3
    exact .inl h3
  | some fs =>
    rw [q2] at h3
    obtain ⟨b2, us, rfl, hb, _⟩ := h3
    exact .inr ⟨b2, us, rfl, (off_some hb).2⟩
theorem paired_lookup {n : Str} {V0 : Hp} : ∀ {us : List (Str × V)} {fs : List (Str × PyData)} {y : PyData}, Paired (fun u f => u.1 = f.1 ∧ Rp K V0 u.2 f.2) us fs → fs.lookup n = some y → ∃ v, us.lookup n = some v ∧ Rp K V0 v y
  | _, _, _, .nil, h => by cases h
  | (m, v) :: us, (m2, y2) :: fs, y, .cons ⟨a, b⟩ r, h => by
    cases a
    rw [List.lookup_cons] at h ⊢
    cases q : n == m with
    | true =>
      rw [q] at h
      cases h
      exact ⟨v, rfl, b⟩
    | false =>
      rw [q] at h
      exact paired_lookup r h
def pXf (K : PySem.W.Frag) (a : Addr) (cls : Value) (d : Option Addr) (C : Addr) (n : Str) (i : Nat) : GE := fun g _ Q => ∃ e fs y, g[i]? = some (some (.obj (errA K e a cls d))) ∧ e.cls = C ∧ e.fs = some fs ∧ fs.lookup n = some y ∧ Q (.v .dat y)
theorem le_xf {a : Addr} {cls : Value} {d : Option Addr} {C : Addr} {n : Str} {i : Nat} : LE K Ps W (tXf a cls d C n (tVar i)) (pXf K a cls d C n i) := fun F g σ H Q PX PQ I w h k => by
  obtain ⟨e, fs, y, hg, hC, hfs, hl, q⟩ := h
  obtain ⟨u, h1, h2⟩ := I.sl.get hg
  obtain ⟨rfl, rfl, h3⟩ := h2
  rw [hfs] at h3
  obtain ⟨b2, us, rfl, hb, hp⟩ := h3
  obtain ⟨v, hv, hr⟩ := paired_lookup hp hl
  exact ⟨_, h1, rfl, by rw [hC], b2, us, v, rfl, (off_some hb).2, hv, k _ _ _ (Sm.refl H) (rs_dat hr) q⟩
def pTry (K : PySem.W.Frag) (c : Value) (i : Nat) (pb : GS) (psu : Addr → Value → Option Addr → GS) : GS := fun PD g =>
  pb ⟨PD.nx, PD.rt, PD.bk, PD.ct, fun g' e => e.plain ∧ PySem.W.exmOne K (.ref e.cls) c = some true ∧ ∀ a cls d, psu a cls d ⟨fun g2 => PD.nx (g2.set i none), PD.rt, fun g2 => PD.bk (g2.set i none), fun g2 => PD.ct (g2.set i none), fun _ _ => False⟩ (g'.set i (some (.obj (errA K e a cls d))))⟩ g
theorem ls_try {c : Value} {i : Nat} {tb : WX → TS} {ts : Addr → Value → Option Addr → TS} {pb : GS} {psu : Addr → Value → Option Addr → GS} (hb : ∀ W, LS K Ps W (tb W) pb) (hs : ∀ a cls d, LS K Ps W0 (ts a cls d) (psu a cls d)) :
    LS K Ps W (fun D σ H => tb (wAs K c i ts (fun _ _ _ _ => False) D) D σ H) (pTry K c i pb psu) := fun F D σ H PD g I E h => by
  refine hb (wAs K c i ts (fun _ _ _ _ => False) D) F D σ H ⟨PD.nx, PD.rt, PD.bk, PD.ct, fun g' e => e.plain ∧ PySem.W.exmOne K (.ref e.cls) c = some true ∧ ∀ a cls d, psu a cls d ⟨fun g2 => PD.nx (g2.set i none), PD.rt, fun g2 => PD.bk (g2.set i none), fun g2 => PD.ct (g2.set i none), fun _ _ => False⟩ (g'.set i (some (.obj (errA K e a cls d))))⟩ g I ⟨E.nx, E.bk, E.ct, E.rt, fun g' σ' H' e cls d I' r q => ?_⟩ h
  obtain ⟨pl, hx, q⟩ := q
  refine ⟨true, by rw [r.1]; exact hx, fun _ a ha => ?_, fun z => by cases z⟩
  exact hs a cls d F _ (σ'.set i (some (.ref a))) H' ⟨fun g2 => PD.nx (g2.set i none), PD.rt, fun g2 => PD.bk (g2.set i none), fun g2 => PD.ct (g2.set i none), fun _ _ => False⟩ _ (I'.set_obj (err_ok I' pl r a)) ⟨fun g2 σ2 H2 I2 q2 => E.nx _ _ H2 (I2.forget none) q2, fun g2 σ2 H2 I2 q2 => E.bk _ _ H2 (I2.forget none) q2, fun g2 σ2 H2 I2 q2 => E.ct _ _ H2 (I2.forget none) q2, E.rt, fun _ _ _ _ _ _ _ _ z => z.elim⟩ (q a cls d)
/-! ##### raising a class with a field -/
def pRaiseE (C : Addr) (fld : Str) (pa : GA) : GS := fun PD g => pa g (PD.ex g) fun rs => match rs with
  | [.v _ (.int i)] => i.natAbs.log2 < 1920 ∧ PD.ex g ⟨C, some [(fld, .int i)]⟩
  | _ => False
theorem ls_raiseE_core {C : Addr} {fld : Str} {ta : TA} {pa : GA} (ha : LA K Ps W ta pa) : LS K Ps W (fun _ σ H => ta σ H fun vs H1 => ∃ i : Int, vs = [.int i] ∧ i.natAbs.log2 < 1920 ∧ ∀ d, H1 d = none → W (.ref C) (some d) σ (upd H1 d (.xd [(fld, .int i)]))) (pRaiseE C fld pa) := fun F D σ H PD g I E h =>
  ha F g σ H _ _ _ I (E.wx I) h fun rs vs H1 e1 r1 h1 => by
    split at h1
    · next t i =>
      obtain ⟨v, rfl, a⟩ := rs1 r1
      cases a.rp I e1
      refine ⟨i, rfl, h1.1, fun d hd => ?_⟩
      have I1 := I.step e1
      obtain ⟨s, hn, hnL, _⟩ := new_in (o := .xd [(fld, V.int i)]) I1 (Sm.refl H1) hd
      refine E.ex g σ _ ⟨C, some [(fld, .int i)]⟩ _ _ (I1.step s) ⟨rfl, d, [(fld, V.int i)], rfl, ?_, .cons ⟨rfl, .int i⟩ .nil⟩ h1.2
      rw [off_ne fun z => hnL (List.mem_append_left _ z)]
      exact upd_same
    · exact h1.elim
end
end PV
namespace PV
/-- a promise with its number of arguments -/
def sg (n : Nat) (p : PSp) : PSp := fun as PX Q => as.length = n ∧ p as PX Q
end PV

namespace PV
open PySem PySem.Spec PyProof.Rows L2 Cm
/-- isinstance of the suite's error, whatever its class (wants ownerr) -/
theorem call_isU {X : Cx} {a : Addr} {oe : Obj} {cls : Value} {d : Option Addr} {pn : List (Addr × Obj)} (hz : Zc cls d oe) (hf : ∃ vs, oe.data = .fields vs) : CallR (X.suite a ((a, oe) :: pn)) (.builtin "isinstance") (rIsU X.K a cls d) := by
  intro pins s σ H xs us Q I r h
  obtain ⟨D, c, cv, b, rfl, rfl, hx, hcv, e, hd, q⟩ := h
  rcases hd with rfl | ⟨dd, fs, rfl, hd⟩
  · exact call_isE hx hz hf pins s σ H _ us Q I r ⟨c, cv, b, rfl, hcv, e, q⟩
  · exact OE.call_isX hx hz hf pins s σ H _ us Q I r ⟨c, cv, b, dd, fs, rfl, rfl, hcv, e, rfl, hd, q⟩
end PV

/-! #### what one uses in the world of values -/
namespace PV
open PySem PySem.Spec PyProof.Rows L2 Cm
/-! data without great depth, for == -/
def Lay (n : Nat) (d : PyData) : Prop := d.canLay0 = true ∧ d.depth ≤ n
theorem lay_none {n : Nat} : Lay n .none := ⟨rfl, by simp [PyData.depth]⟩
theorem lay_int {n : Nat} {i : Int} : Lay n (.int i) := ⟨rfl, by simp [PyData.depth]⟩
theorem lay_bool {n : Nat} {i : Bool} : Lay n (.bool i) := ⟨rfl, by simp [PyData.depth]⟩
theorem lay_str {n : Nat} {x : Str} (h : (PyData.str x).canLay0 = true) : Lay n (.str x) := ⟨h, by simp [PyData.depth]⟩
theorem lay_all {n : Nat} : ∀ {ds : List PyData}, (∀ d ∈ ds, Lay n d) → PyData.canLayAll0 ds = true ∧ PyData.depthAll ds ≤ n
  | [], _ => ⟨rfl, by simp [PyData.depthAll]⟩
  | d :: ds, h => by
    obtain ⟨h1, h2⟩ := h d (.head _)
    obtain ⟨h3, h4⟩ := lay_all (ds := ds) fun e he => h e (.tail _ he)
    refine ⟨by simp [PyData.canLayAll0, h1, h3], ?_⟩
    simp only [PyData.depthAll]
    omega
theorem lay_list {n : Nat} {ds : List PyData} (h : ∀ d ∈ ds, Lay n d) : Lay (n + 1) (.list ds) := by
  obtain ⟨h1, h2⟩ := lay_all h
  exact ⟨by simpa [PyData.canLay0] using h1, by simp only [PyData.depth]; omega⟩
theorem lay_tup {n : Nat} {ds : List PyData} (h : ∀ d ∈ ds, Lay n d) : Lay (n + 1) (.tuple ds) := by
  obtain ⟨h1, h2⟩ := lay_all h
  exact ⟨by simpa [PyData.canLay0] using h1, by simp only [PyData.depth]; omega⟩
theorem lay_ints {n : Nat} {ns : List Int} : Lay (n + 1) (.list (ns.map PyData.int)) := lay_list fun d hd => by
  obtain ⟨i, _, rfl⟩ := List.mem_map.mp hd
  exact lay_int
theorem lay_intsT {n : Nat} {ns : List Int} : Lay (n + 1) (.tuple (ns.map PyData.int)) := lay_tup fun d hd => by
  obtain ⟨i, _, rfl⟩ := List.mem_map.mp hd
  exact lay_int
theorem lay_map {α : Type} {n : Nat} {f : α → PyData} {as : List α} (h : ∀ a ∈ as, Lay n (f a)) : Lay (n + 1) (.list (as.map f)) := lay_list fun d hd => by
  obtain ⟨i, hi, rfl⟩ := List.mem_map.mp hd
  exact h i hi
theorem lay_mapT {α : Type} {n : Nat} {f : α → PyData} {as : List α} (h : ∀ a ∈ as, Lay n (f a)) : Lay (n + 1) (.tuple (as.map f)) := lay_tup fun d hd => by
  obtain ⟨i, hi, rfl⟩ := List.mem_map.mp hd
  exact h i hi
theorem lay_shp {n : Nat} {d : PyData} (h : Lay n d) (hn : n ≤ 64 := by decide) : SeqAt.shaped d = true := Bool.and_eq_true_iff.mpr ⟨h.1, decide_eq_true (Nat.le_trans h.2 hn)⟩
theorem shp_ints {ns : List Int} : SeqAt.shaped (.list (ns.map PyData.int)) = true := lay_shp (n := 1) lay_ints
theorem eqv_self {d : PyData} (h : SeqAt.shaped d = true) : PyData.eqv d d = true := eqv_refl' h
theorem eqvAll_map {α : Type} [DecidableEq α] {f : α → PyData} (hf : ∀ a b, PyData.eqv (f a) (f b) = decide (a = b)) : ∀ (as bs : List α), PyData.eqvAll (as.map f) (bs.map f) = decide (as = bs)
  | [], [] => by simp [PyData.eqvAll]
  | [], b :: bs => by simp [PyData.eqvAll]
  | a :: as, [] => by simp [PyData.eqvAll]
  | a :: as, b :: bs => by
    by_cases h : a = b <;> simp [PyData.eqvAll, hf, eqvAll_map hf as bs, h]
/-! slices -/
def cutL {α : Type} (xs : List α) (lo hi : Option Int) : List α := (xs.drop (HT.sIx xs.length 0 lo)).take (HT.sIx xs.length xs.length hi - HT.sIx xs.length 0 lo)
theorem cutD_map {α : Type} {f : α → PyData} {as : List α} {lo hi : Option Int} : cutD (as.map f) lo hi = (cutL as lo hi).map f := by
  unfold cutD cutL
  rw [List.length_map, List.map_take, List.map_drop]
theorem sIx_pos {n d : Nat} {k : Int} (h : 0 ≤ k) : HT.sIx n d (some k) = min k.toNat n := by
  obtain ⟨j, rfl⟩ := Int.eq_ofNat_of_zero_le h
  exact HT.sIx_nat n d j
theorem drop_min {α : Type} {xs : List α} {k : Nat} : xs.drop (min k xs.length) = xs.drop k := by
  by_cases h : k ≤ xs.length
  · rw [Nat.min_eq_left h]
  · rw [Nat.min_eq_right (by omega), List.drop_length, List.drop_eq_nil_of_le (by omega)]
theorem cutL_to {α : Type} {xs : List α} {k : Int} (h : 0 ≤ k) : cutL xs none (some k) = xs.take k.toNat := by
  unfold cutL
  rw [sIx_pos h, HT.sIx_none, List.drop_zero, Nat.sub_zero, List.take_eq_take_iff]
  omega
theorem cutL_from {α : Type} {xs : List α} {k : Int} (h : 0 ≤ k) : cutL xs (some k) none = xs.drop k.toNat := by
  unfold cutL
  rw [sIx_pos h, HT.sIx_none, drop_min, List.take_of_length_le]
  rw [List.length_drop]
  omega
theorem cutL_mid {α : Type} {xs : List α} {j k : Int} (h : 0 ≤ j) (hk : 0 ≤ k) : cutL xs (some j) (some k) = (xs.drop j.toNat).take (k.toNat - j.toNat) := by
  unfold cutL
  rw [sIx_pos h, sIx_pos hk, drop_min, List.take_eq_take_iff, List.length_drop]
  omega
theorem cutL_len {α : Type} {xs : List α} {lo hi : Option Int} : (cutL xs lo hi).length ≤ xs.length := by
  unfold cutL
  rw [List.length_take, List.length_drop]
  omega
/-! items -/
theorem at_map {α : Type} {f : α → PyData} {as : List α} {i : Int} {j : Nat} {a : α} (e : i = (j : Int)) (h : as[j]? = some a) : atI (as.map f) i = some (f a) := by
  subst e
  refine atI_nat ?_
  rw [List.getElem?_map, h]
  rfl
theorem at_ints {ns : List Int} {i : Int} (h0 : 0 ≤ i) (h : i < ns.length) : atI (ns.map PyData.int) i = some (.int (ns.getD i.toNat 0)) := by
  have hi : i.toNat < ns.length := by omega
  refine at_map (j := i.toNat) (by omega) ?_
  rw [List.getD_eq_getElem?_getD, List.getElem?_eq_getElem hi]
  rfl
theorem at_ints_some {ns : List Int} {i : Int} (h0 : 0 ≤ i) (h : i < ns.length) : ∃ v, atI (ns.map PyData.int) i = some (.int v) := ⟨_, at_ints h0 h⟩
theorem at0 {α : Type} {a : α} {r : List α} : atI (a :: r) 0 = some a := atI_nat (j := 0) rfl
theorem at1 {α : Type} {a b : α} {r : List α} : atI (a :: b :: r) 1 = some b := atI_nat (j := 1) rfl
theorem at2 {α : Type} {a b c : α} {r : List α} : atI (a :: b :: c :: r) 2 = some c := atI_nat (j := 2) rfl
theorem at3 {α : Type} {a b c d : α} {r : List α} : atI (a :: b :: c :: d :: r) 3 = some d := atI_nat (j := 3) rfl
theorem at4 {α : Type} {a b c d e : α} {r : List α} : atI (a :: b :: c :: d :: e :: r) 4 = some e := atI_nat (j := 4) rfl
theorem at5 {α : Type} {a b c d e f : α} {r : List α} : atI (a :: b :: c :: d :: e :: f :: r) 5 = some f := atI_nat (j := 5) rfl
theorem owns_sh {o : Option Sl} {r : Gm} : owns (Option.map Sl.sh o :: r) = owns r := by
  cases o with
  | none => rfl
  | some x => cases x <;> rfl
theorem rep_none {n : Nat} : List.replicate (n + 1) (none : Option Sl) = none :: List.replicate n none := rfl
theorem owns_no {r : Gm} : owns (none :: r) = owns r := rfl
theorem owns_dat {d : PyData} {r : Gm} : owns (some (.dat d) :: r) = owns r := rfl
theorem owns_obj {d : Asr} {r : Gm} : owns (some (.obj d) :: r) = owns r := rfl
/-! loops -/
theorem loop_inv {α : Type} {inj : α → PyData} {t : Tgt} {b : GS} {PD : GEnds} {g : Gm} (as : List α) (Iv : List α → Gm → Prop) (h0 : Iv [] g)
    (turn : ∀ pre a post g, as = pre ++ a :: post → Iv pre g → ∀ N : Gm → Prop, (∀ g', Iv (pre ++ [a]) g' → N g') → pTgt t (inj a) g fun g' => b { PD with nx := N, ct := N, bk := PD.nx } g') (hd : ∀ g, Iv as g → PD.nx g) :
    Loop (pTg t) b PD (as.map inj) g := by
  suffices ∀ post pre g, as = pre ++ post → Iv pre g → Loop (pTg t) b PD (post.map inj) g from this as [] g rfl h0
  intro post
  induction post with
  | nil =>
    intro pre g e h
    rw [List.append_nil] at e
    subst e
    exact hd g h
  | cons a post ih =>
    intro pre g e h
    exact ⟨rfl, turn pre a post g e h _ fun g' h' => ih (pre ++ [a]) g' (by rw [e, List.append_assoc]; rfl) h'⟩
/-- by the number of the turn -/
theorem loop_ix {α : Type} {inj : α → PyData} {t : Tgt} {b : GS} {PD : GEnds} {g : Gm} (as : List α) (Iv : Nat → Gm → Prop) (h0 : Iv 0 g)
    (turn : ∀ i a g, as[i]? = some a → Iv i g → ∀ N : Gm → Prop, (∀ g', Iv (i + 1) g' → N g') → pTgt t (inj a) g fun g' => b { PD with nx := N, ct := N, bk := PD.nx } g') (hd : ∀ g, Iv as.length g → PD.nx g) :
    Loop (pTg t) b PD (as.map inj) g :=
  loop_inv as (fun pre g => Iv pre.length g) h0 (fun pre a post g e h N k => turn pre.length a g (by rw [e]; simp) h N fun g' h' => k g' (by rw [List.length_append]; exact h')) hd
theorem loop_rg {lo : Int} {n : Nat} {t : Tgt} {b : GS} {PD : GEnds} {g : Gm} (Iv : Nat → Gm → Prop) (h0 : Iv 0 g)
    (turn : ∀ (i : Nat) g, i < n → Iv i g → ∀ N : Gm → Prop, (∀ g', Iv (i + 1) g' → N g') → pTgt t (.int (lo + (i : Int))) g fun g' => b { PD with nx := N, ct := N, bk := PD.nx } g') (hd : ∀ g, Iv n g → PD.nx g) :
    Loop (pTg t) b PD (rgD lo n) g := by
  refine loop_ix (inj := fun i : Nat => PyData.int (lo + (i : Int))) (List.range n) Iv h0 (fun i a g h q N k => ?_) (by rw [List.length_range]; exact hd)
  have hi : i < n := by
    by_cases z : i < n
    · exact z
    · rw [List.getElem?_eq_none (by rw [List.length_range]; omega)] at h
      cases h
  rw [List.getElem?_range hi] at h
  cases h
  exact turn i g hi q N k
theorem rgC_map {lo c : Int} {n : Nat} : rgC lo c n = (List.range n).map fun (i : Nat) => .int (lo + (i : Int) * c) := rfl
theorem enD_map {α : Type} {f : α → PyData} {as : List α} : enD (as.map f) = as.zipIdx.map fun p => .tuple [.int (p.2 : Int), f p.1] := by
  apply List.ext_getElem?
  intro i
  unfold enD
  rw [List.getElem?_zipWith, List.getElem?_map, List.length_map, List.getElem?_map, List.getElem?_zipIdx]
  cases h : as[i]? with
  | none =>
    cases h2 : (List.range as.length)[i]? <;> rfl
  | some a =>
    have hi : i < as.length := by
      by_cases z : i < as.length
      · exact z
      · rw [List.getElem?_eq_none (Nat.le_of_not_lt z)] at h
        cases h
    rw [List.getElem?_range hi]
    simp
theorem zipD_map {α β : Type} {f : α → PyData} {h : β → PyData} {as : List α} {bs : List β} : zipD (as.map f) (bs.map h) = (as.zip bs).map fun p => .tuple [f p.1, h p.2] := by
  unfold zipD
  rw [List.zipWith_map, List.map_zip_eq_zipWith]
  rfl
/-! comprehensions -/
theorem comp_map {α : Type} {inj f : α → PyData} {t : Tgt} {pe : GE} {gw : Gm} {PX : Er → Prop} {k : List PyData → Prop} (gs : α → Gm) (as : List α) (ht : ∀ a, a ∈ as → ∀ Q : Gm → Prop, Q (gs a) → pTgt t (inj a) gw Q) (hl : as.length ≤ 100000)
    (he : ∀ a, a ∈ as → ∀ P : PyData → Prop, P (f a) → pe (gs a) PX fun r => match r with
      | .v t2 d => t2.ok = true ∧ P d
      | .obj _ => False) (hk : k (as.map f)) : Comp t pYes pe gw PX k [] (as.map inj) := by
  suffices ∀ (as' : List α) (acc : List PyData), (∀ a, a ∈ as' → a ∈ as) → acc.length + as'.length ≤ 100000 → k (acc ++ as'.map f) → Comp t pYes pe gw PX k acc (as'.map inj) from this as [] (fun _ z => z) (by simpa using hl) (by simpa using hk)
  intro as'
  induction as' with
  | nil => intro acc _ _ h; simpa [Comp] using h
  | cons a as' ih =>
    intro acc hm hl hk
    refine ht a (hm a (.head _)) _ ⟨fun _ => ?_, fun z => by cases z⟩
    refine he a (hm a (.head _)) (fun d => acc.length < sizeLine ∧ Comp t pYes pe gw PX k (acc ++ [d]) (as'.map inj)) ⟨small (by rw [List.length_cons] at hl; omega), ih _ (fun b hb => hm b (.tail _ hb)) (by rw [List.length_cons] at hl; simp; omega) ?_⟩
    rw [List.append_assoc]
    exact hk
theorem comp_filter {α : Type} {inj f : α → PyData} {c : α → Bool} {t : Tgt} {pt : GT} {pe : GE} {gw : Gm} {PX : Er → Prop} {k : List PyData → Prop} (gs : α → Gm) (as : List α) (ht : ∀ a, a ∈ as → ∀ Q : Gm → Prop, Q (gs a) → pTgt t (inj a) gw Q) (hl : as.length ≤ 100000)
    (hc : ∀ a, a ∈ as → ∀ P : Bool → Prop, P (c a) → pt (gs a) PX P)
    (he : ∀ a, a ∈ as → c a = true → ∀ P : PyData → Prop, P (f a) → pe (gs a) PX fun r => match r with
      | .v t2 d => t2.ok = true ∧ P d
      | .obj _ => False) (hk : k ((as.filter c).map f)) : Comp t pt pe gw PX k [] (as.map inj) := by
  suffices ∀ (as' : List α) (acc : List PyData), (∀ a, a ∈ as' → a ∈ as) → acc.length + as'.length ≤ 100000 → k (acc ++ (as'.filter c).map f) → Comp t pt pe gw PX k acc (as'.map inj) from this as [] (fun _ z => z) (by simpa using hl) (by simpa using hk)
  intro as'
  induction as' with
  | nil => intro acc _ _ h; simpa [Comp] using h
  | cons a as' ih =>
    intro acc hm hl hk
    refine ht a (hm a (.head _)) _ (hc a (hm a (.head _)) _ ⟨fun hca => ?_, fun hca => ?_⟩)
    · refine he a (hm a (.head _)) hca (fun d => acc.length < sizeLine ∧ Comp t pt pe gw PX k (acc ++ [d]) (as'.map inj)) ⟨small (by rw [List.length_cons] at hl; omega), ih _ (fun b hb => hm b (.tail _ hb)) (by rw [List.length_cons] at hl; simp; omega) ?_⟩
      rw [List.append_assoc]
      rw [List.filter_cons_of_pos hca] at hk
      exact hk
    · refine ih acc (fun b hb => hm b (.tail _ hb)) (by rw [List.length_cons] at hl; omega) ?_
      rw [List.filter_cons_of_neg (by simp [hca])] at hk
      exact hk
/-! any, all, sum -/
theorem gen_any {α : Type} {inj : α → PyData} {t : Tgt} {pe : GE} {gw : Gm} {PX : Er → Prop} {Q : Rs → Prop} (gs : α → Gm) (f : α → Bool) (as : List α) (ht : ∀ a, a ∈ as → ∀ Q : Gm → Prop, Q (gs a) → pTgt t (inj a) gw Q)
    (he : ∀ a, a ∈ as → ∀ P : Bool → Prop, P (f a) → pe (gs a) PX fun r => bD r P) (hq : Q (.v .dat (.bool (as.any f)))) : GenB true t pe gw PX Q (as.map inj) := by
  induction as with
  | nil => exact hq
  | cons a as ih =>
    refine ht a (.head _) _ (he a (.head _) _ ⟨fun z => ?_, fun z => ih (fun b hb => ht b (.tail _ hb)) (fun b hb => he b (.tail _ hb)) ?_⟩)
    · rw [List.any_cons, z] at hq
      exact hq
    · rw [List.any_cons, z] at hq
      exact hq
theorem gen_all {α : Type} {inj : α → PyData} {t : Tgt} {pe : GE} {gw : Gm} {PX : Er → Prop} {Q : Rs → Prop} (gs : α → Gm) (f : α → Bool) (as : List α) (ht : ∀ a, a ∈ as → ∀ Q : Gm → Prop, Q (gs a) → pTgt t (inj a) gw Q)
    (he : ∀ a, a ∈ as → ∀ P : Bool → Prop, P (f a) → pe (gs a) PX fun r => bD r P) (hq : Q (.v .dat (.bool (as.all f)))) : GenB false t pe gw PX Q (as.map inj) := by
  induction as with
  | nil => exact hq
  | cons a as ih =>
    refine ht a (.head _) _ (he a (.head _) _ ⟨fun z => ?_, fun z => ih (fun b hb => ht b (.tail _ hb)) (fun b hb => he b (.tail _ hb)) ?_⟩)
    · rw [List.all_cons, z] at hq
      exact hq
    · rw [List.all_cons, z] at hq
      exact hq
theorem gen_sum {α : Type} {inj : α → PyData} {t : Tgt} {pt : GT} {pe : GE} {gw : Gm} {PX : Er → Prop} {Q : Rs → Prop} (gs : α → Gm) (c : α → Bool) (f : α → Int) (as : List α) (a0 : Int) (ht : ∀ a, a ∈ as → ∀ Q : Gm → Prop, Q (gs a) → pTgt t (inj a) gw Q)
    (hc : ∀ a, a ∈ as → ∀ P : Bool → Prop, P (c a) → pt (gs a) PX P)
    (he : ∀ a, a ∈ as → c a = true → ∀ P : Int → Prop, P (f a) → pe (gs a) PX fun r => match r with
      | .v _ (.int b) => P b
      | _ => False) (hq : Q (.v .dat (.int (a0 + ((as.filter c).map f).sum)))) : GenS t pt pe gw PX Q a0 (as.map inj) := by
  induction as generalizing a0 with
  | nil => simpa [GenS] using hq
  | cons a as ih =>
    refine ht a (.head _) _ (hc a (.head _) _ ⟨fun z => he a (.head _) z _ (ih _ (fun b hb => ht b (.tail _ hb)) (fun b hb => hc b (.tail _ hb)) (fun b hb => he b (.tail _ hb)) ?_), fun z => ih _ (fun b hb => ht b (.tail _ hb)) (fun b hb => hc b (.tail _ hb)) (fun b hb => he b (.tail _ hb)) ?_⟩)
    · rw [List.filter_cons_of_pos z] at hq
      rw [List.map_cons, List.sum_cons, ← Int.add_assoc] at hq
      exact hq
    · rw [List.filter_cons_of_neg (by simp [z])] at hq
      exact hq
/-- the ints of data -/
def intsOf : List PyData → List Int
  | [] => []
  | .int i :: r => i :: intsOf r
  | _ :: r => 0 :: intsOf r
theorem intsOf_map (ns : List Int) : intsOf (ns.map PyData.int) = ns := by
  induction ns with
  | nil => rfl
  | cons n ns ih => simp [intsOf, ih]
theorem intsOf_app (a b : List PyData) : intsOf (a ++ b) = intsOf a ++ intsOf b := by
  induction a with
  | nil => rfl
  | cons d a ih => cases d <;> simp [intsOf, ih]
theorem intsOf_nil : intsOf [] = [] := rfl
theorem intsOf_int (i : Int) (r : List PyData) : intsOf (.int i :: r) = i :: intsOf r := rfl
/-- data that are ints -/
def isInts (ds : List PyData) : Prop := ds = (intsOf ds).map PyData.int
theorem isInts_map (ns : List Int) : isInts (ns.map PyData.int) = True := by simp [isInts, intsOf_map]
theorem isInts_nil : isInts [] = True := by simp [isInts, intsOf]
theorem isInts_int (i : Int) (r : List PyData) : isInts (.int i :: r) = isInts r := by simp [isInts, intsOf]
theorem isInts_app {a b : List PyData} : isInts a → isInts b → isInts (a ++ b) := fun h1 h2 => by
  unfold isInts at h1 h2 ⊢
  rw [intsOf_app, List.map_append, ← h1, ← h2]
theorem isInts_mapL (ns : List Int) (r : List PyData) : isInts (ns.map PyData.int ++ r) = isInts r := by
  apply propext
  refine ⟨fun h => ?_, fun h => isInts_app (by rw [isInts_map]; trivial) h⟩
  unfold isInts at h ⊢
  rw [intsOf_app, List.map_append, intsOf_map] at h
  exact List.append_cancel_left h
theorem eqF_int {i j : Int} : eqF (.int i) (.int j) = some (decide (i = j)) := rfl
theorem eqF_str {i j : Str} : eqF (.str i) (.str j) = some (decide (i = j)) := rfl
theorem eqF_bool {i j : Bool} : eqF (.bool i) (.bool j) = some (decide (i = j)) := rfl
theorem eqF_ni {j : Int} : eqF .none (.int j) = some false := rfl
theorem eqF_in {j : Int} : eqF (.int j) .none = some false := rfl
theorem eqF_nn : eqF .none .none = some true := rfl
theorem eqF_si {i : Str} {j : Int} : eqF (.str i) (.int j) = some false := rfl
theorem eqF_is {i : Str} {j : Int} : eqF (.int j) (.str i) = some false := rfl
theorem eqF_sn {i : Str} : eqF (.str i) .none = some false := rfl
theorem eqF_ns {i : Str} : eqF .none (.str i) = some false := rfl
theorem allD_map (t : Tg) (ds : List PyData) : allD (ds.map fun d => Rs.v t d) = some ds := by
  induction ds with
  | nil => rfl
  | cons d ds ih => rw [List.map_cons, allD, ih]
theorem allD_mapA (t : Tg) (ds : List PyData) (r : List Rs) : allD ((ds.map fun d => Rs.v t d) ++ r) = match allD r with
    | some es => some (ds ++ es)
    | none => none := by
  induction ds with
  | nil => cases e : allD r <;> simp [e]
  | cons d ds ih =>
    rw [List.map_cons, List.cons_append, allD, ih]
    cases allD r <;> rfl
theorem allS_map (ds : List PyData) : allS (ds.map fun d => Rs.v .dat d) = true := by
  induction ds with
  | nil => rfl
  | cons d ds ih => rw [List.map_cons, allS, ih]; rfl
theorem allS_mapA (ds : List PyData) (r : List Rs) : allS ((ds.map fun d => Rs.v .dat d) ++ r) = allS r := by
  induction ds with
  | nil => rfl
  | cons d ds ih => rw [List.map_cons, List.cons_append, allS, ih]; rfl
theorem flat_rep {α : Type} {n : Nat} {d : α} : (List.replicate n [d]).flatten = List.replicate n d := by
  induction n with
  | zero => rfl
  | succ n ih => rw [List.replicate_succ, List.flatten_cons, ih]; rfl
theorem fitsL {i : Int} (h1 : -100000000 ≤ i) (h2 : i ≤ 100000000) : Builtin.Range.rangeFitsLong i = true := by
  unfold Builtin.Range.rangeFitsLong
  refine Bool.and_eq_true_iff.mpr ⟨decide_eq_true ?_, decide_eq_true ?_⟩
  · omega
  · omega
/-- range(a, b, c) upwards: as many turns as said -/
theorem rgc_up {a b c : Int} {n : Nat} (hc : 1 ≤ c) (hc2 : c ≤ 1000000) (ha : -1000000 ≤ a) (ha2 : a ≤ 1000000) (hb : -1000000 ≤ b) (hb2 : b ≤ 1000000) (hn : (n : Int) ≤ 3000000) (h : (if a < b then (b - a - 1) / c + 1 else 0) = (n : Int)) : RgC a b c n := by
  have e : Builtin.Range.rangeSize a b c = (n : Int) := by
    unfold Builtin.Range.rangeSize
    rw [if_pos (by omega)]
    exact h
  have h0 : (0 : Int) ≤ (n : Int) := by omega
  clear h
  refine ⟨by omega, by omega, ?_, e⟩
  unfold Builtin.Range.small
  rw [e, fitsL (by omega) (by omega), fitsL (by omega) (by omega), fitsL (by omega) (by omega), fitsL (by omega) (by omega), if_pos (by omega), fitsL (by omega) (by omega)]
  rw [Bool.or_true]
  rfl
theorem plain0 {C : Addr} : Er.plain ⟨C, none⟩ := fun _ z => by cases z
theorem plain1 {C : Addr} {x : Str} {d : PyData} (h : flatD d = true) : Er.plain ⟨C, some [(x, d)]⟩ := fun _ z p hp => by
  cases z
  rw [List.mem_singleton.mp hp]
  exact h
theorem kit_int_int : kitB "int" "int" = some true := by decide +kernel
theorem kit_int_bool : kitB "int" "bool" = some false := by decide +kernel
theorem kit_int_str : kitB "int" "str" = some false := by decide +kernel
theorem kit_int_list : kitB "int" "list" = some false := by decide +kernel
theorem kit_int_tuple : kitB "int" "tuple" = some false := by decide +kernel
theorem kit_bool_int : kitB "bool" "int" = some true := by decide +kernel
theorem kit_bool_bool : kitB "bool" "bool" = some true := by decide +kernel
theorem kit_bool_str : kitB "bool" "str" = some false := by decide +kernel
theorem kit_bool_list : kitB "bool" "list" = some false := by decide +kernel
theorem kit_bool_tuple : kitB "bool" "tuple" = some false := by decide +kernel
theorem kit_str_int : kitB "str" "int" = some false := by decide +kernel
theorem kit_str_bool : kitB "str" "bool" = some false := by decide +kernel
theorem kit_str_str : kitB "str" "str" = some true := by decide +kernel
theorem kit_str_list : kitB "str" "list" = some false := by decide +kernel
theorem kit_str_tuple : kitB "str" "tuple" = some false := by decide +kernel
theorem kit_list_int : kitB "list" "int" = some false := by decide +kernel
theorem kit_list_bool : kitB "list" "bool" = some false := by decide +kernel
theorem kit_list_str : kitB "list" "str" = some false := by decide +kernel
theorem kit_list_list : kitB "list" "list" = some true := by decide +kernel
theorem kit_list_tuple : kitB "list" "tuple" = some false := by decide +kernel
theorem kit_tuple_int : kitB "tuple" "int" = some false := by decide +kernel
theorem kit_tuple_bool : kitB "tuple" "bool" = some false := by decide +kernel
theorem kit_tuple_str : kitB "tuple" "str" = some false := by decide +kernel
theorem kit_tuple_list : kitB "tuple" "list" = some false := by decide +kernel
theorem kit_tuple_tuple : kitB "tuple" "tuple" = some true := by decide +kernel
theorem kit_NoneType_int : kitB "NoneType" "int" = some false := by decide +kernel
theorem kit_NoneType_bool : kitB "NoneType" "bool" = some false := by decide +kernel
theorem kit_NoneType_str : kitB "NoneType" "str" = some false := by decide +kernel
theorem kit_NoneType_list : kitB "NoneType" "list" = some false := by decide +kernel
theorem kit_NoneType_tuple : kitB "NoneType" "tuple" = some false := by decide +kernel
theorem isiQ_s {b : Bool} {Q : Rs → Prop} : isiQ (some b) Q = Q (.v .dat (.bool b)) := rfl
/-! the law's script -/
def scr (K : PySem.W.Frag) (ns : List Int) : Asr where
  a := fun v H => ∃ a, v = .ref a ∧ SqL K H a (ns.map V.int)
  mono := fun v H H' s ⟨a, e, h⟩ => ⟨a, e, s.seq h⟩
  key := ns
theorem scr_key {K : PySem.W.Frag} (ns : List Int) : (scr K ns).key = ns := rfl
section
variable {P : Program} {w : World} {K : PySem.W.Frag} {Ps : List Addr} {mg : Str → Option Value} {base : Heap} {st : Stmt} {f : Addr} {fd : FuncData} {N : List Str} {k : Nat}
/-- law's promise where no tables are -/
def spLaw (K : PySem.W.Frag) : Sp := fun vs H Q _ => ∃ (a : Addr) (ns : List Int), vs = [.ref a] ∧ SqL K H a (ns.map V.int) ∧ ns.length ≤ 63 ∧ ∀ H', Q (.bl true) H'
/-- the law -/
theorem pv_law (Fn : Fun K "law" "law" st f fd) (S : FnScope N ["script"] (defScope st))
    (hb : ∀ (cdv : Value) (A : Around) (outer : List PySem.Env) (s : Shared) (H : Hp) (E : XK), Room k (A.deeper (envOfC "law" (defScope st) s.heap.objs.size f cdv)) →
      ∃ t p, PSs (cxOf CX0 P w K mg base N "law" (defScope st) f cdv A outer s H E).nox (defBody st) t ∧ LS K Ps W0 t p ∧ ∀ (ns : List Int) (PQ : Rs → Prop), ns.length ≤ 63 → PQ (.v .dat (.bool true)) → p (ends PQ fun _ => False) (startG N.length [.obj (scr K ns)])) :
    FnOk P w K mg base CX0 (k + 1) f fd ["script"] (GX.spLawT K Ps) := by
  have h := pv_fn (P := P) (w := w) (mg := mg) (base := base) (k := k) (Ps := Ps) (psp := sg 1 fun as _ Q => ∃ ns : List Int, as = [.obj (scr K ns)] ∧ ns.length ≤ 63 ∧ Q (.v .dat (.bool true))) Fn S (fun as PX PQ h => h.1) fun cdv A outer s H E hr => by
    obtain ⟨t, p, h1, h2, h3⟩ := hb cdv A outer s H E hr
    refine ⟨t, p, h1, h2, fun as PX PQ h => ?_⟩
    obtain ⟨_, ns, rfl, hl, q⟩ := h
    exact h3 ns PQ hl q
  refine h.imp fun vs H Q E q => ?_
  obtain ⟨a, ns, rfl, hS, hl, tb, kQ⟩ := q
  refine ⟨[], [.obj (scr K ns)], fun _ => False, fun r => r = .v .dat (.bool true), (fun _ z => by cases z), .obj ⟨a, rfl, by rw [off_nil]; exact hS⟩ .nil, tb, ⟨rfl, ns, rfl, hl, rfl⟩, fun r v H2 _ hr e => ?_, fun _ _ _ _ _ _ z => z.elim⟩
  subst e
  cases hr
  exact kQ H2
theorem pv_law0 (Fn : Fun K "law" "law" st f fd) (S : FnScope N ["script"] (defScope st))
    (hb : ∀ (cdv : Value) (A : Around) (outer : List PySem.Env) (s : Shared) (H : Hp) (E : XK), Room k (A.deeper (envOfC "law" (defScope st) s.heap.objs.size f cdv)) →
      ∃ t p, PSs (cxOf CX0 P w K mg base N "law" (defScope st) f cdv A outer s H E).nox (defBody st) t ∧ LS K [] W0 t p ∧ ∀ (ns : List Int) (PQ : Rs → Prop), ns.length ≤ 63 → PQ (.v .dat (.bool true)) → p (ends PQ fun _ => False) (startG N.length [.obj (scr K ns)])) :
    FnOk P w K mg base CX0 (k + 1) f fd ["script"] (spLaw K) := (pv_law Fn S hb).imp fun vs H Q E ⟨a, ns, e, hS, hl, kQ⟩ => ⟨a, ns, e, hS, hl, (fun _ z => by cases z), kQ⟩
end
end PV

namespace PV
open PySem PySem.Spec PyProof.Rows L2 Cm
open GX (Sm)
/-! ##### zip(*rows) -/
/-- the i-th item of a row -/
def itD (i : Nat) : PyData → PyData
  | .list xs => xs.getD i .none
  | _ => .none
def colsD (ds : List PyData) (m : Nat) : List PyData := (List.range m).map fun i => .tuple (ds.map (itD i))
def rowsM (ds : List PyData) (m : Nat) : Prop := ∀ d ∈ ds, ∃ xs, d = .list xs ∧ xs.length = m
section
variable {K : PySem.W.Frag} {Ps : List Addr} {W : WX} {F : Fr} {g : Gm} {σ : L2.St} {H H1 H2 : Hp}
theorem rp_lists {V0 : Hp} {m : Nat} : ∀ {vs : List V} {ds : List PyData}, RpAll K V0 vs ds → rowsM ds m → ∃ ls : List Addr, vs = ls.map V.ref ∧ ls.length = ds.length ∧ ∀ (k : Nat) (l : Addr), ls[k]? = some l → ∃ us xs, ds[k]? = some (.list xs) ∧ xs.length = m ∧ V0 l = some (.lst us) ∧ RpAll K V0 us xs
  | _, _, .nil, _ => ⟨[], rfl, rfl, fun k l h => by simp at h⟩
  | _, d :: ds, .cons h r, hm => by
    obtain ⟨ls, rfl, hl, h3⟩ := rp_lists r fun d hd => hm d (List.mem_cons_of_mem _ hd)
    obtain ⟨xs, rfl, hx⟩ := hm d (List.mem_cons_self ..)
    cases h with
    | @lst a us _ h1 h2 =>
      refine ⟨a :: ls, rfl, by simp [hl], fun k l hk => ?_⟩
      cases k with
      | zero =>
        cases hk
        exact ⟨us, xs, rfl, hx, h1, h2⟩
      | succ k =>
        obtain ⟨us, xs, h4, h5⟩ := h3 k l (by simpa using hk)
        exact ⟨us, xs, by simpa using h4, h5⟩
theorem RpAll.of_get {V0 : Hp} : ∀ {vs : List V} {ds : List PyData}, vs.length = ds.length → (∀ (k : Nat) v d, vs[k]? = some v → ds[k]? = some d → Rp K V0 v d) → RpAll K V0 vs ds
  | [], [], _, _ => .nil
  | [], _ :: _, h, _ => by simp at h
  | _ :: _, [], h, _ => by simp at h
  | v :: vs, d :: ds, h, f => .cons (f 0 v d rfl rfl) (RpAll.of_get (by simpa using h) fun k v d h1 h2 => f (k + 1) v d (by simpa using h1) (by simpa using h2))
theorem wok_zipN {V0 : Hp} {m : Nat} {ls : List Addr} {ds : List PyData} (hm : rowsM ds m) (h0 : ds = [] → m = 0) (hl : ls.length = ds.length) (hr : ∀ (k : Nat) (l : Addr), ls[k]? = some l → ∃ us xs, ds[k]? = some (.list xs) ∧ xs.length = m ∧ V0 l = some (.lst us) ∧ RpAll K V0 us xs) : WOk K V0 (ZX.ItZ K ls) (colsD ds m) where
  go := fun i H L hi e => by
    have hi : i < m := by simpa [colsD] using hi
    refine ⟨?_, fun l hl2 => ?_⟩
    · rw [hl]
      cases ds with
      | nil => exact absurd (h0 rfl) (by omega)
      | cons _ _ => simp
    · obtain ⟨k, hk⟩ := List.mem_iff_getElem?.mp hl2
      obtain ⟨us, xs, _, h2, h3, h4⟩ := hr k l hk
      have hlen := h4.length
      exact ⟨us, us[i]'(by omega), SqL.of (off_some (e.l h3)).2, List.getElem?_eq_getElem (by omega)⟩
  stop := fun H L e => by
    intro l hk
    obtain ⟨us, xs, _, h2, h3, h4⟩ := hr 0 l hk
    exact ⟨us, SqL.of (off_some (e.l h3)).2, by rw [h4.length, h2]; simp [colsD]⟩
  yld := fun i H L x H' hi e hL y => by
    have hi : i < m := by simpa [colsD] using hi
    obtain ⟨T, ys, rfl, hT, rfl, hyl, hys⟩ := y
    have s := sm_new (o := .tup ys) (Sm.refl H) hT
    have s2 : Sm (off H L) (off (upd H T (.tup ys)) L) := sm_off s fun _ z => .inl z
    refine ⟨s, .tuple (ds.map (itD i)), by simp [colsD, List.getElem?_map, List.getElem?_range hi], .tup (SqT.of ?_) (RpAll.of_get (by rw [hyl, hl, List.length_map]) fun k v d h1 h2 => ?_)⟩
    · rw [off_ne fun z => (hL T z).ne (NewTo.none hT) rfl]
      exact upd_same
    · have hk : k < ls.length := by
        have := (List.getElem?_eq_some_iff.mp h1).1
        omega
      obtain ⟨us, xs, h3, h4, h5, h6⟩ := hr k _ (List.getElem?_eq_getElem hk)
      rw [List.getElem?_map, h3] at h2
      cases h2
      have hu := hys k _ us (List.getElem?_eq_getElem hk) (SqL.of (off_some (e.l h5)).2)
      rw [h1] at hu
      obtain ⟨d2, h7, h8⟩ := h6.getV hu
      have e3 : itD i (.list xs) = d2 := by
        show xs.getD i .none = d2
        rw [List.getD_eq_getElem?_getD, h7]
        rfl
      rw [e3]
      exact (h8.mono e).mono s2
def pZipS (pa : GE) : GI := fun g PX Q => pa g PX fun x => match x with
  | .v t (.list ds) => t.ok = true ∧ ∃ m, rowsM ds m ∧ (ds = [] → m = 0) ∧ ds.length ≤ 100000 ∧ Q (colsD ds m)
  | .v t (.tuple ds) => t.ok = true ∧ ∃ m, rowsM ds m ∧ (ds = [] → m = 0) ∧ ds.length ≤ 100000 ∧ Q (colsD ds m)
  | _ => False
theorem li_zipS {te : TE} {pa : GE} (ha : LE K Ps W te pa) : LI K Ps W (ZX.iZipN K te) (pZipS pa) := fun F g σ H R PX PQ I w h k =>
  ha F g σ H _ PX _ I w h fun x v H1 e1 r1 h1 => by
    split at h1
    · next t ds =>
      obtain ⟨ht, m, hm, h0, hn, q⟩ := h1
      have hr := r1.dat I e1 ht
      cases hr with
      | @lst a vs _ hp ha =>
        obtain ⟨ls, rfl, hl, h3⟩ := rp_lists ha hm
        refine ⟨a, ls, rfl, .inr (SqL.of (off_some hp).2), by omega, fun l hl2 => ?_, k _ _ _ e1 (wok_zipN hm h0 hl h3) q⟩
        obtain ⟨j, hj⟩ := List.mem_iff_getElem?.mp hl2
        obtain ⟨us, xs, _, _, h5, _⟩ := h3 j l hj
        exact ⟨us, SqL.of (off_some h5).2⟩
    · next t ds =>
      obtain ⟨ht, m, hm, h0, hn, q⟩ := h1
      have hr := r1.dat I e1 ht
      cases hr with
      | @tup a vs _ hp ha =>
        obtain ⟨ls, rfl, hl, h3⟩ := rp_lists ha hm
        refine ⟨a, ls, rfl, .inl (sm_hide.tup hp), by omega, fun l hl2 => ?_, k _ _ _ e1 (wok_zipN hm h0 hl h3) q⟩
        obtain ⟨j, hj⟩ := List.mem_iff_getElem?.mp hl2
        obtain ⟨us, xs, _, _, h5, _⟩ := h3 j l hj
        exact ⟨us, SqL.of (off_some h5).2⟩
    · exact h1.elim
end
end PV

namespace PV
open PySem PySem.Spec PyProof.Rows L2 Cm
open GX (Sm)
section
variable {K : PySem.W.Frag} {Ps : List Addr} {W : WX} {F : Fr} {g : Gm} {σ : L2.St} {H H1 H2 : Hp}
/-! ##### tables of one's own -/
theorem own_nd {x : Option Sl} : ∀ {g : Gm} {i : Nat}, (owns g).Nodup → g[i]? = some x → (ownsOf x).Nodup
  | [], _, _, e => by simp at e
  | y :: g, 0, nd, e => by
    simp at e
    subst e
    exact (List.nodup_append.mp nd).1
  | y :: g, i + 1, nd, e => own_nd (g := g) (i := i) (List.nodup_append.mp nd).2.1 (by simpa using e)
/-- t[r][c] = e -/
def pSetIx2 (j : Nat) (pr pc pa : GE) : GS := fun PD g => match g[j]? with
  | some (some (.tab p rs rows)) => pa g (PD.ex g) fun r => pr g (PD.ex g) fun ix => match ix with
    | .v _ (.int k) => ∃ n row, ixN rows.length k = some n ∧ rows[n]? = some row ∧ pc g (PD.ex g) fun ic => match r, ic with
      | .v t d, .v _ (.int l) => t.ok = true ∧ ∃ m, ixN row.length l = some m ∧ PD.nx (g.set j (some (.tab p rs (rows.set n (row.set m d)))))
      | _, _ => False
    | _ => False
  | _ => False
theorem ls_setix2 {j : Nat} {te tr tc : TE} {pa pr pc : GE} (ha : LE K Ps W te pa) (hr : LE K Ps W tr pr) (hc : LE K Ps W tc pc) : LS K Ps W (tAsg te (gSub (tOp (rIxL K) (tVar j) tr) tc rSetL)) (pSetIx2 j pr pc pa) := fun F D σ H PD g I E h => by
  unfold pSetIx2 at h
  split at h
  · next p rs rows e =>
    obtain ⟨u, h1, rfl, h2, h3⟩ := I.sl.get e
    have nd : (p :: rs).Nodup := own_nd I.nd e
    refine ha F g σ H _ _ _ I (E.wx I) h fun r v H1 e1 r1 q => ⟨_, h1, hr F g σ H1 _ _ _ (I.step e1) (E.wx (I.step e1)) q fun ix w H2 e2 r2 q2 => ?_⟩
    split at q2
    · next t2 k =>
      obtain ⟨n, row, hn, hrow, q2⟩ := q2
      have e12 := e1.trans e2
      have I2 := I.step e12
      cases r2.rp (I.step e1) e2
      have h3' := h3.mono e12 (sm_off e12 fun _ z => .inl z)
      obtain ⟨ra, vs, g1, g2, g3⟩ := h3'.get hrow
      refine ⟨p, rs.map V.ref, k, .ref ra, rfl, rfl, SqL.of (e12.l h2), ?_, ?_⟩
      · unfold atI
        rw [List.length_map, h3'.length, hn]
        show (rs.map V.ref)[n]? = _
        rw [List.getElem?_map, g1]
        rfl
      refine hc F g σ H2 _ _ _ I2 (E.wx I2) q2 fun ic z H3 e3 r3 q3 => ?_
      split at q3
      · next t d t3 l =>
        obtain ⟨ho, m, hm, q3⟩ := q3
        cases r3.rp I2 e3
        have e13 := e12.trans e3
        have hma : ra ∈ rs := List.mem_of_getElem? g1
        refine ⟨ra, vs, l, m, rfl, rfl, e3.l g2, by rw [g3.length]; exact hm, E.nx _ σ _ ((I.step e13).putAt (x := .tab p rs (rows.set n (row.set m d))) (y := .tab p rs rows) e h1 rfl (List.mem_cons_of_mem _ hma) ⟨rfl, ?_, ?_⟩) q3⟩
        · rw [upd_ne fun z => (List.nodup_cons.mp nd).1 (by rw [z]; exact hma)]
          exact e13.l h2
        · exact TabR.set (RpAll.set m ((r1.step e1 (e2.trans e3)).dat I e13 ho) (g3.mono (sm_off e3 fun _ z => .inl z))) (List.nodup_cons.mp nd).2 g1 (h3.mono e13 (sm_off e13 fun _ z => .inl z))
      · exact q3.elim
    · exact q2.elim
  · exact h.elim
/-- a table of one's own is handed out -/
def pRetT (j : Nat) : GS := fun PD g => match g[j]? with
  | some (some (.tab _ _ rows)) => PD.rt (.v .ft (.list (rows.map PyData.list)))
  | _ => False
theorem ls_retT {j : Nat} : LS K Ps W (tRet (tVar j)) (pRetT j) := fun F D σ H PD g I E h => by
  unfold pRetT at h
  split at h
  · next p rs rows e =>
    obtain ⟨u, h1, rfl, h2, h3⟩ := I.sl.get e
    have hm : ∀ a ∈ p :: rs, a ∈ owns g := fun a ha => mem_ownsOf (x := some (.tab p rs rows)) ha (List.mem_of_getElem? e)
    refine ⟨_, h1, E.rt (.v .ft (.list (rows.map PyData.list))) _ H I.sm ⟨p, rs, rows, rfl, rfl, (I.nw p (hm p (List.mem_cons_self ..))).1, fun r hr => (I.nw r (hm r (List.mem_cons_of_mem _ hr))).1, own_nd I.nd e, h2, h3.mono (Sm.refl _) (sm_sub fun a z => ?_)⟩ h⟩
    rcases List.mem_append.mp z with z | z
    · exact List.mem_append_right _ (hm a z)
    · rw [show owns [] = [] from rfl, List.append_nil] at z
      exact List.mem_append_left _ z
  · exact h.elim
/-- a new list of another is hidden -/
theorem Env.hide1 (I : Env K Ps F g σ H) (e : Sm H H2) {r : Addr} (hn : NewTo H r) (hh : Hid H2 r) {L : List Addr} (hL : ∀ a, a ∈ L → a = r ∨ a ∈ F.L0) : Env K Ps ⟨F.H0, L⟩ g σ H2 := by
  have J := I.step e
  refine ⟨I.sl.mono e (sm_off e fun a z => ?_), J.sm, J.tb, fun q z => (hL q z).elim (fun y => by rw [y]; exact hh) (J.hd q), J.nd, fun q z => ⟨(J.nw q z).1, fun y => ?_, (J.nw q z).2.2⟩⟩
  · rcases List.mem_append.mp z with z | z
    · rcases hL a z with rfl | z
      · exact .inr hn
      · exact .inl (List.mem_append_left _ z)
    · exact .inl (List.mem_append_right _ z)
  · rcases hL q y with rfl | y
    · exact (I.nw q z).2.2.ne hn rfl
    · exact (J.nw q z).2.1 y
theorem TabR.snoc {V0 : Hp} {r : Addr} {vs : List V} {row : List PyData} (h1 : H r = some (.lst vs)) (h2 : RpAll K V0 vs row) : ∀ {rs : List Addr} {rows : List (List PyData)}, TabR K H V0 rs rows → TabR K H V0 (rs ++ [r]) (rows ++ [row])
  | _, _, .nil => .cons h1 h2 .nil
  | _, _, .cons a b c => .cons a b (TabR.snoc h1 h2 c)
/-- a comprehension whose items are new lists -/
def CompF (t : Tgt) (pt : GT) (pe : GE) (gw : Gm) (PX : Er → Prop) (k : List (List PyData) → Prop) : List (List PyData) → List PyData → Prop
  | acc, [] => k acc
  | acc, x :: xs => pTgt t x gw fun g' => pt g' PX fun b => (b = true → pe g' PX fun r => match r with
      | .v .fr (.list row) => acc.length < sizeLine ∧ CompF t pt pe gw PX k (acc ++ [row]) xs
      | _ => False) ∧ (b = false → CompF t pt pe gw PX k acc xs)
def pLcF (pi : GI) (t : Tgt) (pt : GT) (pe : GE) (vs : List Nat) : GE := fun g PX Q => owns (wipeG g vs) = owns g ∧ pi g PX fun items => CompF t pt pe (wipeG g vs) PX (fun out => Q (.v .ft (.list (out.map PyData.list)))) [] items
theorem le_lcF {wi : TI} {tt : TT} {te : TE} {vs : List Nat} {pi : GI} {pt : GT} {pe : GE} (t : Tgt) (hs : ∀ j, j ∈ tgV t → j ∈ vs) (hW : NoSlot W) (hi : LI K Ps W wi pi) (ht : LT K Ps W tt pt) (he : LE K Ps W te pe) :
    LE K Ps W (tLc wi (tgT K t) tt te vs) (pLcF pi t pt pe vs) := fun F g σ H Q PX PQ I w h k =>
  hi F g σ H _ _ _ I w h.2 fun J H1 items e1 wk q => fun D hD => by
    have how := h.1
    have I1 := I.step e1
    obtain ⟨s1, hnD, hDn, hv⟩ := new_in (o := .lst []) I1 (Sm.refl H1) hD
    have nF : NewTo F.H0 D := hnD.back I1.sm
    have J0 := (Env.hide (vs := []) I1 hD).wipe vs
    let Inv : Nat → Hp → Prop := fun i H' => ∃ rs acc, Env K Ps ⟨F.H0, D :: rs ++ F.L0⟩ (wipeG g vs) (wipe σ vs) H' ∧ Sm H1 H' ∧ H' D = some (.lst (rs.map V.ref)) ∧ TabR K H' (off H' (D :: rs ++ (F.L0 ++ owns g))) rs acc ∧ (∀ r ∈ rs, NewTo H1 r) ∧ (D :: rs).Nodup ∧
      Sm (off H1 (F.L0 ++ owns g)) (off H' (D :: rs ++ (F.L0 ++ owns g))) ∧ CompF t pt pe (wipeG g vs) PX (fun out => PQ (.v .ft (.list (out.map PyData.list)))) acc (items.drop i)
    refine ⟨fun i m H' => m = items.length - i ∧ i ≤ items.length ∧ Inv i H', ⟨items.length, by simp, Nat.zero_le _, [], [], J0, s1, upd_same, .nil, (fun r hr => by cases hr), List.nodup_cons.mpr ⟨by simp, List.nodup_nil⟩, hv _, by rw [List.drop_zero]; exact q⟩, ?_⟩
    rintro i m H' ⟨rfl, hi, rs, acc, J', e', hws, hacc, hrs, nd, st, q⟩
    by_cases hlt : i < items.length
    · refine .inr ⟨wk.go i H' _ hlt st, fun H2 => Inv (i + 1) H2, fun H2 z => ⟨items.length - (i + 1), by omega, rfl, hlt, z⟩, fun x H2 y => ?_⟩
      have hL : ∀ q ∈ D :: rs ++ (F.L0 ++ owns g), Hid H' q := fun q hq => hidden J' (by rw [how, List.append_assoc]; exact hq)
      obtain ⟨s, d, hd, hr⟩ := wk.yld i H' _ x H2 hlt st hL y
      rw [drop_get hd] at q
      have hr' : Rp K (off H2 (D :: rs ++ F.L0 ++ owns (wipeG g vs))) x d := by rw [how, List.append_assoc]; exact hr
      refine tgt_ok t (J'.step s) hr' (tgt_owns t (fun j hj => wipeG_no (hs j hj)) q) fun g2 σ2 I2 _ hj hn ⟨q2, ho2, _⟩ => ⟨wipe_of hs hn hj, ?_⟩
      have w2 : ∀ {H3}, Sm H1 H3 → Wx K W ⟨F.H0, D :: rs ++ F.L0⟩ σ2 H3 PX := fun {H3} e3 er cls d H4 s4 r4 p4 => hW _ _ _ _ _ (w er cls d H4 ((e1.trans e3).trans s4) (r4.sub fun a z => List.mem_append_right _ z) p4)
      refine ht _ g2 σ2 H2 _ PX _ I2 (w2 (e'.trans s)) q2 fun b H3 e3 q3 => ?_
      have s3 := s.trans e3
      cases b with
      | false =>
        exact iteF ⟨rs, acc, J'.step s3, e'.trans s3, s3.l hws, hacc.mono s3 (sm_off s3 fun _ z => .inl z), hrs, nd, st.trans (sm_off s3 fun _ z => .inl z), q3.2 rfl⟩
      | true =>
        refine iteT (he _ g2 σ2 H3 _ PX _ (I2.step e3) (w2 (e'.trans s3)) (q3.1 rfl) fun r y H4 e4 r4 q4 => ?_)
        split at q4
        · next row =>
          have s4 := s3.trans e4
          obtain ⟨p, us, xs, z, rfl, hn4, hp, ha⟩ := r4
          cases z
          have hpD : p ≠ D := (Hid.lst (s3.l hws)).ne hn4
          have hpr : p ∉ rs := fun z => by
            obtain ⟨vs', z2⟩ := hacc.hid p z
            exact (Hid.lst (s3.l z2)).ne hn4 rfl
          have nd2 : (D :: (rs ++ [p])).Nodup := by
            obtain ⟨n1, n2⟩ := List.nodup_cons.mp nd
            refine List.nodup_cons.mpr ⟨fun z => ?_, List.nodup_append.mpr ⟨n2, List.nodup_cons.mpr ⟨by simp, List.nodup_nil⟩, fun a ha b hb e => ?_⟩⟩
            · rcases List.mem_append.mp z with z | z
              · exact n1 z
              · exact hpD (List.mem_singleton.mp z).symm
            · rw [List.mem_singleton.mp hb] at e
              exact hpr (e ▸ ha)
          have vis : Sm (off H' (D :: rs ++ (F.L0 ++ owns g))) (off H4 (D :: (rs ++ [p]) ++ (F.L0 ++ owns g))) := sm_off s4 fun a z => by
            rcases List.mem_append.mp z with z | z
            · rcases List.mem_cons.mp z with rfl | z
              · exact .inl (List.mem_append_left _ (List.mem_cons_self ..))
              · rcases List.mem_append.mp z with z | z
                · exact .inl (List.mem_append_left _ (List.mem_cons_of_mem _ z))
                · rw [List.mem_singleton.mp z]
                  exact .inr (hn4.back s3)
            · exact .inl (List.mem_append_right _ z)
          have J4 : Env K Ps ⟨F.H0, D :: (rs ++ [p]) ++ F.L0⟩ (wipeG g vs) (wipe σ vs) H4 := (J'.step s3).hide1 e4 hn4 (.lst hp) fun a z => by
            rcases List.mem_append.mp z with z | z
            · rcases List.mem_cons.mp z with rfl | z
              · exact .inr (List.mem_append_left _ (List.mem_cons_self ..))
              · rcases List.mem_append.mp z with z | z
                · exact .inr (List.mem_append_left _ (List.mem_cons_of_mem _ z))
                · exact .inl (List.mem_singleton.mp z)
            · exact .inr (List.mem_append_right _ z)
          have ho : ∀ {u}, off (upd H4 D u) (D :: (rs ++ [p]) ++ (F.L0 ++ owns g)) = off H4 (D :: (rs ++ [p]) ++ (F.L0 ++ owns g)) := fun {u} => off_upd (List.mem_append_left _ (List.mem_cons_self ..))
          refine ⟨rs.map V.ref, s4.l hws, by rw [List.length_map, hacc.length]; exact q4.1, rs ++ [p], acc ++ [row], J4.hid_upd (List.mem_append_left _ (List.mem_cons_self ..)) nF, sm_upd (e'.trans s4) (NewTo.none hD), ?_, ?_, fun r hr => ?_, nd2, ?_, q4.2⟩
          · rw [upd_same, List.map_append]
            rfl
          · rw [ho]
            refine TabR.snoc (by rw [upd_ne hpD]; exact hp) (ha.mono (sm_sub fun a z => ?_)) (hacc.imp vis fun r hr vs' h => ?_)
            · rw [ho2, how]
              rcases List.mem_append.mp z with z | z
              · rcases List.mem_cons.mp z with rfl | z
                · exact List.mem_cons_of_mem _ (List.mem_append_left _ (List.mem_append_left _ (List.mem_cons_self ..)))
                · rcases List.mem_append.mp z with z | z
                  · exact List.mem_cons_of_mem _ (List.mem_append_left _ (List.mem_append_left _ (List.mem_cons_of_mem _ z)))
                  · rw [List.mem_singleton.mp z]
                    exact List.mem_cons_self ..
              · refine List.mem_cons_of_mem _ ?_
                rw [List.append_assoc]
                exact List.mem_append_right _ z
            · rw [upd_ne fun z => (List.nodup_cons.mp nd).1 (by rw [← z]; exact hr)]
              exact s4.l h
          · rcases List.mem_append.mp hr with hr | hr
            · exact hrs r hr
            · rw [List.mem_singleton.mp hr]
              exact hn4.back (e'.trans s3)
          · rw [ho]
            exact st.trans vis
        · exact q4.elim
    · have : i = items.length := by omega
      subst this
      rw [List.drop_length] at q
      exact .inl ⟨wk.stop H' _ st, k (.v .ft (.list (acc.map PyData.list))) _ _ (e1.trans e') ⟨D, rs, acc, rfl, rfl, hnD.back e1, fun r hr => (hrs r hr).back e1, nd, hws, hacc⟩ q⟩
theorem compF_map {α : Type} {inj : α → PyData} {f : α → List PyData} {t : Tgt} {pe : GE} {gw : Gm} {PX : Er → Prop} {k : List (List PyData) → Prop} (gs : α → Gm) (as : List α) (ht : ∀ a, a ∈ as → ∀ Q : Gm → Prop, Q (gs a) → pTgt t (inj a) gw Q) (hl : as.length ≤ 100000)
    (he : ∀ a, a ∈ as → ∀ P : List PyData → Prop, P (f a) → pe (gs a) PX fun r => match r with
      | .v .fr (.list row) => P row
      | _ => False) (hk : k (as.map f)) : CompF t pYes pe gw PX k [] (as.map inj) := by
  suffices ∀ (as' : List α) (acc : List (List PyData)), (∀ a, a ∈ as' → a ∈ as) → acc.length + as'.length ≤ 100000 → k (acc ++ as'.map f) → CompF t pYes pe gw PX k acc (as'.map inj) from this as [] (fun _ z => z) (by simpa using hl) (by simpa using hk)
  intro as'
  induction as' with
  | nil => intro acc _ _ h; simpa [CompF] using h
  | cons a as' ih =>
    intro acc hm hl hk
    refine ht a (hm a (.head _)) _ ⟨fun _ => ?_, fun z => by cases z⟩
    refine he a (hm a (.head _)) (fun d => acc.length < sizeLine ∧ CompF t pYes pe gw PX k (acc ++ [d]) (as'.map inj)) ⟨small (by rw [List.length_cons] at hl; omega), ih _ (fun b hb => hm b (.tail _ hb)) (by rw [List.length_cons] at hl; simp; omega) ?_⟩
    rw [List.append_assoc]
    exact hk
theorem mapL_inj {a b : List (List PyData)} : (a.map PyData.list = b.map PyData.list) ↔ a = b := by
  constructor
  · intro h
    induction a generalizing b with
    | nil => cases b with
      | nil => rfl
      | cons _ _ => cases h
    | cons x xs ih => cases b with
      | nil => cases h
      | cons y ys =>
        simp only [List.map_cons, List.cons.injEq, PyData.list.injEq] at h
        rw [h.1, ih h.2]
  · exact congrArg _
end
end PV

namespace PV
open PySem PySem.Spec PyProof.Rows L2 Cm
open GX (Sm)
section
variable {K : PySem.W.Frag} {Ps : List Addr} {W : WX} {F : Fr} {g : Gm} {σ : L2.St} {H H1 H2 : Hp}
theorem ownsOf_no : ownsOf none = [] := rfl
theorem ownsOf_dat {d : PyData} : ownsOf (some (.dat d)) = [] := rfl
theorem ownsOf_obj {A : Asr} : ownsOf (some (.obj A)) = [] := rfl
theorem ownsOf_own {p : Addr} {xs : List PyData} : ownsOf (some (.own p xs)) = [p] := rfl
theorem ownsOf_dic {p : Addr} {kvs : List (Key × PyData)} : ownsOf (some (.dic p kvs)) = [p] := rfl
theorem ownsOf_tab {p : Addr} {rs : List Addr} {rows : List (List PyData)} : ownsOf (some (.tab p rs rows)) = p :: rs := rfl
/-! ##### methods of lists that give a value -/
def LMV (K : PySem.W.Frag) (Ps : List Addr) (r : V → List V → Hp → VK → Prop) (pr : List PyData → List Rs → (Rs → Prop) → Prop) : Prop := ∀ F g σ H H1 t ds v rs us Q PQ, Env K Ps F g σ H → Sm H H1 → RsR K F g H H1 v (.v t (.list ds)) → RsAll K F g H H1 us rs → pr ds rs PQ → (∀ r u H2, Sm H1 H2 → RsR K F g H H2 u r → PQ r → Q u H2) → r v us H1 Q
def pBMV (pr : List PyData → List Rs → (Rs → Prop) → Prop) (po : GE) (pa : GA) : GE := fun g PX Q => po g PX fun x => match x with
  | .v _ (.list ds) => pa g PX fun rs => pr ds rs Q
  | _ => False
theorem le_bmv {r : V → List V → Hp → VK → Prop} {pr : List PyData → List Rs → (Rs → Prop) → Prop} {to : TE} {ta : TA} {po : GE} {pa : GA} (hm : LMV K Ps r pr) (ho : LE K Ps W to po) (ha : LA K Ps W ta pa) : LE K Ps W (tBM K "list" r to ta) (pBMV pr po pa) := fun F g σ H Q PX PQ I w h k =>
  ho F g σ H _ PX _ I w h fun x v H1 e1 r1 h1 => by
    split at h1
    · next t ds =>
      obtain ⟨p, vs, rfl, hp, _⟩ := r1.items I e1
      refine ⟨.inl ⟨rfl, _, SqL.of hp⟩, ha F g σ H1 _ PX _ (I.step e1) (w.step e1) h1 fun rs us H2 e2 r2 h2 => ?_⟩
      exact hm F g σ H H2 t ds _ rs us Q PQ I (e1.trans e2) (r1.step e1 e2) (r2.back e1) h2 fun r u H3 e3 r3 h3 => k r u H3 ((e1.trans e2).trans e3) r3 h3
    · exact h1.elim
/-- == of plain data -/
def eqD : PyData → PyData → Bool
  | .none, .none => true
  | .bool a, .bool b => a == b
  | .bool a, .int b => (if a then 1 else 0) == b
  | .int a, .bool b => a == (if b then 1 else 0)
  | .int a, .int b => a == b
  | .str a, .str b => a == b
  | _, _ => false
theorem eqV_D {v u : V} {d e : PyData} (h1 : Rp K H v d) (h2 : Rp K H u e) (f1 : flatD d = true) (f2 : flatD e = true) : eqV v u = eqD d e := by
  cases h1 <;> cases h2 <;> first
    | rfl
    | (cases f1; done)
    | (cases f2; done)
theorem flat_VD {v : V} {d : PyData} (h : Rp K H v d) (f : flatD d = true) : flatV v = true := by
  cases h <;> first
    | rfl
    | (cases f; done)
theorem RpAll.flatV : ∀ {vs : List V} {ds : List PyData}, RpAll K H vs ds → ds.all flatD = true → vs.all L2.flatV = true
  | _, _, .nil, _ => rfl
  | _, _, .cons h r, f => by
    rw [List.all_cons, Bool.and_eq_true] at f ⊢
    exact ⟨flat_VD h f.1, RpAll.flatV r f.2⟩
theorem RpAll.count {u : V} {e : PyData} (h2 : Rp K H u e) (f2 : flatD e = true) : ∀ {vs : List V} {ds : List PyData}, RpAll K H vs ds → ds.all flatD = true → (vs.countP fun z => eqV z u) = ds.countP fun d => eqD d e
  | _, _, .nil, _ => rfl
  | _, _, .cons h r, f => by
    rw [List.all_cons, Bool.and_eq_true] at f
    rw [List.countP_cons, List.countP_cons, RpAll.count h2 f2 r f.2, eqV_D h h2 f.1 f2]
def pCount : List PyData → List Rs → (Rs → Prop) → Prop := fun ds rs Q => match rs with
  | [.v _ d] => flatD d = true ∧ ds.all flatD = true ∧ Q (.v .dat (.int ((ds.countP fun e => eqD e d : Nat) : Int)))
  | _ => False
theorem lm_count : LMV K Ps (LCN.rCountL K) pCount := by
  intro F g σ H H1 t ds v rs us Q PQ I e r1 r2 h k
  unfold pCount at h
  split at h
  · next t2 d =>
    obtain ⟨f1, f2, q⟩ := h
    obtain ⟨u, rfl, ru⟩ := rs1 r2
    obtain ⟨p, vs, rfl, hp, ha, _⟩ := r1.items I e
    have hu := ru.bor I e
    refine ⟨p, vs, u, rfl, rfl, SqL.of hp, flat_VD hu f1, ha.flatV f2, k _ _ _ (Sm.refl H1) (rs_dat ?_) q⟩
    rw [ha.count hu f1 f2]
    exact .int _
  · exact h.elim
def pIndex : List PyData → List Rs → (Rs → Prop) → Prop := fun ds rs Q => match rs with
  | [.v _ d] => flatD d = true ∧ ds.all flatD = true ∧ ∃ (j : Nat) (z : PyData), ds[j]? = some z ∧ eqD z d = true ∧ (∀ (m : Nat) (z' : PyData), m < j → ds[m]? = some z' → eqD z' d = false) ∧ Q (.v .dat (.int (j : Int)))
  | _ => False
theorem all_at {ds : List PyData} (f : ds.all flatD = true) {j : Nat} {z : PyData} (h : ds[j]? = some z) : flatD z = true := List.all_eq_true.mp f z (List.mem_of_getElem? h)
theorem lm_index : LMV K Ps (rIndex K) pIndex := by
  intro F g σ H H1 t ds v rs us Q PQ I e r1 r2 h k
  unfold pIndex at h
  split at h
  · next t2 d =>
    obtain ⟨f1, f2, j, z, hz, hzd, hno, q⟩ := h
    obtain ⟨u, rfl, ru⟩ := rs1 r2
    obtain ⟨p, vs, rfl, hp, ha, _⟩ := r1.items I e
    have hu := ru.bor I e
    obtain ⟨y, hy, ry⟩ := ha.get hz
    refine ⟨p, vs, u, j, y, rfl, rfl, SqL.of hp, flat_VD hu f1, ha.flatV f2, hy, by rw [eqV_D ry hu (all_at f2 hz) f1]; exact hzd, fun m z' hm hz' => ?_, k _ _ _ (Sm.refl H1) (rs_dat (.int _)) q⟩
    obtain ⟨d', hd', rd'⟩ := ha.getV hz'
    rw [eqV_D rd' hu (all_at f2 hd') f1]
    exact hno m d' hm hd'
  · exact h.elim
end
end PV

namespace PV
open PySem PySem.Spec PyProof.Rows L2 Cm
open GX (Sm)
section
variable {K : PySem.W.Frag} {Ps : List Addr} {W : WX} {F : Fr} {g : Gm} {σ : L2.St} {H H1 H2 : Hp}
/-! ##### methods of texts with one argument; join; list(zip(a, b)) -/
def LMS (K : PySem.W.Frag) (Ps : List Addr) (r : V → List V → Hp → VK → Prop) (pr : Str → Rs → (Rs → Prop) → Prop) : Prop := ∀ F g σ H H1 a y w Q PQ, Env K Ps F g σ H → Sm H H1 → RsR K F g H H1 w y → pr a y PQ → (∀ r u H2, Sm H1 H2 → RsR K F g H H2 u r → PQ r → Q u H2) → r (.str a) [w] H1 Q
def pM1 (pr : Str → Rs → (Rs → Prop) → Prop) (po pe : GE) : GE := fun g PX Q => po g PX fun x => match x with
  | .v _ (.str a) => pe g PX fun y => pr a y Q
  | _ => False
theorem le_m1 {r : V → List V → Hp → VK → Prop} {pr : Str → Rs → (Rs → Prop) → Prop} {ta tb : TE} {pa pb : GE} (hm : LMS K Ps r pr) (ha : LE K Ps W ta pa) (hb : LE K Ps W tb pb) : LE K Ps W (tM1 r ta tb) (pM1 pr pa pb) := fun F g σ H Q PX PQ I w h k =>
  ha F g σ H _ PX _ I w h fun x v H1 e1 r1 h1 => by
    split at h1
    · next t a =>
      cases r1.rp I e1
      exact ⟨⟨a, rfl⟩, hb F g σ H1 _ PX _ (I.step e1) (w.step e1) h1 fun y u H2 e2 r2 h2 => hm F g σ H H2 a y u Q PQ I (e1.trans e2) (r2.back e1) h2 fun r u H3 e3 r3 h3 => k r u H3 ((e1.trans e2).trans e3) r3 h3⟩
    · exact h1.elim
theorem RpAll.strs : ∀ {vs : List V} {ys : List Str}, RpAll K H vs (ys.map PyData.str) → vs = ys.map V.str
  | [], [], _ => rfl
  | v :: vs, y :: ys, .cons h r => by
    cases h
    rw [RpAll.strs r]
    rfl
def pJoin : Str → Rs → (Rs → Prop) → Prop := fun a y Q => match y with
  | .v _ (.list ds) => ∃ ys : List Str, ds = ys.map PyData.str ∧ (ys.map (·.length)).sum + ys.length * a.length ≤ 16777216 ∧ Q (.v .dat (.str (Txt.join a ys)))
  | .v _ (.tuple ds) => ∃ ys : List Str, ds = ys.map PyData.str ∧ (ys.map (·.length)).sum + ys.length * a.length ≤ 16777216 ∧ Q (.v .dat (.str (Txt.join a ys)))
  | _ => False
theorem lm_join : LMS K Ps (fun x xs H Q => ∃ a p, ∃ ys : List Str, x = .str a ∧ xs = [V.ref p] ∧ (SqL K H p (ys.map V.str) ∨ SqT K H p (ys.map V.str)) ∧ (ys.map (·.length)).sum + ys.length * a.length ≤ 16777216 ∧ Q (.str (Txt.join a ys)) H) pJoin := by
  intro F g σ H H1 a y w Q PQ I e ry h k
  unfold pJoin at h
  split at h
  · next t2 ds =>
    obtain ⟨ys, rfl, hz, q⟩ := h
    obtain ⟨p, vs, rfl, hp, h1, _⟩ := ry.items I e
    have hv := h1.strs
    subst hv
    exact ⟨a, p, ys, rfl, rfl, .inl (SqL.of hp), hz, k _ _ _ (Sm.refl H1) (rs_dat (.str _)) q⟩
  · next t2 ds =>
    obtain ⟨ys, rfl, hz, q⟩ := h
    obtain ⟨p, vs, rfl, hp, h1, _⟩ := ry.itemsT I e
    have hv := h1.strs
    subst hv
    exact ⟨a, p, ys, rfl, rfl, .inr hp, hz, k _ _ _ (Sm.refl H1) (rs_dat (.str _)) q⟩
  · exact h.elim
/-! f-strings -/
def pJs : List GE → Str → Gm → (Er → Prop) → (Str → Prop) → Prop
  | [], acc, _, _, Q => Q acc
  | p :: ps, acc, g, PX, Q => p g PX fun x => match x with
    | .v _ (.str y) => (acc ++ y).length ≤ sizeLine ∧ pJs ps (acc ++ y) g PX Q
    | _ => False
inductive LJ (K : PySem.W.Frag) (Ps : List Addr) (W : WX) : List TE → List GE → Prop
  | nil : LJ K Ps W [] []
  | cons {t : TE} {p : GE} {ts : List TE} {ps : List GE} : LE K Ps W t p → LJ K Ps W ts ps → LJ K Ps W (t :: ts) (p :: ps)
theorem js_ok {ts : List TE} {ps : List GE} (h : LJ K Ps W ts ps) : ∀ (acc : Str) F g σ H (Q : Str → Hp → Prop) PX (PQ : Str → Prop), Env K Ps F g σ H → Wx K W F σ H PX → pJs ps acc g PX PQ → (∀ out H2, Sm H H2 → PQ out → Q out H2) → tJs ts acc σ H Q := by
  induction h with
  | nil => exact fun acc F g σ H Q PX PQ I w h k => k acc H (Sm.refl H) h
  | cons h _ ih =>
    intro acc F g σ H Q PX PQ I w q k
    refine h F g σ H _ PX _ I w q fun x v H1 e1 r1 h1 => ?_
    split at h1
    · next t y =>
      cases r1.rp I e1
      exact ⟨y, rfl, h1.1, ih (acc ++ y) F g σ H1 Q PX PQ (I.step e1) (w.step e1) h1.2 fun out H2 e2 q2 => k out H2 (e1.trans e2) q2⟩
    · exact h1.elim
def pFmt (pe : GE) : GE := fun g PX Q => pe g PX fun x => match x with
  | .v _ (.str y) => y.length ≤ sizeLine ∧ Q (.v .dat (.str y))
  | .v _ (.int i) => i.natAbs.log2 < 1920 ∧ Q (.v .dat (.str (toString i)))
  | _ => False
theorem le_fmt {te : TE} {pe : GE} (he : LE K Ps W te pe) : LE K Ps W (tFmt te) (pFmt pe) := fun F g σ H Q PX PQ I w h k =>
  he F g σ H _ PX _ I w h fun x v H1 e1 r1 h1 => by
    split at h1
    · next t y =>
      cases r1.rp I e1
      exact .inl ⟨y, rfl, h1.1, k (.v .dat (.str y)) _ H1 e1 (rs_dat (.str _)) h1.2⟩
    · next t i =>
      cases r1.rp I e1
      exact .inr ⟨i, rfl, h1.1, k (.v .dat (.str (toString i))) _ H1 e1 (rs_dat (.str _)) h1.2⟩
    · exact h1.elim
def pJoined (ps : List GE) : GE := fun g PX Q => pJs ps Str.empty g PX fun out => Q (.v .dat (.str out))
theorem le_joined {ts : List TE} {ps : List GE} (h : LJ K Ps W ts ps) : LE K Ps W (fun σ H Q => tJs ts Str.empty σ H fun out H1 => Q (.str out) H1) (pJoined ps) := fun F g σ H Q PX PQ I w q k =>
  js_ok h Str.empty F g σ H _ PX _ I w q fun out H2 e2 q2 => k (.v .dat (.str out)) _ H2 e2 (rs_dat (.str _)) q2
end
end PV

/-! ### a constant of the module that is a tuple of tuples; tuple.index -/
namespace CT2
open PySem PySem.Spec PyProof.Rows L2 Cm
def TyT (K : PySem.W.Frag) (r : Addr) : Prop := ∃ o, K.lookup r = some o ∧ o.cls = .type "tuple" ∧ o.dict = none
theorem tyT {K : PySem.W.Frag} {r : Addr} {H : Hp} (h : TyT K r) : tyV K "tuple" (.ref r) H := .inr (.inl ⟨rfl, h⟩)
def RowAt (K : PySem.W.Frag) (r : Addr) (row : List V) : Prop := (∀ H, SqT K H r row) ∧ TyT K r
def CTT (K : PySem.W.Frag) (mg : Str → Option Value) (x : Str) (rows : List (List V)) : Prop := ∃ (p : Addr) (rs : List Addr), mg x = some (.ref p) ∧ (∀ H, SqT K H p (rs.map V.ref)) ∧ Paired (RowAt K) rs rows
theorem ctt_get {α β : Type} {R : α → β → Prop} : ∀ {rs : List α} {rows : List β} {i : Nat} {row : β}, Paired R rs rows → rows[i]? = some row → ∃ r, rs[i]? = some r ∧ R r row
  | _, _, i, _, .nil, h => by simp at h
  | _, _, 0, _, .cons h r, e => by
    simp at e
    subst e
    exact ⟨_, rfl, h⟩
  | _, _, i + 1, _, .cons h r, e => by
    obtain ⟨s, h1, h2⟩ := ctt_get r (by simpa using e)
    exact ⟨s, by simpa using h1, h2⟩
theorem vals_refs : ∀ rs : List Addr, Vals (rs.map V.ref) (rs.map Value.ref)
  | [] => .nil
  | r :: rs => .cons rfl (vals_refs rs)
theorem row_mk {K : PySem.W.Frag} {p : Addr} {od : Option Addr} {its : Array Value} {n : Nat} {sl : Array (Option Value)} {xs : List V} (l : K.lookup p = some ⟨.type "tuple", od, .seq its n, sl⟩) (hv : Vals xs its.toList) (hs : xs.length ≤ sizeLine) : ∀ H, SqT K H p xs := fun H => by
  have e : its.size ≤ sizeLine := by
    rw [← Array.length_toList, ← hv.length]
    exact hs
  exact .inr ⟨_, its, n, l, rfl, rfl, e, hv⟩
theorem rowAt_mk {K : PySem.W.Frag} {p : Addr} {its : Array Value} {n : Nat} {sl : Array (Option Value)} {xs : List V} (l : K.lookup p = some ⟨.type "tuple", none, .seq its n, sl⟩) (hv : Vals xs its.toList) (hs : xs.length ≤ sizeLine) : RowAt K p xs := ⟨row_mk l hv hs, _, l, rfl, rfl⟩
theorem ctt_mk {K : PySem.W.Frag} {h : Heap} {mg : Str → Option Value} {x : Str} {p : Addr} {od : Option Addr} {its : Array Value} {n : Nat} {sl : Array (Option Value)} {rs : List Addr} {rows : List (List V)} (X : K.In h) (G : h.Ns mainGlobals mg) (a : PySem.W.nsIn K mainGlobals x = some (some (.ref p)))
    (l : K.lookup p = some ⟨.type "tuple", od, .seq its n, sl⟩) (e : its.toList = rs.map Value.ref) (hs : rs.length ≤ sizeLine) (hr : Paired (RowAt K) rs rows) : CTT K mg x rows :=
  ⟨p, rs, PySem.W.mg_of X G a, row_mk l (by rw [e]; exact vals_refs rs) (by rw [List.length_map]; exact hs), hr⟩
theorem pe_globTT {X : Cx} {x : Str} {rows : List (List V)} {pos : Pos} (hg : Gl X x) (h : CTT X.K X.mg x rows) (hd : (x == ("__debug__" : Str)) = false := by decide) :
    PE X (.Name x pos) (fun _ H Q => ∀ (p : Addr) (rs : List Addr), (∀ H', SqT X.K H' p (rs.map V.ref)) → (∀ (i : Nat) (row : List V), rows[i]? = some row → ∃ r : Addr, (rs.map V.ref)[i]? = some (V.ref r) ∧ (∀ H', SqT X.K H' r row) ∧ TyT X.K r) → Q (.ref p) H) := by
  obtain ⟨p, rs, hm, hs, hr⟩ := h
  refine ⟨fun pins s σ H Q I h => (pe_glob hg hm (v := .ref p) rfl hd).run pins s σ H Q I (h p rs hs fun i row e => ?_)⟩
  obtain ⟨r, h1, h2⟩ := ctt_get hr e
  exact ⟨r, by rw [List.getElem?_map, h1]; rfl, h2⟩
def rIndexT (K : PySem.W.Frag) : V → List V → Hp → VK → Prop := fun x xs H Q => ∃ (a : Addr) (ys : List V) (y : V) (j : Nat) (z : V), x = V.ref a ∧ xs = [y] ∧ SqT K H a ys ∧ flatV y = true ∧ ys.all flatV = true ∧ ys[j]? = some z ∧ eqV z y = true ∧
  (∀ (m : Nat) (z' : V), m < j → ys[m]? = some z' → eqV z' y = false) ∧ Q (.int (j : Nat)) H
theorem mt_indexT {X : Cx} : MtR X "tuple.index" (rIndexT X.K) := by
  intro pins s σ H x xs v us Q I rx rxs h
  obtain ⟨a, ys, y, j, z, rfl, rfl, hs, fy, fys, hz, hzj, hno, q⟩ := h
  cases rx
  cases rxs with
  | cons ry rt =>
    rename_i uy ut
    cases rt
    obtain ⟨its, rv, pl, hlen⟩ := I.tuple hs
    obtain ⟨⟨cls, dd, data, sl⟩, ho, hc, n, hd⟩ := pl
    simp only at hc hd
    subst hc hd
    obtain ⟨u, hu, ru⟩ := rv.get hz
    obtain ⟨hjl, hje⟩ := List.getElem?_eq_some_iff.mp hu
    have hvl := rv.length
    have hj : j < its.toArray.size := by simpa using hjl
    refine call_meets PySem.F.slot_tuple_index ⟨_, ho, rfl⟩ PySem.F.entry_tuple_index (PySem.F.args_tuple_index_2 _ _)
      (TI.tuple_indexAt a its.toArray n dd sl uy (eqU y) j hj ?_ ?_) ⟨ho, fun u' hu' => mem_eqAt ry fy rv fys u' (by simpa using hu'), ?_⟩
    · have e1 : its.toArray[j] = u := by simpa using hje
      rw [e1, eqU_of ru (flat_at fys hz)]
      exact hzj
    · intro m hm hmj
      have hml : m < its.length := by simpa using hm
      have hmy : m < ys.length := by omega
      have hy' : ys[m]? = some ys[m] := List.getElem?_eq_getElem hmy
      obtain ⟨u2, hu2, ru2⟩ := rv.get hy'
      obtain ⟨_, hme⟩ := List.getElem?_eq_some_iff.mp hu2
      have e1 : its.toArray[m] = u2 := by simpa using hme
      rw [e1, eqU_of ru2 (flat_at fys hy')]
      exact hno m _ hmj hy'
    · exact ⟨.int (j : Nat), H, I.tok _, ⟨_, rfl⟩, q⟩
end CT2

/-! ### range(a, b, c) as a value that is walked later -/
namespace RV
open PySem PySem.Spec PyProof.Rows L2 Cm
def RngO (p : Addr) (a b c : Int) : HO := .ext fun h => ∃ t u v, IsRange h p a b c t u v
def rRng3 : List V → Hp → VK → Prop := fun vs H Q => ∃ i j k, vs = [V.int i, .int j, .int k] ∧ k ≠ 0 ∧ k.natAbs < 1073741824 ∧ ∀ p, H p = none → Q (.ref p) (upd H p (RngO p i j k))
theorem cr_rng3 {X : Cx} : CallR X (.type "range") rRng3 := by
  intro pins s σ H vs us Q I r h
  obtain ⟨i, j, k, rfl, c0, c1, q⟩ := h
  cases r with
  | cons ri r =>
    obtain ⟨u2, u3, rfl, rj, rk⟩ := vals2 r
    obtain ⟨t, rfl⟩ := ri
    obtain ⟨u, rfl⟩ := rj
    obtain ⟨v, rfl⟩ := rk
    refine call_range_3 c0 ⟨.ref s.heap.objs.size, upd H s.heap.objs.size (RngO s.heap.objs.size i j k), I.laid (t' := s.toks) (fun b o e => Heap.get?_push_of_some _ e) (Nat.le_refl _) ?_, rfl, q _ (I.hok.fresh (Nat.le_refl _))⟩ (.inl (PyProof.noPylong_small c1))
    exact ⟨⟨t, u, v, Heap.get?_push_size _ rfl⟩, ⟨_, Heap.get?_push_size _ rfl⟩, fun h1 h2 ⟨t, u, v, e⟩ k => ⟨t, u, v, k _ e⟩⟩
def iRngV (te : TE) : TI := fun σ H R => te σ H fun v H1 => ∃ p i j k n, v = .ref p ∧ H1 p = some (RngO p i j k) ∧ RgC i j k n ∧ R (Itc i k n) H1
theorem pi_rngV {X : Cx} {tg e : Expr} {te : TE} (he : PE X e te) : PI X tg e (iRngV te) := by
  refine ⟨fun pins s σ H R I h => ?_⟩
  refine thn (he.run pins s σ H _ I h) fun v s1 ⟨x, H1, I1, r1, q1⟩ => ?_
  obtain ⟨p, i, j, k, n, e, hp, ⟨c0, c1, c2, c3⟩, q⟩ := q1
  subst e
  cases r1
  obtain ⟨⟨t, u, w, hr⟩, _⟩ := I1.hok p _ hp
  refine wpAny_pyIter_range hr c2 ?_
  refine pi_one (tk := s1.toks) I1 _ (turn_rangeC _ i k n) ?_ q
  have e1 : i + ((0 : Nat) : Int) * k = i := by simp
  have e2 : (n : Int) - ((0 : Nat) : Int) = Builtin.Range.rangeSize i j k := by rw [c3]; simp
  show IsRangeIter _ _ (i + ((0 : Nat) : Int) * k) ((n : Int) - ((0 : Nat) : Int)) k
  rw [e1, e2]
  exact Heap.get?_push_size _ rfl
end RV
/-! ### constants that are tuples of tuples: all that stands there -/
namespace CTP
open PySem PySem.Spec PyProof.Rows L2 Cm
def tGlobTT (K : PySem.W.Frag) (rows : List (List V)) : TE := fun _ H Q => ∀ (p : Addr) (rs : List Addr), (∀ H', SqT K H' p (rs.map V.ref)) → Paired (CT2.RowAt K) rs rows → Q (.ref p) H
theorem pe_globTT {X : Cx} {x : Str} {rows : List (List V)} {pos : Pos} (hg : Gl X x) (h : CT2.CTT X.K X.mg x rows) (hd : (x == ("__debug__" : Str)) = false := by decide) : PE X (.Name x pos) (tGlobTT X.K rows) := by
  obtain ⟨p, rs, hm, hs, hr⟩ := h
  exact ⟨fun pins s σ H Q I h => (pe_glob hg hm (v := .ref p) rfl hd).run pins s σ H Q I (h p rs hs hr)⟩
end CTP
namespace PV
open PySem PySem.Spec PyProof.Rows L2 Cm
open GX (Sm)
section
variable {K : PySem.W.Frag} {Ps : List Addr} {W : WX} {F : Fr} {g : Gm} {σ : L2.St} {H H1 H2 : Hp}
theorem rows_rp : ∀ {rs : List Addr} {rows : List (List V)}, (rows.all fun r => r.all flatV) = true → Paired (CT2.RowAt K) rs rows → RpAll K H (rs.map V.ref) (rows.map fun r => .tuple (r.map dV))
  | _, _, _, .nil => .nil
  | _, _, f, .cons h t => by
    rw [List.all_cons, Bool.and_eq_true] at f
    exact .cons (.tup (h.1 _) (rpAll_dV f.1)) (rows_rp f.2 t)
theorem le_globTT {rows : List (List V)} (h : (rows.all fun r => r.all flatV) = true) : LE K Ps W (CTP.tGlobTT K rows) (pC (.tuple (rows.map fun r => .tuple (r.map dV)))) := fun F g σ H Q PX PQ I _ q k p rs hp hr => k _ _ _ (Sm.refl H) (rs_dat (.tup (hp _) (rows_rp h hr))) q
/-! ##### a range as a value -/
def rngA (i j k : Int) : Asr where
  a := fun v H => ∃ p, v = .ref p ∧ H p = some (RV.RngO p i j k)
  mono := fun v H H' e ⟨p, q, h⟩ => ⟨p, q, e.keep p _ h fun ps z => by cases z⟩
  key := [i, j, k]
def pRngC : List Rs → (Rs → Prop) → Prop := fun rs Q => match rs with
  | [.v _ (.int i), .v _ (.int j), .v _ (.int k)] => k ≠ 0 ∧ k.natAbs < 1073741824 ∧ Q (.obj (rngA i j k))
  | _ => False
theorem lc_rng3 : LC K Ps RV.rRng3 pRngC := by
  intro F g σ H H1 rs vs Q PQ I e ra h k
  unfold pRngC at h
  split at h
  · next t i t2 j t3 c =>
    cases ra with
    | cons a ra =>
      obtain ⟨u, v, rfl, b, d⟩ := rs2 ra
      cases a.rp I e
      cases b.rp I e
      cases d.rp I e
      refine ⟨i, j, c, rfl, h.1, h.2.1, fun p hp => ?_⟩
      have nn := new_in (o := RV.RngO p i j c) I e hp
      exact k (.obj (rngA i j c)) (.ref p) _ nn.1 ⟨p, rfl, by rw [off_ne nn.2.2.1]; exact upd_same⟩ h.2.2
  · exact h.elim
def pRngV (pa : GE) : GI := fun g PX Q => pa g PX fun x => match x with
  | .obj A => ∃ i j k n, A = rngA i j k ∧ RgC i j k n ∧ Q (rgC i k n)
  | _ => False
theorem li_rngV {te : TE} {pa : GE} (ha : LE K Ps W te pa) : LI K Ps W (RV.iRngV te) (pRngV pa) := fun F g σ H R PX PQ I w h k =>
  ha F g σ H _ PX _ I w h fun x v H1 e1 r1 h1 => by
    split at h1
    · obtain ⟨i, j, c, n, rfl, hn, q⟩ := h1
      obtain ⟨p, rfl, hp⟩ := r1
      refine ⟨p, i, j, c, n, rfl, (off_some hp).2, hn, k _ _ _ e1 ?_ q⟩
      refine wok_at walk_rangeC (by simp [rgC]) (fun _ _ _ => trivial) fun i H L x H' hi _ _ y => ?_
      obtain ⟨rfl, rfl⟩ := y
      exact ⟨Sm.refl _, _, rgC_get hi, .int _⟩
    · exact h1.elim
/-! ##### zip of two tuples -/
theorem walk_zipT {a b : Addr} {xs ys : List V} {n : Nat} (hn : n = min xs.length ys.length) : Walk (RZ.ItzT K a b) n (fun H => SqT K H a xs ∧ SqT K H b ys) (YPair (fun i => xs[i]?) (fun i => ys[i]?)) := by
  subst hn
  refine ⟨fun i _ hi q => ?_, fun _ q => ⟨xs, ys, q.1, q.2, by omega⟩, fun i H v H' _ q y => ?_⟩
  · have h1 : i < xs.length := by omega
    have h2 : i < ys.length := by omega
    exact ⟨xs, ys, xs[i], ys[i], q.1, q.2, by simp [h1], by simp [h2]⟩
  · obtain ⟨T, x, z, h1, h2, h3, h4, h5⟩ := y
    exact ⟨T, x, z, h1, h2, h3, h4 xs q.1, h5 ys q.2⟩
def pZipT (pa : GA) : GI := fun g PX Q => pa g PX fun rs => match rs with
  | [.v t (.tuple ds), .v u (.tuple es)] => t.ok = true ∧ u.ok = true ∧ Q (zipD ds es)
  | _ => False
theorem li_zipT {ta : TA} {pa : GA} (ha : LA K Ps W ta pa) : LI K Ps W (RZ.iZipA K ta) (pZipT pa) := fun F g σ H R PX PQ I w h k =>
  ha F g σ H _ PX _ I w h fun rs vs H1 e1 r1 h1 => by
    split at h1
    · next t ds u es =>
      obtain ⟨v, u, rfl, ra, rb⟩ := rs2 r1
      have q := ra.dat I e1 h1.1
      have q2 := rb.dat I e1 h1.2.1
      cases q with
      | @tup a vs _ hp hr =>
        cases q2 with
        | @tup b us _ hp2 hr2 =>
          refine ⟨a, b, vs, us, rfl, .inr ⟨sm_hide.tup hp, sm_hide.tup hp2, k _ _ _ e1 ?_ h1.2.2⟩⟩
          refine wok_at (walk_zipT (K := K) (a := a) (b := b) (xs := vs) (ys := us) rfl) (by rw [hr.length, hr2.length]; simp [zipD]) (fun H L e => ⟨sm_hide.tup (e.tup hp), sm_hide.tup (e.tup hp2)⟩) fun i H L x H' hi e hL y => ?_
          obtain ⟨T, x, z, rfl, hT, rfl, h1, h2⟩ := y
          obtain ⟨d, h3, h4⟩ := hr.getV h1
          obtain ⟨d2, h5, h6⟩ := hr2.getV h2
          obtain ⟨s, q⟩ := rp_pair hT hL (h4.mono e) (h6.mono e)
          exact ⟨s, _, by unfold zipD; rw [List.getElem?_zipWith, h3, h5], q⟩
    · exact h1.elim
/-! ##### methods of texts -/
def pSt1 (f : Str → Str → PyData) : Str → Rs → (Rs → Prop) → Prop := fun a y Q => match y with
  | .v _ (.str b) => Q (.v .dat (f a b))
  | _ => False
theorem lm_str {f : Str → Str → V} (hf : ∀ a b, flatV (f a b) = true := by intros; rfl) : LMS K Ps (fun x xs H Q => ∃ a b, x = .str a ∧ xs = [.str b] ∧ Q (f a b) H) (pSt1 fun a b => dV (f a b)) := by
  intro F g σ H H1 a y w Q PQ I e ry h k
  unfold pSt1 at h
  split at h
  · cases ry.rp I e
    exact ⟨_, _, rfl, rfl, k _ _ _ (Sm.refl H1) (rs_dat (rp_dV (hf _ _))) h⟩
  · exact h.elim
def pM0 (C : Str → Prop) (f : Str → PyData) (po : GE) : GE := fun g PX Q => po g PX fun x => match x with
  | .v _ (.str a) => C a ∧ Q (.v .dat (f a))
  | _ => False
theorem le_m0 {C : Str → Prop} {f : Str → V} {ta : TE} {pa : GE} (ha : LE K Ps W ta pa) (hf : ∀ a, flatV (f a) = true := by intros; rfl) : LE K Ps W (tM0 (fun x xs H Q => ∃ a, x = .str a ∧ xs = [] ∧ C a ∧ Q (f a) H) ta) (pM0 C (fun a => dV (f a)) pa) := fun F g σ H Q PX PQ I w h k =>
  ha F g σ H _ PX _ I w h fun x v H1 e1 r1 h1 => by
    split at h1
    · next t a =>
      cases r1.rp I e1
      exact ⟨⟨a, rfl⟩, a, rfl, rfl, h1.1, k _ _ _ e1 (rs_dat (rp_dV (hf _))) h1.2⟩
    · exact h1.elim
/-! ##### parts of the law's script -/
def pSlScr (K : PySem.W.Frag) (pa : GE) (lo hi : GO) : GE := fun g PX Q => pa g PX fun x => lo g PX fun l => hi g PX fun u => match x with
  | .obj A => A = scr K A.key ∧ Q (.v .fr (.list ((cutL A.key l u).map PyData.int)))
  | _ => False
theorem le_slScr {te : TE} {tl th : TO} {pa : GE} {lo hi : GO} (ha : LE K Ps W te pa) (hl : LO K Ps W tl lo) (hh : LO K Ps W th hi) : LE K Ps W (tSl (rSlL K) te tl th) (pSlScr K pa lo hi) := fun F g σ H Q PX PQ I w h k =>
  ha F g σ H _ PX _ I w h fun x v H1 e1 r1 h1 => hl F g σ H1 _ PX _ (I.step e1) (w.step e1) h1 fun l H2 e2 h2 => hh F g σ H2 _ PX _ (I.step (e1.trans e2)) (w.step (e1.trans e2)) h2 fun u H3 e3 h3 => by
    have e := (e1.trans e2).trans e3
    have r := r1.step e1 (e2.trans e3)
    split at h3
    · next A =>
      obtain ⟨hA, q⟩ := h3
      generalize A.key = ns at *
      subst hA
      obtain ⟨p, rfl, hp⟩ := r
      have hp : SqL K H3 p (ns.map V.int) := sm_hide.seq hp
      refine ⟨p, _, rfl, hp, fun q2 hq => k _ _ _ (e.trans (new_in (o := .lst (cutV (ns.map V.int) l u)) I e hq).1) ?_ q⟩
      rw [← cutD_map]
      exact rs_fr I e hq (RpAll.ints ns).cut
    · exact h3.elim
/-! ##### lengths of f-strings -/
theorem log_le {e : Int} (h : e.natAbs ≤ 1000000) : e.natAbs.log2 < 1920 := by
  by_cases h0 : e.natAbs = 0
  · rw [h0]
    decide
  · exact (Nat.log2_lt h0).mpr (Nat.lt_of_le_of_lt h (Nat.lt_of_lt_of_le (by decide : 1000000 < 2 ^ 20) (Nat.pow_le_pow_right (by decide) (by decide))))
theorem tlen {i : Int} (h : i.natAbs ≤ 1000000) : (PySem.Str.ofString (toString i)).length ≤ 2000 := by
  have := PyProof.Rows.int_text_len_1921 (log_le h)
  omega
/-- f"{i}.." -/
theorem fmt1 {i : Int} (h : i.natAbs ≤ 1000000) {b : Str} (hb : b.length ≤ 1000) : i.natAbs.log2 < 1920 ∧ (Str.empty ++ PySem.Str.ofString (toString i)).length ≤ sizeLine ∧ (Str.empty ++ PySem.Str.ofString (toString i) ++ b).length ≤ sizeLine := by
  have h1 := tlen h
  have h0 : Str.empty.length = 0 := rfl
  refine ⟨log_le h, ?_, ?_⟩ <;> rw [sizeLine_eq] <;> simp only [PySem.Str.length_append] <;> omega
/-- f"..{i}.." -/
theorem fmt2 {i : Int} (h : i.natAbs ≤ 1000000) {a b : Str} (ha : a.length ≤ 1000) (hb : b.length ≤ 1000) : (Str.empty ++ a).length ≤ sizeLine ∧ i.natAbs.log2 < 1920 ∧ (Str.empty ++ a ++ PySem.Str.ofString (toString i)).length ≤ sizeLine ∧ (Str.empty ++ a ++ PySem.Str.ofString (toString i) ++ b).length ≤ sizeLine := by
  have h1 := tlen h
  have h0 : Str.empty.length = 0 := rfl
  refine ⟨?_, log_le h, ?_, ?_⟩ <;> rw [sizeLine_eq] <;> simp only [PySem.Str.length_append] <;> omega
/-! ##### calls within a suite -/
theorem le_callH {sp : Sp} {psp : PSp} {ta : TA} {pa : GA} (ok : SpOk K Ps sp psp) (ha : LA K Ps W ta pa) : LE K Ps W (tCallS sp (fun _ => E0) ta) (pCall0 psp pa) := fun F g σ H Q PX PQ I w h k =>
  ha F g σ H _ PX _ I w h fun rs vs H1 e1 r1 h1 => call_of ok I e1 r1 h1 k fun _ _ _ _ _ _ z => z.elim
variable {P : Program} {w : World} {mg : Str → Option Value} {base : Heap} {x qual : Str} {st : Stmt} {f : Addr} {fd : FuncData} {N ps : List Str} {k : Nat} {psp : PSp}
theorem pv_defH (d : Dn K mg x st ps) (S : FnScope N ps (defScope st)) (len : ∀ as PX PQ, psp as PX PQ → as.length = ps.length)
    (hb : ∀ (f : Addr) (cdv : Value) (A : Around) (outer : List PySem.Env) (s : Shared) (H : Hp) (E : XK) (p : Addr × Obj), L2H.Hot1 A p → L2H.RoomH k (A.deeper (envOfC x (defScope st) s.heap.objs.size f cdv)) →
      ∃ t q, PSs (L2H.cxH CX0 P w K mg base N x (defScope st) f cdv A outer s H E p) (defBody st) t ∧ LS K Ps W0 t q ∧ ∀ as PX PQ, psp as PX PQ → q (ends PQ fun _ => False) (startG N.length as)) :
    OkH P w K mg base CX0 (k + 1) x ps (spP K Ps psp) := by
  refine okH_of d S (fun vs H Q E h => ?_) fun f cdv A outer s H vs Q E p hot hr h => ?_
  · obtain ⟨L0, as, PX, PQ, h1, h2, h3, h4, h5, h6⟩ := h
    rw [h2.length]
    exact len as PX PQ h4
  · obtain ⟨L0, as, PX, PQ, h1, h2, h3, h4, h5, h6⟩ := h
    obtain ⟨t, q, ht, hl, hp⟩ := hb f cdv A outer s H E p hot hr
    exact ⟨t, ht, hl ⟨H, L0⟩ _ _ H _ _ (start_ok h1 h2 h3) (ends_ok0 h5) (hp as PX PQ h4)⟩
end
end PV

namespace PV
open PySem PySem.Spec PyProof.Rows L2 Cm
open GX (Sm)
/-! #### dicts of one's own -/
def getK (kvs : List (Key × PyData)) (k : Key) : Option PyData := (kvs.find? fun kv => decide (kv.1 = k)).map (·.2)
def setK (kvs : List (Key × PyData)) (k : Key) (v : PyData) : List (Key × PyData) :=
  if (kvs.any fun kv => decide (kv.1 = k)) = true then kvs.map (fun kv => if kv.1 = k then (kv.1, v) else kv) else kvs ++ [(k, v)]
def keyD : PyData → Option Key
  | .int i => some (.inl i)
  | .str s => some (.inr s)
  | _ => none
section
variable {K : PySem.W.Frag} {Ps : List Addr} {W : WX} {F : Fr} {g : Gm} {σ : L2.St} {H H1 H2 : Hp}
theorem keyD_ok {y : V} {d : PyData} {k : Key} (h : Rp K H y d) (e : keyD d = some k) : y = kV k := by
  cases h <;> (simp [keyD] at e) <;> subst e <;> rfl
theorem KvR.mono {V0 V1 : Hp} (e : Sm V0 V1) {vs : List (Key × V)} {kvs : List (Key × PyData)} (h : KvR K V0 vs kvs) : KvR K V1 vs kvs := L2.Paired.mapP h fun _ _ z => ⟨z.1, z.2.mono e⟩
theorem KvR.length {V0 : Hp} {vs : List (Key × V)} {kvs : List (Key × PyData)} (h : KvR K V0 vs kvs) : vs.length = kvs.length := by
  unfold KvR at h
  induction h with
  | nil => rfl
  | cons _ _ ih => simp [ih]
theorem KvR.get {V0 : Hp} {k : Key} {vs : List (Key × V)} {kvs : List (Key × PyData)} (h : KvR K V0 vs kvs) : match getK kvs k with
    | some d => ∃ v, valV vs k = some v ∧ Rp K V0 v d
    | none => valV vs k = none := by
  unfold KvR at h
  induction h with
  | nil => rfl
  | @cons a b vs kvs hab _ ih =>
    obtain ⟨ka, va⟩ := a
    obtain ⟨kb, vb⟩ := b
    obtain ⟨e1, e2⟩ := hab
    simp only at e1 e2
    subst e1
    by_cases z : ka = k
    · simp only [getK, valV, List.find?_cons, z, decide_true, Option.map_some]
      exact ⟨_, rfl, e2⟩
    · have z2 : decide (ka = k) = false := decide_eq_false z
      have e1 : getK ((ka, vb) :: kvs) k = getK kvs k := by simp [getK, List.find?_cons, z2]
      have e2 : valV ((ka, va) :: vs) k = valV vs k := by simp [valV, List.find?_cons, z2]
      rw [e1, e2]
      exact ih
theorem KvR.any {V0 : Hp} {k : Key} {vs : List (Key × V)} {kvs : List (Key × PyData)} (h : KvR K V0 vs kvs) : (vs.any fun kv => decide (kv.1 = k)) = kvs.any fun kv => decide (kv.1 = k) := by
  unfold KvR at h
  induction h with
  | nil => rfl
  | cons hab _ ih => simp only [List.any_cons, ih, hab.1]
theorem KvR.putIn {V0 : Hp} {k : Key} {v : V} {d : PyData} (hv : Rp K V0 v d) {vs : List (Key × V)} {kvs : List (Key × PyData)} (h : KvR K V0 vs kvs) : KvR K V0 (vs.map fun kv => if kv.1 = k then (kv.1, v) else kv) (kvs.map fun kv => if kv.1 = k then (kv.1, d) else kv) := by
  unfold KvR at h ⊢
  induction h with
  | nil => exact .nil
  | @cons a b _ _ hab _ ih =>
    obtain ⟨e1, e2⟩ := hab
    rw [List.map_cons, List.map_cons]
    refine .cons ?_ ih
    by_cases z : a.1 = k
    · rw [if_pos z, if_pos (e1 ▸ z)]
      exact ⟨e1, hv⟩
    · rw [if_neg z, if_neg (e1 ▸ z)]
      exact ⟨e1, e2⟩
theorem KvR.putOut {V0 : Hp} {k : Key} {v : V} {d : PyData} (hv : Rp K V0 v d) {vs : List (Key × V)} {kvs : List (Key × PyData)} (h : KvR K V0 vs kvs) : KvR K V0 (vs ++ [(k, v)]) (kvs ++ [(k, d)]) := by
  unfold KvR at h ⊢
  induction h with
  | nil => exact .cons ⟨rfl, hv⟩ .nil
  | cons hab _ ih => exact .cons hab ih
theorem KvR.put {V0 : Hp} {k : Key} {v : V} {d : PyData} (hv : Rp K V0 v d) {vs : List (Key × V)} {kvs : List (Key × PyData)} (h : KvR K V0 vs kvs) : KvR K V0 (putK vs k v) (setK kvs k d) := by
  unfold putK setK
  rw [h.any]
  split
  · exact h.putIn hv
  · exact h.putOut hv
/-! {} given to a name -/
def pDNew (i : Nat) : GS := fun PD g => ∀ p, PD.nx (g.set i (some (.dic p [])))
theorem ls_dnew {i : Nat} : LS K Ps W (tAsg tDNewK (gName i)) (pDNew i) := fun F D σ H PD g I E h => by
  intro p hp
  have hn := NewTo.none hp
  refine E.nx _ _ _ (I.set_new (x := .dic p []) (sm_new (Sm.refl H) hp) (fun a ha => ?_) ?_ ⟨rfl, [], upd_same, Paired.nil⟩) (h p)
  · rw [List.mem_singleton.mp ha]
    exact ⟨hn, _, upd_same, fun _ z => by cases z⟩
  · exact List.nodup_cons.mpr ⟨by simp, List.nodup_nil⟩
/-! d[k] = v -/
def pDPut (j : Nat) (pv pk : GE) : GS := fun PD g => match g[j]? with
  | some (some (.dic p kvs)) => pv g (PD.ex g) fun r => pk g (PD.ex g) fun y => match r, y with
    | .v t d, .v _ yd => t.ok = true ∧ ∃ k, keyD yd = some k ∧ kvs.length < sizeLine ∧ PD.nx (g.set j (some (.dic p (setK kvs k d))))
    | _, _ => False
  | _ => False
theorem ls_dput {j : Nat} {tk tv : TE} {pk pv : GE} (hk : LE K Ps W tk pk) (hv : LE K Ps W tv pv) : LS K Ps W (sDPut (tVar j) tk tv) (pDPut j pv pk) := fun F D σ H PD g I E h => by
  unfold pDPut at h
  split at h
  · next p kvs hg =>
    obtain ⟨u, hu, rfl, vs, hp, hkv⟩ := I.sl.get hg
    refine hv F g σ H _ _ _ I (E.wx I) h fun r v H1 e1 r1 h1 => ?_
    refine ⟨.ref p, hu, hk F g σ H1 _ _ _ (I.step e1) ((E.wx I).step e1) h1 fun y w H2 e2 r2 h2 => ?_⟩
    split at h2
    · next t d t2 yd =>
      obtain ⟨ok, k, ek, hl, q⟩ := h2
      have e12 := e1.trans e2
      have I2 := I.step e12
      have hp2 : H2 p = some (.dK vs) := e12.keep _ _ hp fun _ z => by cases z
      have hd : Rp K (off H2 (F.L0 ++ owns g)) v d := (r1.step e1 e2).dat I e12 ok
      have hkv2 : KvR K (off H2 (F.L0 ++ owns g)) vs kvs := hkv.mono (sm_off e12 fun _ z => .inl z)
      have hy := keyD_ok (r2.rp (I.step e1) e2) ek
      subst hy
      refine ⟨p, _, rfl, DPut.k hp2 (by rw [hkv.length]; exact hl), E.nx _ σ _ (I2.putAtO (x := .dic p (setK kvs k d)) (y := .dic p kvs) (u := .ref p) (fun _ z => by cases z) hg hu rfl (List.mem_cons_self ..) ⟨rfl, _, upd_same, hkv2.put hd⟩) q⟩
    · exact h2.elim
  · exact h.elim
/-! d.get(k, x) -/
def getR (kvs : List (Key × PyData)) (k : Key) (z : Rs) : Rs := match getK kvs k with
  | some d => .v .dat d
  | none => z
def pDGet2 (j : Nat) (pk px : GE) : GE := fun g PX Q => match g[j]? with
  | some (some (.dic _ kvs)) => pk g PX fun y => px g PX fun z => match y with
    | .v _ yd => ∃ k, keyD yd = some k ∧ Q (getR kvs k z)
    | .obj _ => False
  | _ => False
theorem le_dget2 {j : Nat} {tk tx : TE} {pk px : GE} (hk : LE K Ps W tk pk) (hx : LE K Ps W tx px) : LE K Ps W (tDGet2 (tVar j) tk tx) (pDGet2 j pk px) := fun F g σ H Q PX PQ I w h k => by
  unfold pDGet2 at h
  split at h
  · next p kvs hg =>
    obtain ⟨u, hu, rfl, vs, hp, hkv⟩ := I.sl.get hg
    refine ⟨.ref p, hu, p, rfl, .inl ⟨vs, .inl hp⟩, hk F g σ H _ _ _ I w h fun y yv H1 e1 r1 h1 => hx F g σ H1 _ _ _ (I.step e1) (w.step e1) h1 fun z zv H2 e2 r2 h2 => ?_⟩
    split at h2
    · next t yd =>
      obtain ⟨kk, ek, q⟩ := h2
      have e12 := e1.trans e2
      have hp2 : H2 p = some (.dK vs) := e12.keep _ _ hp fun _ z => by cases z
      have hkv2 : KvR K (off H2 (F.L0 ++ owns g)) vs kvs := hkv.mono (sm_off e12 fun _ z => .inl z)
      have hy := keyD_ok (r1.rp I e1) ek
      subst hy
      refine ⟨valV vs kk, DGet.k hp2, ?_⟩
      have hg2 := hkv2.get (k := kk)
      unfold getR at q
      cases e : getK kvs kk with
      | none =>
        rw [e] at hg2 q
        rw [hg2]
        exact k z zv H2 e12 (r2.back e1) q
      | some d =>
        rw [e] at hg2 q
        obtain ⟨v, ev, rv⟩ := hg2
        rw [ev]
        exact k (.v .dat d) v H2 e12 rv q
    · exact h2.elim
  · exact h.elim
/-! d[k] -/
def pDGet (j : Nat) (pk : GE) : GE := fun g PX Q => match g[j]? with
  | some (some (.dic _ kvs)) => pk g PX fun y => match y with
    | .v _ yd => ∃ k d, keyD yd = some k ∧ getK kvs k = some d ∧ Q (.v .dat d)
    | .obj _ => False
  | _ => False
theorem le_dget {j : Nat} {tk : TE} {pk : GE} (hk : LE K Ps W tk pk) : LE K Ps W (tDGet (tVar j) tk) (pDGet j pk) := fun F g σ H Q PX PQ I w h k => by
  unfold pDGet at h
  split at h
  · next p kvs hg =>
    obtain ⟨u, hu, rfl, vs, hp, hkv⟩ := I.sl.get hg
    refine ⟨.ref p, hu, hk F g σ H _ _ _ I w h fun y yv H1 e1 r1 h1 => ?_⟩
    split at h1
    · next t yd =>
      obtain ⟨kk, d, ek, ed, q⟩ := h1
      have hp2 : H1 p = some (.dK vs) := e1.keep _ _ hp fun _ z => by cases z
      have hkv2 : KvR K (off H1 (F.L0 ++ owns g)) vs kvs := hkv.mono (sm_off e1 fun _ z => .inl z)
      have hy := keyD_ok (r1.rp I e1) ek
      subst hy
      have hg2 := hkv2.get (k := kk)
      rw [ed] at hg2
      obtain ⟨v, ev, rv⟩ := hg2
      exact ⟨p, v, rfl, by rw [← ev]; exact DGet.k hp2, k (.v .dat d) v H1 e1 rv q⟩
    · exact h1.elim
  · exact h.elim
/-! k in d -/
def pDIn (f : Bool → Bool) (j : Nat) (pk : GE) : GE := fun g PX Q => match g[j]? with
  | some (some (.dic _ kvs)) => pk g PX fun y => match y with
    | .v _ yd => ∃ k, keyD yd = some k ∧ Q (.v .dat (.bool (f (getK kvs k).isSome)))
    | .obj _ => False
  | _ => False
theorem din_some {V0 : Hp} {k : Key} {vs : List (Key × V)} {kvs : List (Key × PyData)} (h : KvR K V0 vs kvs) : (valV vs k).isSome = (getK kvs k).isSome := by
  have hg2 := h.get (k := k)
  cases e : getK kvs k with
  | none =>
    rw [e] at hg2
    rw [hg2]
    rfl
  | some d =>
    rw [e] at hg2
    obtain ⟨v, ev, _⟩ := hg2
    rw [ev]
    rfl
theorem le_din {j : Nat} {tk : TE} {pk : GE} (hk : LE K Ps W tk pk) : LE K Ps W (tDIn tk (tVar j)) (pDIn (fun b => b) j pk) := fun F g σ H Q PX PQ I w h k => by
  unfold pDIn at h
  split at h
  · next p kvs hg =>
    obtain ⟨u, hu, rfl, vs, hp, hkv⟩ := I.sl.get hg
    refine hk F g σ H _ _ _ I w h fun y yv H1 e1 r1 h1 => ⟨.ref p, hu, ?_⟩
    split at h1
    · next t yd =>
      obtain ⟨kk, ek, q⟩ := h1
      have hp2 : H1 p = some (.dK vs) := e1.keep _ _ hp fun _ z => by cases z
      have hy := keyD_ok (r1.rp I e1) ek
      subst hy
      rw [← din_some hkv] at q
      exact ⟨p, valV vs kk, rfl, DGet.k hp2, k _ _ H1 e1 (rs_dat (.bl _)) q⟩
    · exact h1.elim
  · exact h.elim
theorem le_dnotin {j : Nat} {tk : TE} {pk : GE} (hk : LE K Ps W tk pk) : LE K Ps W (tDNotIn tk (tVar j)) (pDIn (fun b => !b) j pk) := fun F g σ H Q PX PQ I w h k => by
  unfold pDIn at h
  split at h
  · next p kvs hg =>
    obtain ⟨u, hu, rfl, vs, hp, hkv⟩ := I.sl.get hg
    refine hk F g σ H _ _ _ I w h fun y yv H1 e1 r1 h1 => ⟨.ref p, hu, ?_⟩
    split at h1
    · next t yd =>
      obtain ⟨kk, ek, q⟩ := h1
      have hp2 : H1 p = some (.dK vs) := e1.keep _ _ hp fun _ z => by cases z
      have hy := keyD_ok (r1.rp I e1) ek
      subst hy
      rw [← din_some hkv] at q
      exact ⟨p, valV vs kk, rfl, DGet.k hp2, k _ _ H1 e1 (rs_dat (.bl _)) q⟩
    · exact h1.elim
  · exact h.elim
/-! divmod -/
def pDivMod : List Rs → (Rs → Prop) → Prop := fun rs Q => match rs with
  | [.v _ (.int i), .v _ (.int j)] => CDiv i j ∧ Q (.v .dat (.tuple [.int (i / j), .int (i % j)]))
  | _ => False
theorem lc_divmod : LC K Ps (fun xs H Q => ∃ i j, xs = [.int i, .int j] ∧ CDiv i j ∧ ∀ p, H p = none → Q (.ref p) (upd H p (.tup [.int (i / j), .int (i % j)]))) pDivMod := by
  intro F g σ H H1 rs vs Q PQ I e ra h k
  unfold pDivMod at h
  split at h
  · next t i t2 j =>
    obtain ⟨u, v, rfl, b, c⟩ := rs2 ra
    cases b.rp I e
    cases c.rp I e
    exact ⟨i, j, rfl, h.1, fun p hp => k _ _ _ (new_in (o := .tup _) I e hp).1 (rs_tup I e hp (.cons (.int _) (.cons (.int _) .nil))) h.2⟩
  · exact h.elim
/-! len(d) -/
def pLenD (j : Nat) : GE := fun g _ Q => match g[j]? with
  | some (some (.dic _ kvs)) => Q (.v .dat (.int kvs.length))
  | _ => False
theorem le_lenD {j : Nat} : LE K Ps W (tCB (fun xs H Q => ∃ a kvs, xs = [V.ref a] ∧ H a = some (.dK kvs) ∧ Q (.int kvs.length) H) (tCons (tVar j) tNil)) (pLenD j) := fun F g σ H Q PX PQ I w h k => by
  unfold pLenD at h
  split at h
  · next p kvs hg =>
    obtain ⟨u, hu, rfl, vs, hp, hkv⟩ := I.sl.get hg
    refine ⟨.ref p, hu, p, vs, rfl, hp, ?_⟩
    rw [hkv.length]
    exact k _ _ H (Sm.refl H) (rs_dat (.int _)) h
  · exact h.elim
end
/-- by enumerate -/
theorem loop_en {α : Type} {f : α → PyData} {t : PV.Tgt} {b : PV.GS} {PD : PV.GEnds} {g : PV.Gm} (as : List α) (Iv : Nat → PV.Gm → Prop) (h0 : Iv 0 g)
    (turn : ∀ (i : Nat) a g, as[i]? = some a → Iv i g → ∀ N : PV.Gm → Prop, (∀ g', Iv (i + 1) g' → N g') → PV.pTgt t (.tuple [.int (i : Int), f a]) g fun g' => b { PD with nx := N, ct := N, bk := PD.nx } g') (hd : ∀ g, Iv as.length g → PD.nx g) :
    PV.Loop (PV.pTg t) b PD (PV.enD (as.map f)) g := by
  rw [PV.enD_map]
  refine PV.loop_ix (inj := fun p : α × Nat => .tuple [.int (p.2 : Int), f p.1]) as.zipIdx Iv h0 (fun i a g h q N k => ?_) (by rw [List.length_zipIdx]; exact hd)
  have hi : as[i]? = some a.1 ∧ a.2 = i := by
    rw [List.getElem?_zipIdx] at h
    cases e : as[i]? with
    | none =>
      rw [e] at h
      cases h
    | some x =>
      rw [e] at h
      simp at h
      subst h
      exact ⟨rfl, rfl⟩
  have := turn i a.1 g hi.1 q N k
  rw [← hi.2] at this
  exact this
end PV

namespace My
open PySem PySem.Spec PyProof.Rows L2 Cm 
def top (i : Nat) : Stmt := PySem.Challenge.pw_scanpages_k12_least_diff.main.body.getD i (.Pass ⟨0, 0, 0, 0⟩)
abbrev s_normalized : Stmt := (top 2)
abbrev N_normalized : List Str := ["script", "normal", "kept", "dropped", "added", "kind", "what"]
theorem sc_normalized : FnScope N_normalized ["script"] (defScope s_normalized) := ⟨rfl, rfl, rfl, by decide +kernel, rfl, by decide +kernel, by decide +kernel⟩
abbrev s__steps : Stmt := (top 3)
abbrev N__steps : List Str := ["kept", "dropped", "added", "steps"]
theorem sc__steps : FnScope N__steps ["kept", "dropped", "added"] (defScope s__steps) := ⟨rfl, rfl, rfl, by decide +kernel, rfl, by decide +kernel, by decide +kernel⟩
abbrev s_diff : Stmt := (top 4)
abbrev N_diff : List Str := ["old", "new", "start", "end", "between"]
theorem sc_diff : FnScope N_diff ["old", "new"] (defScope s_diff) := ⟨rfl, rfl, rfl, by decide +kernel, rfl, by decide +kernel, by decide +kernel⟩
abbrev s__equal_items : Stmt := (top 5)
abbrev N__equal_items : List Str := ["first", "second", "count", "one", "other"]
theorem sc__equal_items : FnScope N__equal_items ["first", "second"] (defScope s__equal_items) := ⟨rfl, rfl, rfl, by decide +kernel, rfl, by decide +kernel, by decide +kernel⟩
abbrev s__changes : Stmt := (top 6)
abbrev N__changes : List Str := ["old", "new", "blocks", "steps", "row", "column"]
theorem sc__changes : FnScope N__changes ["old", "new"] (defScope s__changes) := ⟨rfl, rfl, rfl, by decide +kernel, rfl, by decide +kernel, by decide +kernel⟩
abbrev s__is_gain : Stmt := (top 7)
abbrev N__is_gain : List Str := ["blocks", "row", "column", "block", "place"]
theorem sc__is_gain : FnScope N__is_gain ["blocks", "row", "column"] (defScope s__is_gain) := ⟨rfl, rfl, rfl, by decide +kernel, rfl, by decide +kernel, by decide +kernel⟩
abbrev s__gain_blocks : Stmt := (top 8)
abbrev N__gain_blocks : List Str := ["old", "new", "blocks", "carries", "start", "rows"]
theorem sc__gain_blocks : FnScope N__gain_blocks ["old", "new"] (defScope s__gain_blocks) := ⟨rfl, rfl, rfl, by decide +kernel, rfl, by decide +kernel, by decide +kernel⟩
abbrev s__gain_rows : Stmt := (top 9)
abbrev N__gain_rows : List Str := ["block", "new", "carries", "places", "place", "item", "full", "row", "rows", "carried", "carry", "found", "total"]
theorem sc__gain_rows : FnScope N__gain_rows ["block", "new", "carries"] (defScope s__gain_rows) := ⟨rfl, rfl, rfl, by decide +kernel, rfl, by decide +kernel, by decide +kernel⟩
abbrev s__law_cell : Stmt := (top 11)
abbrev N__law_cell : List Str := ["script", "k"]
theorem sc__law_cell : FnScope N__law_cell ["script", "k"] (defScope s__law_cell) := ⟨rfl, rfl, rfl, by decide +kernel, rfl, by decide +kernel, by decide +kernel⟩
abbrev s__law_mix : Stmt := (top 12)
abbrev N__law_mix : List Str := ["cell", "k", "number"]
theorem sc__law_mix : FnScope N__law_mix ["cell", "k"] (defScope s__law_mix) := ⟨rfl, rfl, rfl, by decide +kernel, rfl, by decide +kernel, by decide +kernel⟩
abbrev s__law_row : Stmt := (top 13)
abbrev N__law_row : List Str := ["cell", "count", "bound", "found", "rest", "k"]
theorem sc__law_row : FnScope N__law_row ["cell", "count", "bound"] (defScope s__law_row) := ⟨rfl, rfl, rfl, by decide +kernel, rfl, by decide +kernel, by decide +kernel⟩
abbrev s__law_is_int : Stmt := (top 14)
abbrev N__law_is_int : List Str := ["value"]
theorem sc__law_is_int : FnScope N__law_is_int ["value"] (defScope s__law_is_int) := ⟨rfl, rfl, rfl, by decide +kernel, rfl, by decide +kernel, by decide +kernel⟩
abbrev s__law_items : Stmt := (top 15)
abbrev N__law_items : List Str := ["cell", "size", "bound"]
theorem sc__law_items : FnScope N__law_items ["cell", "size"] (defScope s__law_items) := ⟨rfl, rfl, rfl, by decide +kernel, rfl, by decide +kernel, by decide +kernel⟩
abbrev s__law_script : Stmt := (top 16)
abbrev N__law_script : List Str := ["cells", "old", "steps", "left", "cell", "kind", "count"]
theorem sc__law_script : FnScope N__law_script ["cells", "old"] (defScope s__law_script) := ⟨rfl, rfl, rfl, by decide +kernel, rfl, by decide +kernel, by decide +kernel⟩
abbrev s__law_patch : Stmt := (top 17)
abbrev N__law_patch : List Str := ["old", "script", "new", "at", "kind", "part"]
theorem sc__law_patch : FnScope N__law_patch ["old", "script"] (defScope s__law_patch) := ⟨rfl, rfl, rfl, by decide +kernel, rfl, by decide +kernel, by decide +kernel⟩
abbrev s__law_is_normal : Stmt := (top 18)
abbrev N__law_is_normal : List Str := ["script", "before", "step"]
theorem sc__law_is_normal : FnScope N__law_is_normal ["script"] (defScope s__law_is_normal) := ⟨rfl, rfl, rfl, by decide +kernel, rfl, by decide +kernel, by decide +kernel⟩
abbrev s__law_close : Stmt := (top 19)
abbrev N__law_close : List Str := ["steps", "gap"]
theorem sc__law_close : FnScope N__law_close ["steps", "gap"] (defScope s__law_close) := ⟨rfl, rfl, rfl, by decide +kernel, rfl, by decide +kernel, by decide +kernel⟩
abbrev s__law_normal : Stmt := (top 20)
abbrev N__law_normal : List Str := ["script", "steps", "gap", "kind", "part"]
theorem sc__law_normal : FnScope N__law_normal ["script"] (defScope s__law_normal) := ⟨rfl, rfl, rfl, by decide +kernel, rfl, by decide +kernel, by decide +kernel⟩
abbrev s__law_common : Stmt := (top 21)
abbrev N__law_common : List Str := ["old", "new", "before", "item", "line", "at"]
theorem sc__law_common : FnScope N__law_common ["old", "new"] (defScope s__law_common) := ⟨rfl, rfl, rfl, by decide +kernel, rfl, by decide +kernel, by decide +kernel⟩
abbrev s_law : Stmt := (top 22)
abbrev N_law : List Str := ["script", "old", "new", "copies", "actual", "total", "kind", "part"]
theorem sc_law : FnScope N_law ["script"] (defScope s_law) := ⟨rfl, rfl, rfl, by decide +kernel, rfl, by decide +kernel, by decide +kernel⟩
structure Txt (K : PySem.W.Frag) (mg : Str → Option Value) : Prop where
  d_normalized : Dn K mg "normalized" s_normalized ["script"]
  d__steps : Dn K mg "_steps" s__steps ["kept", "dropped", "added"]
  d_diff : Dn K mg "diff" s_diff ["old", "new"]
  d__equal_items : Dn K mg "_equal_items" s__equal_items ["first", "second"]
  d__changes : Dn K mg "_changes" s__changes ["old", "new"]
  d__is_gain : Dn K mg "_is_gain" s__is_gain ["blocks", "row", "column"]
  d__gain_blocks : Dn K mg "_gain_blocks" s__gain_blocks ["old", "new"]
  d__gain_rows : Dn K mg "_gain_rows" s__gain_rows ["block", "new", "carries"]
  d__law_cell : Dn K mg "_law_cell" s__law_cell ["script", "k"]
  d__law_mix : Dn K mg "_law_mix" s__law_mix ["cell", "k"]
  d__law_row : Dn K mg "_law_row" s__law_row ["cell", "count", "bound"]
  d__law_is_int : Dn K mg "_law_is_int" s__law_is_int ["value"]
  d__law_items : Dn K mg "_law_items" s__law_items ["cell", "size"]
  d__law_script : Dn K mg "_law_script" s__law_script ["cells", "old"]
  d__law_patch : Dn K mg "_law_patch" s__law_patch ["old", "script"]
  d__law_is_normal : Dn K mg "_law_is_normal" s__law_is_normal ["script"]
  d__law_common : Dn K mg "_law_common" s__law_common ["old", "new"]
  d_law : Dn K mg "law" s_law ["script"]
  c_BLOCK : CV mg "BLOCK" (.int 1024)
  n_tuple : mg "tuple" = none
  n_len : mg "len" = none
  n_zip : mg "zip" = none
  n_divmod : mg "divmod" = none
  n_range : mg "range" = none
  n_enumerate : mg "enumerate" = none
  n_int : mg "int" = none
  n_abs : mg "abs" = none
  n_isinstance : mg "isinstance" = none
  n_bool : mg "bool" = none
  n_min : mg "min" = none
  n_list : mg "list" = none
  n_max : mg "max" = none
section
variable {P : Program} {w : World} {K : PySem.W.Frag} {mg : Str → Option Value} {base : Heap}
/-- the cell's promise -/
def spCell (K : PySem.W.Frag) : Sp := fun vs H Q _ => ∃ (l : Addr) (ns : List Int) (k : Nat), vs = [.ref l, .int (k : Int)] ∧ SqL K H l (ns.map V.int) ∧ Q (.int (cell ns k)) H
theorem ok__law_cell (T : Txt K mg) : Ok P w K mg base CX0 1 "_law_cell" ["script", "k"] (spCell K) := by
  refine ok_of T.d__law_cell fun f fd F => F.ok sc__law_cell (fun vs H Q E h => ?_) (fun cdv A outer s H vs Q E hr h => ?_)
  · obtain ⟨l, ns, k, rfl, _⟩ := h
    rfl
  · obtain ⟨l, ns, k, rfl, hs, q⟩ := h
    refine ⟨_,       (pss_cons (ps_if (pt_cmpR op_lt (pv 1) (pe_callB call_len_seq (by rfl) T.n_len PySem.boot_len (pa_cons (pv 0) pa_nil)) (nomark _))
        (pss_one (ps_ret (pe_callTy call_int1 (by rfl) T.n_int (by decide +kernel) (pa_cons (pe_ix ix_list (pv 0) (pv 1) (fun _ _ => rfl)) pa_nil)))) pss_nil)
      (pss_one (ps_ret pe_int))), ?_⟩
    refine ⟨_, rfl, _, rfl, l, _, rfl, .inl hs, _, _, rfl, rfl, _, rfl, itd (fun h => ?_) (fun h => ?_)⟩
    · have hk : k < ns.length := by
        rw [List.length_map] at h
        omega
      refine ⟨_, rfl, _, rfl, l, _, _, .int ns[k], rfl, rfl, hs, atI_nat (by rw [List.getElem?_map, List.getElem?_eq_getElem hk]; rfl), .inl ⟨_, rfl, ?_⟩⟩
      rw [Cm.cell_in hk] at q
      exact q
    · have hk : ¬ k < ns.length := by
        rw [List.length_map] at h
        omega
      rw [Cm.cell_out hk] at q
      exact q

def mixI (c k : Int) : Int := ((c * 48271 + k * 69621 + 12345) % 2147483647 * 16807 + k * 40692 + 777) % 2147483629 / 997
def spMix : Sp := fun vs H Q _ => ∃ c k : Int, vs = [.int c, .int k] ∧ Q (.int (mixI c k)) H
theorem ok__law_mix (T : Txt K mg) : Ok P w K mg base CX0 1 "_law_mix" ["cell", "k"] spMix := by
  refine ok_of T.d__law_mix fun f fd F => F.ok sc__law_mix (fun vs H Q E h => ?_) (fun cdv A outer s H vs Q E hr h => ?_)
  · obtain ⟨c, k, rfl, _⟩ := h
    rfl
  · obtain ⟨c, k, rfl, q⟩ := h
    have nd := sc__law_mix.nd
    refine ⟨_,       (pss_cons (ps_set (i := 2) nd rfl (Or.inl rfl) (pe_op op_mod (pe_callTy call_int1 (by rfl) T.n_int (by decide +kernel) (pa_cons (pe_op op_add (pe_op op_add (pe_op op_mul (pv 0) pe_int) (pe_op op_mul (pv 1) pe_int)) pe_int) pa_nil)) pe_int))
      (pss_cons (ps_set (i := 2) nd rfl (Or.inl rfl) (pe_op op_mod (pe_callTy call_int1 (by rfl) T.n_int (by decide +kernel) (pa_cons (pe_op op_add (pe_op op_add (pe_op op_mul (pv 2) pe_int) (pe_op op_mul (pv 1) pe_int)) pe_int) pa_nil)) pe_int))
      (pss_one (ps_ret (pe_op op_fdiv (pv 2) pe_int))))), ?_⟩
    refine ⟨_, rfl, _, _, rfl, rfl, .inr (by decide), _, rfl, _, _, rfl, rfl, .inr (by decide), _, _, rfl, rfl, _, _, rfl, rfl, .inl ⟨_, rfl, _, _, rfl, rfl, (by show (0 : Int) < 2147483647; decide), ?_⟩⟩
    refine ⟨_, rfl, _, _, rfl, rfl, .inr (by decide), _, rfl, _, _, rfl, rfl, .inr (by decide), _, _, rfl, rfl, _, _, rfl, rfl, .inl ⟨_, rfl, _, _, rfl, rfl, (by show (0 : Int) < 2147483629; decide), ?_⟩⟩
    exact ⟨_, rfl, _, _, rfl, rfl, ⟨by decide, by decide⟩, q⟩

def divs : Nat → Int → Int → Int
  | 0, x, _ => x
  | k + 1, x, b => divs k x b / b
def rowAt (c : Int) (b : Int) (k : Nat) : Int := if 1000000000000000000 ≤ (if c < 0 then -c else c) then divs k (if c < 0 then -c else c) b % b else mixI c k % b
/-- the digits of a cell, or its mixture -/
def rowL (c : Int) (n : Nat) (b : Int) : List Int := (List.range n).map (rowAt c b)
theorem rowL_len (c : Int) (n : Nat) (b : Int) : (rowL c n b).length = n := by simp [rowL]
theorem rowL_in {c : Int} {n : Nat} {b x : Int} (hb : 0 < b) (h : x ∈ rowL c n b) : 0 ≤ x ∧ x < b := by
  obtain ⟨k, _, rfl⟩ := List.mem_map.mp h
  have z : ∀ y : Int, 0 ≤ y % b ∧ y % b < b := fun y => ⟨Int.emod_nonneg _ (by omega), Int.emod_lt_of_pos _ hb⟩
  by_cases hc : 1000000000000000000 ≤ (if c < 0 then -c else c)
  · rw [rowAt, if_pos hc]
    exact z _
  · rw [rowAt, if_neg hc]
    exact z _
theorem rowL_succ (c : Int) (n : Nat) (b : Int) : rowL c (n + 1) b = rowL c n b ++ [rowAt c b n] := by simp [rowL, List.range_succ]
def spRow : Sp := fun vs H Q _ => ∃ (c : Int) (n : Nat) (b : Int), vs = [.int c, .int (n : Int), .int b] ∧ n ≤ 60000 ∧ 0 < b ∧ b < 1073741824 ∧ ∀ p H', H p = none → Same H H' → H' p = some (.lst ((rowL c n b).map V.int)) → Q (.ref p) H'
theorem ok__law_row (T : Txt K mg) : Ok P w K mg base CX0 2 "_law_row" ["cell", "count", "bound"] spRow := by
  have G__law_mix := ok__law_mix (P := P) (w := w) (base := base) T
  refine ok_of T.d__law_row fun f fd F => F.ok sc__law_row (fun vs H Q E h => ?_) (fun cdv A outer s H vs Q E hr h => ?_)
  · obtain ⟨c, n, b, rfl, _⟩ := h
    rfl
  · obtain ⟨c, n, b, rfl, hn, hb0, hb1, kQ⟩ := h
    have nd := sc__law_row.nd
    refine ⟨_,       (pss_cons (ps_set (i := 3) nd rfl (Or.inl rfl) (pe_lst pa_nil))
      (pss_cons (ps_set (i := 4) nd rfl (Or.inl rfl) (pe_callB call_abs (by rfl) T.n_abs (by decide +kernel) (pa_cons (pv 0) pa_nil)))
      (pss_cons (ps_for PassesOwn.never rfl (pi_range1 rfl T.n_range (pa_cons (pv 1) pa_nil)) (pg_name (i := 5) nd rfl (Or.inl rfl))
        (pss_one (ps_if (pt_cmpR op_ge (pe_callB call_abs (by rfl) T.n_abs (by decide +kernel) (pa_cons (pv 0) pa_nil)) pe_int (nomark _))
          (pss_cons (ps_expr (pe_bm PySem.F.plainAttrs_list PySem.F.slot_list_append PySem.F.type_list_append mt_append (pv 3) (pa_cons (pe_op op_mod (pe_callTy call_int1 (by rfl) T.n_int (by decide +kernel) (pa_cons (pv 4) pa_nil)) (pv 2)) pa_nil)))
          (pss_one (ps_set (i := 4) nd rfl (Or.inl rfl) (pe_op op_fdiv (pv 4) (pv 2)))))
          (pss_one (ps_expr (pe_bm PySem.F.plainAttrs_list PySem.F.slot_list_append PySem.F.type_list_append mt_append (pv 3) (pa_cons (pe_op op_mod (pe_callTy call_int1 (by rfl) T.n_int (by decide +kernel) (pa_cons (pe_callO G__law_mix (hr.mono (by decide)) pass0 (pa_cons (pv 0) (pa_cons (pv 5) pa_nil))) pa_nil)) (pv 2)) pa_nil)))))))
      (pss_one (ps_ret (pv 3)))))), ?_⟩
    refine ⟨by decide, fun p hp => ⟨_, rfl, _, rfl, ?_⟩⟩
    refine ⟨_, rfl, (n : Int), rfl, by omega, by omega, for_range (lo := 0) (n := (n : Int).toNat) (fun i σ H' => ∃ (r : Int) (v : Option V), (1000000000000000000 ≤ (if c < 0 then -c else c) → r = divs i (if c < 0 then -c else c) b) ∧ σ = [some (.int c), some (.int (n : Int)), some (.int b), some (.ref p), some (.int r), v] ∧ Same H H' ∧ H' p = some (.lst ((rowL c i b).map V.int))) ⟨_, none, fun _ => rfl, rfl, same_upd hp, upd_same⟩ ?_ ?_⟩
    · rintro i σ H' hi ⟨r, v, hr', rfl, e, hL⟩
      have ei : (0 : Int) + (i : Int) = (i : Int) := by omega
      have hsz : ((rowL c i b).map V.int).length < sizeLine := small (by rw [List.length_map, rowL_len]; omega)
      refine ⟨_, rfl, _, rfl, _, _, rfl, rfl, _, rfl, itd (fun h => ?_) (fun h => ?_)⟩
      · refine ⟨_, rfl, .inl ⟨rfl, _, SqL.of hL⟩, _, rfl, .inl ⟨_, rfl, _, rfl, _, _, rfl, rfl, hb0, p, _, _, rfl, rfl, hL, hsz, ?_⟩⟩
        refine ⟨_, rfl, _, rfl, _, _, rfl, rfl, ⟨hb0, hb1⟩, ?_⟩
        refine ⟨r / b, _, fun z => ?_, rfl, same_new e hp, ?_⟩
        · rw [hr' z]
          rfl
        · rw [upd_same, rowL_succ, rowAt, if_pos h, ← hr' h]
          simp
      · refine ⟨_, rfl, .inl ⟨rfl, _, SqL.of hL⟩, _, rfl, _, rfl, c, 0 + (i : Int), rfl, .inl ⟨_, rfl, _, rfl, _, _, rfl, rfl, hb0, p, _, _, rfl, rfl, hL, hsz, ?_⟩⟩
        refine ⟨r, _, fun z => absurd z h, rfl, same_new e hp, ?_⟩
        rw [upd_same, rowL_succ, rowAt, if_neg h, ei]
        simp
    · rintro σ H' ⟨r, v, _, rfl, e, hL⟩
      refine ⟨_, rfl, kQ p _ hp e ?_⟩
      rw [Int.toNat_natCast] at hL
      exact hL

/-! the law's small helpers in terms of values -/
def cellI (ns : List Int) (k : Int) : Int := cell ns k.toNat
def pCell (K : PySem.W.Frag) : PV.PSp := fun as _ Q => match as with
  | [.obj A, .v _ (.int k)] => A = PV.scr K A.key ∧ 0 ≤ k ∧ Q (.v .dat (.int (cellI A.key k)))
  | _ => False
theorem S__law_cell {K : PySem.W.Frag} {Ps : List Addr} : PV.SpOk K Ps (spCell K) (pCell K) := by
  intro vs H Q E L0 as PX PQ h1 h2 h3 h4 h5 h6
  unfold pCell at h4
  split at h4
  · next A t k =>
    obtain ⟨hA, hk, q⟩ := h4
    cases h2 with
    | obj a r =>
      cases r with
      | dat b r =>
        cases r
        cases b
        rw [hA] at a
        obtain ⟨l, rfl, hs⟩ := a
        refine ⟨l, A.key, k.toNat, by rw [Int.toNat_of_nonneg hk], PV.sm_hide.seq hs, h5 (.v .dat (.int _)) _ H (GX.Sm.refl H) (PV.Rp.int _) q⟩
  · exact h4.elim

def pMix : PV.PSp := fun as _ Q => match as with
  | [.v _ (.int c), .v _ (.int k)] => Q (.v .dat (.int (mixI c k)))
  | _ => False
theorem S__law_mix {K : PySem.W.Frag} {Ps : List Addr} : PV.SpOk K Ps spMix pMix := by
  intro vs H Q E L0 as PX PQ h1 h2 h3 h4 h5 h6
  unfold pMix at h4
  split at h4
  · next t c t2 k =>
    cases h2 with
    | dat a r =>
      cases r with
      | dat b r =>
        cases r
        cases a
        cases b
        exact ⟨c, k, rfl, h5 (.v .dat (.int _)) _ H (GX.Sm.refl H) (PV.Rp.int _) h4⟩
  · exact h4.elim
def pRow : PV.PSp := fun as _ Q => match as with
  | [.v _ (.int c), .v _ (.int n), .v _ (.int b)] => 0 ≤ n ∧ n ≤ 60000 ∧ 0 < b ∧ b < 1073741824 ∧ Q (.v .fr (.list ((rowL c n.toNat b).map PyData.int)))
  | _ => False
theorem S__law_row {K : PySem.W.Frag} {Ps : List Addr} : PV.SpOk K Ps spRow pRow := by
  intro vs H Q E L0 as PX PQ h1 h2 h3 h4 h5 h6
  unfold pRow at h4
  split at h4
  · next t c t2 n t3 b =>
    obtain ⟨e1, e2, e3, e4, q⟩ := h4
    cases h2 with
    | dat a r =>
      cases r with
      | dat a2 r =>
        cases r with
        | dat a3 r =>
          cases r
          cases a
          cases a2
          cases a3
          refine ⟨c, n.toNat, b, by rw [Int.toNat_of_nonneg e1], by omega, e3, e4, fun p H' hp e hl => h5 (.v .fr (.list ((rowL c n.toNat b).map PyData.int))) _ H' (GX.Sm.of e) ⟨p, _, _, rfl, rfl, PV.NewTo.none hp, hl, PV.RpAll.ints _⟩ q⟩
  · exact h4.elim

def isIntD : PyData → Bool
  | .int _ => true
  | _ => false
theorem kit_dict_int : kitB "dict" "int" = some false := by decide +kernel
def pIsInt : PV.PSp := fun as _ Q => match as with
  | [.v _ d] => Q (.v .dat (.bool (isIntD d)))
  | _ => False
theorem ok__law_is_int (T : Txt K mg) : Ok P w K mg base CX0 1 "_law_is_int" ["value"] (PV.spP K [] (PV.sg 1 pIsInt)) := by
  refine PV.pv_def T.d__law_is_int sc__law_is_int (fun as PX PQ h => h.1) fun f cdv A outer s H E hr => ?_
  have nd := sc__law_is_int.nd
  refine ⟨_, _, (pss_one (ps_ret (pe_and (pe_callB call_isi (by rfl) T.n_isinstance (by decide +kernel) (pa_cons (pv 0) (pa_cons (pe_bltn (v := .ty "int") (by rfl) T.n_int (by decide +kernel) rfl) pa_nil))) (pe_one (pe_not (pe_callB call_isi (by rfl) T.n_isinstance (by decide +kernel) (pa_cons (pv 0) (pa_cons (pe_bltn (v := .ty "bool") (by rfl) T.n_bool (by decide +kernel) rfl) pa_nil)))))))),
    open PV in (ls_retD (le_and (le_isi le_var) (le_not (le_isi le_var)))), fun as PX PQ h => ?_⟩
  replace h := h.2
  unfold pIsInt at h
  split at h
  · next t d =>
    cases d
    all_goals
      simp only [PV.pDivMod, PV.ownsOf_dic, PV.pDNew, PV.pDPut, PV.pDGet2, PV.pDGet, PV.pDIn, PV.pLenD, PV.keyD, PV.pSlScr, PV.pZipT, PV.pRngC, PV.pRngV, PV.pSt1, PV.pM0, PV.pZipS, PV.pM1, PV.pJoin, PV.pFmt, PV.pJoined, PV.pJs, PV.pBMV, PV.pCount, PV.pIndex, PV.pSetIx2, PV.pRetT, PV.pLcF, PV.mapL_inj, PV.pVar, PV.pC, PV.pOp, PV.pUn, PV.pII, PV.pII0, PV.pNeg, PV.pSS, PV.pSS0, PV.eqF_int, PV.eqF_str, PV.eqF_bool, PV.eqF_ni, PV.eqF_in, PV.eqF_nn, PV.eqF_si, PV.eqF_is, PV.eqF_sn, PV.eqF_ns, PV.pEq, PV.pEqD, PV.isN, PV.pIsN, PV.Tg.d, PV.Tg.it, PV.Tg.itD, PV.Tg.ok, PV.pCat, PV.pRep, PV.pCatT, PV.pIn, PV.pNil, PV.pCons, PV.Tg.items, PV.pStar, PV.allD, PV.allS, PV.pTup, PV.pLst, PV.pNoPart, PV.pPart, PV.pSlL, PV.pSlT, PV.pCB, PV.pLen, PV.pLenS, PV.pI1, PV.pI10, PV.pI2, PV.pInt1, PV.pBool1, PV.pS1, PV.pListOf, PV.pTupOf, PV.tyD, PV.pIsi, PV.bD, PV.pAndV, PV.pOrV, PV.pNotV, PV.pIfE, PV.pT, PV.pAnd, PV.pOr, PV.pNot, PV.truD, PV.pTru, PV.pNotT, PV.pChain, PV.pThree, PV.Rs.arg, PV.lend, PV.pCall, PV.pCall0, PV.pIt, PV.pItT, PV.pRg1, PV.pRg2, PV.pRg3, PV.pEnum, PV.pZip, PV.pRev, PV.pStr, PV.setR, PV.pName, PV.pTgt, PV.pTgts, PV.pTg, PV.pNext, PV.pBreak, PV.pCont, PV.pSeq, PV.pShr, PV.pShrI, PV.shI, PV.pFgt, PV.fgt, PV.pAsg, PV.pExpr, PV.Rs.ret, PV.pRet, PV.pRetN, PV.pIf, PV.pFld, PV.pAug, PV.pPar, PV.pBM, PV.pBM0, PV.pAppend, PV.pExtend, PV.pExtT, PV.pClear, PV.pReverse, PV.pSetIx, PV.pFor, PV.wipeG, PV.pLc, PV.gG, PV.pGen, PV.pYes, PV.pSum, PV.pRaise, PV.pRaise1, PV.slA, PV.startG, PV.ends, PV.pRevL, PV.pSlS, PV.pSign, PV.pProp, PV.pMake, PV.pMake0, PV.pTry, PV.pRetD, PV.Rs.asD, PV.sg, PV.Sl.r, PV.dV, PV.flatD, PV.owns, PV.ownsOf_no, PV.ownsOf_dat, PV.ownsOf_obj, PV.ownsOf_own, PV.ownsOf_tab, PV.shr, PV.Sl.sh, PV.intsOf_map, PV.intsOf_app, PV.intsOf_nil, PV.intsOf_int, PV.isInts_map, PV.isInts_nil, PV.isInts_int, PV.isInts_mapL, PV.scr_key, PV.isiQ_s, PV.kit_int_int, PV.kit_int_bool, PV.kit_int_str, PV.kit_int_list, PV.kit_int_tuple, PV.kit_bool_int, PV.kit_bool_bool, PV.kit_bool_str, PV.kit_bool_list, PV.kit_bool_tuple, PV.kit_str_int, PV.kit_str_bool, PV.kit_str_str, PV.kit_str_list, PV.kit_str_tuple, PV.kit_list_int, PV.kit_list_bool, PV.kit_list_str, PV.kit_list_list, PV.kit_list_tuple, PV.kit_tuple_int, PV.kit_tuple_bool, PV.kit_tuple_str, PV.kit_tuple_list, PV.kit_tuple_tuple, PV.kit_NoneType_int, PV.kit_NoneType_bool, PV.kit_NoneType_str, PV.kit_NoneType_list, PV.kit_NoneType_tuple, PV.cutD_map, PV.allD_map, PV.allD_mapA, PV.allS_map, PV.allS_mapA, List.getElem?_cons_zero, List.getElem?_cons_succ, List.getElem?_nil, List.set_cons_zero, List.set_cons_succ, List.map_cons, List.map_nil, List.cons_append, List.nil_append, List.append_nil, List.length_cons, List.length_nil, List.length_map, List.length_append, List.length_replicate, PV.flat_rep, Nat.mul_one, Nat.one_mul, PV.rep_none, List.replicate_zero, List.all_cons, List.all_nil, cond_true, cond_false, Bool.and_true, Bool.true_and, Bool.and_false, Bool.false_and, Bool.not_true, Bool.not_false, Bool.not_not, if_true, if_false, ite_true, ite_false, true_and, and_true, true_implies, false_implies, reduceCtorEq, Nat.reduceAdd, Nat.reduceSub, Nat.reduceLT, Nat.reduceLeDiff, Bool.false_eq_true, decide_eq_true_eq, decide_eq_false_iff_not, Bool.not_eq_true, Bool.not_eq_false, Bool.not_eq_true', Bool.not_eq_false', Bool.true_eq_false, Option.map_some, Option.map_none, decide_true, decide_false, not_true_eq_false, not_false_eq_true, implies_true, forall_const, eq_self, Nat.reduceEqDiff, beq_self_eq_true, ne_eq, Int.reduceEq, Int.reduceNe, Int.reduceLT, Int.reduceLE, Int.reduceGT, Int.reduceGE, Int.reduceToNat, Int.reduceAdd, Int.reduceNeg, Nat.reduceLT, Nat.reduceLeDiff, Nat.reduceAdd, Nat.reduceMul, false_and, and_false, and_self, true_and, and_true, false_implies, PV.at0, PV.at1, PV.at2, PV.at3, PV.at4, PV.at5, Option.some.injEq, exists_eq_left', exists_eq_left, kit_dict_int]
      exact h
  · exact h.elim

-- @@CUT
/-! ### edit scripts: steps, and how they lie in the heap -/
inductive Step where
  | keep (n : Nat)
  | drop (n : Nat)
  | add (xs : List Int)
  deriving DecidableEq
def StepAt (K : PySem.W.Frag) (H : Hp) (v : V) : Step → Prop
  | .keep n => ∃ t, v = .ref t ∧ SqT K H t [.str "keep", .int (n : Int)]
  | .drop n => ∃ t, v = .ref t ∧ SqT K H t [.str "drop", .int (n : Int)]
  | .add xs => ∃ t u, v = .ref t ∧ SqT K H t [.str "add", .ref u] ∧ SqT K H u (xs.map V.int)
def ScrV (K : PySem.W.Frag) (H : Hp) (vs : List V) (ss : List Step) : Prop := Paired (StepAt K H) vs ss
def ScrAt (K : PySem.W.Frag) (H : Hp) (a : Addr) (ss : List Step) : Prop := ∃ vs, SqL K H a vs ∧ ScrV K H vs ss
theorem StepAt.keeps {K : PySem.W.Frag} {H H' : Hp} (e : ∀ t ys, SqT K H t ys → SqT K H' t ys) {v : V} : ∀ {s : Step}, StepAt K H v s → StepAt K H' v s
  | .keep _, ⟨t, h1, h2⟩ => ⟨t, h1, e _ _ h2⟩
  | .drop _, ⟨t, h1, h2⟩ => ⟨t, h1, e _ _ h2⟩
  | .add _, ⟨t, u, h1, h2, h3⟩ => ⟨t, u, h1, e _ _ h2, e _ _ h3⟩
theorem ScrV.keeps {K : PySem.W.Frag} {H H' : Hp} (e : ∀ t ys, SqT K H t ys → SqT K H' t ys) : ∀ {vs : List V} {ss : List Step}, ScrV K H vs ss → ScrV K H' vs ss
  | _, _, .nil => .nil
  | _, _, .cons h r => .cons (h.keeps e) (ScrV.keeps e r)
theorem itn {p A B : Prop} [Decidable p] (h1 : ¬ p → A) (h2 : p → B) : if (!decide p) = true then A else B := by
  by_cases h : p
  · rw [decide_eq_true h]
    exact iteF (h2 h)
  · rw [decide_eq_false h]
    exact iteT (h1 h)
theorem cut_fromG {xs : List V} {k : Nat} : cutV xs (some (k : Int)) none = xs.drop k := by
  unfold cutV
  have e : HT.sIx xs.length 0 (some (k : Int)) = min k xs.length := HT.sIx_nat _ _ k
  rw [e]
  simp only [HT.sIx]
  rw [List.take_of_length_le (by rw [List.length_drop]; exact Nat.le_refl _)]
  by_cases h : k ≤ xs.length
  · rw [Nat.min_eq_left h]
  · rw [Nat.min_eq_right (by omega), List.drop_of_length_le (Nat.le_refl _), List.drop_of_length_le (by omega)]
theorem sqT_same {K : PySem.W.Frag} {H H' : Hp} (e : Same H H') (t : Addr) (ys : List V) (h : SqT K H t ys) : SqT K H' t ys := Evl.ex_t e h
theorem sqT_sm {K : PySem.W.Frag} {H H' : Hp} (e : GX.Sm H H') (t : Addr) (ys : List V) (h : SqT K H t ys) : SqT K H' t ys := e.tup h
/-- a list that is rewritten moves no tuple -/
theorem sqT_lst {K : PySem.W.Frag} {H : Hp} {l : Addr} {xs ws : List V} (hl : H l = some (.lst xs)) (t : Addr) (ys : List V) (h : SqT K H t ys) : SqT K (upd H l (.lst ws)) t ys := by
  rcases h with (h | ⟨o, h⟩) | h
  · exact .inl (.inl (by rw [upd_ne (fun z => by rw [z, hl] at h; cases h)]; exact h))
  · exact .inl (.inr ⟨o, by rw [upd_ne (fun z => by rw [z, hl] at h; cases h)]; exact h⟩)
  · exact .inr h
theorem ScrV.length {K : PySem.W.Frag} {H : Hp} {vs : List V} {ss : List Step} (h : ScrV K H vs ss) : vs.length = ss.length := Paired.length h
def stepD : Step → PyData
  | .keep n => .tuple [.str "keep", .int (n : Int)]
  | .drop n => .tuple [.str "drop", .int (n : Int)]
  | .add xs => .tuple [.str "add", .tuple (xs.map PyData.int)]
theorem dp_step {K : PySem.W.Frag} {H : Hp} {v : V} : ∀ {s : Step}, StepAt K H v s → Dp K H v (stepD s)
  | .keep n, ⟨t, h1, h2⟩ => h1 ▸ .tup h2 (.cons (.str _) (.cons (.int _) .nil))
  | .drop n, ⟨t, h1, h2⟩ => h1 ▸ .tup h2 (.cons (.str _) (.cons (.int _) .nil))
  | .add xs, ⟨t, u, h1, h2, h3⟩ => h1 ▸ .tup h2 (.cons (.str _) (.cons (.tup h3 (dp_ints xs)) .nil))
theorem dp_steps {K : PySem.W.Frag} {H : Hp} : ∀ {vs : List V} {ss : List Step}, ScrV K H vs ss → DpAll K H vs (ss.map stepD)
  | _, _, .nil => .nil
  | _, _, .cons h r => .cons (dp_step h) (dp_steps r)
theorem dp_scr {K : PySem.W.Frag} {H : Hp} {a : Addr} {ss : List Step} (h : ScrAt K H a ss) : Dp K H (.ref a) (.list (ss.map stepD)) := by
  obtain ⟨vs, h1, h2⟩ := h
  exact .lst h1 (dp_steps h2)
theorem canLay_step (s : Step) : PyData.canLay0 (stepD s) = true := by
  cases s with
  | keep n => exact Bool.and_eq_true_iff.mpr ⟨by decide +kernel, by simp [PyData.canLayAll0, PyData.canLay0]⟩
  | drop n => exact Bool.and_eq_true_iff.mpr ⟨by decide +kernel, by simp [PyData.canLayAll0, PyData.canLay0]⟩
  | add xs =>
    refine Bool.and_eq_true_iff.mpr ⟨by decide +kernel, ?_⟩
    simp [PyData.canLayAll0, PyData.canLay0, Cm.canLayAll_ints]
theorem depth_step (s : Step) : PyData.depth (stepD s) ≤ 2 := by
  cases s with
  | keep n => simp [stepD, PyData.depth, PyData.depthAll]
  | drop n => simp [stepD, PyData.depth, PyData.depthAll]
  | add xs => simp [stepD, PyData.depth, PyData.depthAll, Cm.depthAll_ints]
theorem canLay_steps : ∀ ss : List Step, PyData.canLayAll0 (ss.map stepD) = true
  | [] => rfl
  | s :: ss => by
    show (PyData.canLay0 (stepD s) && PyData.canLayAll0 (ss.map stepD)) = true
    rw [canLay_step, canLay_steps ss]
    rfl
theorem depth_steps : ∀ ss : List Step, PyData.depthAll (ss.map stepD) ≤ 2
  | [] => by simp [PyData.depthAll]
  | s :: ss => by
    show max (PyData.depth (stepD s)) (PyData.depthAll (ss.map stepD)) ≤ 2
    have h1 := depth_step s
    have h2 := depth_steps ss
    omega
theorem shaped_steps (ss : List Step) : SeqAt.shaped (.list (ss.map stepD)) = true := by
  have h := depth_steps ss
  refine Bool.and_eq_true_iff.mpr ⟨canLay_steps ss, decide_eq_true ?_⟩
  show PyData.depthAll (ss.map stepD) + 1 ≤ 64
  omega
theorem shaped_old_steps (ns : List Int) (ss : List Step) : SeqAt.shaped (.tuple [.list (ns.map PyData.int), .list (ss.map stepD)]) = true := by
  have h := depth_steps ss
  refine Bool.and_eq_true_iff.mpr ⟨?_, decide_eq_true ?_⟩
  · show (PyData.canLayAll0 (ns.map PyData.int) && (PyData.canLayAll0 (ss.map stepD) && true)) = true
    rw [canLay_steps, Cm.canLayAll_ints]
    rfl
  · show max (PyData.depthAll (ns.map PyData.int) + 1) (max (PyData.depthAll (ss.map stepD) + 1) 0) + 1 ≤ 64
    rw [Cm.depthAll_ints]
    omega
theorem sm_put {H H2 : Hp} {l : Addr} {ws zs : List V} (e : GX.Sm H H2) (hl : H l = none) (h2 : H2 l = some (.lst ws)) : GX.Sm H (upd H2 l (.lst zs)) := by
  refine ⟨fun b o q n => ?_, fun P t => ?_⟩
  · rw [upd_ne (fun z => by rw [z, hl] at q; cases q)]
    exact e.keep _ _ q n
  · obtain ⟨ps, q, t2⟩ := e.tab _ t
    exact ⟨ps, by rw [upd_ne (fun z => by rw [z, h2] at q; cases q)]; exact q, t2⟩
theorem sm_mk {H H2 : Hp} {r : Addr} {o : HO} (e : GX.Sm H H2) (hr : H2 r = none) : GX.Sm H (upd H2 r o) := e.trans (GX.Sm.of (same_upd hr))
/-- how many old items a step takes, how many new items it makes -/
def Step.tk : Step → Nat
  | .keep n => n
  | .drop n => n
  | .add _ => 0
def Step.mk' : Step → Nat
  | .keep n => n
  | .drop _ => 0
  | .add xs => xs.length
def taken : List Step → Nat
  | [] => 0
  | s :: ss => s.tk + taken ss
theorem taken_app : ∀ (a b : List Step), taken (a ++ b) = taken a + taken b
  | [], b => by simp [taken]
  | s :: a, b => by
    show s.tk + taken (a ++ b) = s.tk + taken a + taken b
    rw [taken_app a b]
    omega
theorem taken_snoc (a : List Step) (s : Step) : taken (a ++ [s]) = taken a + s.tk := by
  rw [taken_app]
  rfl
theorem taken_take_le (ss : List Step) (i : Nat) : taken (ss.take i) ≤ taken ss := by
  have h := taken_app (ss.take i) (ss.drop i)
  rw [List.take_append_drop] at h
  omega
/-- what a step puts into the new list, the rest of the old one being o -/
def piece (o : List Int) : Step → List Int
  | .keep n => o.take n
  | .drop _ => []
  | .add xs => xs
def run (o : List Int) : List Step → List Int
  | [] => []
  | s :: ss => piece o s ++ run (o.drop s.tk) ss
theorem run_app : ∀ (a b : List Step) (o : List Int), run o (a ++ b) = run o a ++ run (o.drop (taken a)) b
  | [], b, o => by simp [run, taken]
  | s :: a, b, o => by
    show piece o s ++ run (o.drop s.tk) (a ++ b) = piece o s ++ run (o.drop s.tk) a ++ run (o.drop (s.tk + taken a)) b
    rw [run_app a b, List.drop_drop, List.append_assoc]
theorem run_snoc (a : List Step) (s : Step) (o : List Int) : run o (a ++ [s]) = run o a ++ piece (o.drop (taken a)) s := by
  rw [run_app]
  simp [run]
def Step.sz : Step → Nat
  | .keep n => n
  | .drop n => n
  | .add xs => xs.length
/-- what bounds a script -/
def Bd (m : Nat) (ss : List Step) : Prop := ∀ s ∈ ss, s.sz ≤ m
theorem piece_le (o : List Int) (s : Step) : (piece o s).length ≤ s.sz := by
  cases s with
  | keep n => simp only [piece, Step.sz, List.length_take]; omega
  | drop n => simp [piece]
  | add xs => simp [piece, Step.sz]
theorem run_le {m : Nat} : ∀ (ss : List Step) (o : List Int), Bd m ss → (run o ss).length ≤ ss.length * m
  | [], o, _ => by simp [run]
  | s :: ss, o, h => by
    have h1 := piece_le o s
    have h2 : s.sz ≤ m := h s List.mem_cons_self
    have h3 := run_le ss (o.drop s.tk) fun x hx => h x (List.mem_cons_of_mem _ hx)
    show (piece o s ++ run (o.drop s.tk) ss).length ≤ (ss.length + 1) * m
    rw [List.length_append, Nat.add_mul, Nat.one_mul]
    omega
theorem Bd.take {m : Nat} {ss : List Step} (h : Bd m ss) (i : Nat) : Bd m (ss.take i) := fun s hs => h s (List.mem_of_mem_take hs)
theorem Bd.drop {m : Nat} {ss : List Step} (h : Bd m ss) (i : Nat) : Bd m (ss.drop i) := fun s hs => h s (List.mem_of_mem_drop hs)
theorem Bd.app {m : Nat} {a b : List Step} (h1 : Bd m a) (h2 : Bd m b) : Bd m (a ++ b) := fun s hs => (List.mem_append.mp hs).elim (h1 s) (h2 s)
theorem Bd.one {m : Nat} {s : Step} (h : s.sz ≤ m) : Bd m [s] := fun x hx => by
  rw [List.mem_singleton.mp hx]
  exact h
theorem scr_get {K : PySem.W.Frag} {H : Hp} : ∀ {vs : List V} {ss : List Step} {i : Nat} {v : V}, ScrV K H vs ss → vs[i]? = some v → ∃ s, ss[i]? = some s ∧ StepAt K H v s
  | _, _, i, v, .nil, h => by simp at h
  | _, _, 0, v, .cons h r, e => by
    simp at e
    subst e
    exact ⟨_, rfl, h⟩
  | _, _, i + 1, v, .cons h r, e => by
    obtain ⟨s, h1, h2⟩ := scr_get r (by simpa using e)
    exact ⟨s, by simpa using h1, h2⟩
theorem ScrV.app {K : PySem.W.Frag} {H : Hp} : ∀ {a b : List V} {x y : List Step}, ScrV K H a x → ScrV K H b y → ScrV K H (a ++ b) (x ++ y)
  | _, _, _, _, .nil, h => h
  | _, _, _, _, .cons h r, h2 => .cons h (ScrV.app r h2)
theorem ScrV.take {K : PySem.W.Frag} {H : Hp} : ∀ {a : List V} {x : List Step} (i : Nat), ScrV K H a x → ScrV K H (a.take i) (x.take i)
  | _, _, 0, _ => by simp; exact Paired.nil
  | _, _, i + 1, .nil => by simp; exact Paired.nil
  | _, _, i + 1, .cons h r => .cons h (ScrV.take i r)
theorem ScrV.drop {K : PySem.W.Frag} {H : Hp} : ∀ {a : List V} {x : List Step} (i : Nat), ScrV K H a x → ScrV K H (a.drop i) (x.drop i)
  | _, _, 0, h => h
  | _, _, i + 1, .nil => by simp; exact Paired.nil
  | _, _, i + 1, .cons h r => ScrV.drop i r
theorem ScrV.set {K : PySem.W.Frag} {H : Hp} : ∀ {a : List V} {x : List Step} (i : Nat) {v : V} {s : Step}, ScrV K H a x → StepAt K H v s → ScrV K H (a.set i v) (x.set i s)
  | _, _, _, _, _, .nil, _ => by simp; exact Paired.nil
  | _, _, 0, _, _, .cons h r, h2 => .cons h2 r
  | _, _, i + 1, _, _, .cons h r, h2 => .cons h (ScrV.set i r h2)
theorem Bd.mono {m n : Nat} {ss : List Step} (h : Bd m ss) (le : m ≤ n) : Bd n ss := fun s hs => Nat.le_trans (h s hs) le
def tot : List Step → Nat
  | [] => 0
  | s :: ss => s.sz + tot ss
theorem tot_app : ∀ (a b : List Step), tot (a ++ b) = tot a + tot b
  | [], b => by simp [tot]
  | s :: a, b => by
    show s.sz + tot (a ++ b) = s.sz + tot a + tot b
    rw [tot_app a b]
    omega
theorem tot_snoc (a : List Step) (s : Step) : tot (a ++ [s]) = tot a + s.sz := by
  rw [tot_app]
  rfl
theorem tot_take_le (ss : List Step) (i : Nat) : tot (ss.take i) ≤ tot ss := by
  have h := tot_app (ss.take i) (ss.drop i)
  rw [List.take_append_drop] at h
  omega
theorem run_tot : ∀ (ss : List Step) (o : List Int), (run o ss).length ≤ tot ss
  | [], o => by simp [run, tot]
  | s :: ss, o => by
    have h1 := piece_le o s
    have h3 := run_tot ss (o.drop s.tk)
    show (piece o s ++ run (o.drop s.tk) ss).length ≤ s.sz + tot ss
    rw [List.length_append]
    omega
theorem tot_le {m : Nat} : ∀ {ss : List Step}, Bd m ss → tot ss ≤ ss.length * m
  | [], _ => by simp [tot]
  | s :: ss, h => by
    have h1 : s.sz ≤ m := h s List.mem_cons_self
    have h2 := tot_le (ss := ss) fun x hx => h x (List.mem_cons_of_mem _ hx)
    show s.sz + tot ss ≤ (ss.length + 1) * m
    rw [Nat.add_mul, Nat.one_mul]
    omega
def PosS (ss : List Step) : Prop := ∀ s ∈ ss, 0 < s.sz
theorem PosS.app {a b : List Step} (h1 : PosS a) (h2 : PosS b) : PosS (a ++ b) := fun s hs => (List.mem_append.mp hs).elim (h1 s) (h2 s)
theorem PosS.one {s : Step} (h : 0 < s.sz) : PosS [s] := fun x hx => by
  rw [List.mem_singleton.mp hx]
  exact h

/-! ### normal forms of scripts -/
def kp (k : Nat) : List Step := if 0 < k then [.keep k] else []
def dr (d : Nat) : List Step := if 0 < d then [.drop d] else []
def ad (xs : List Int) : List Step := if xs.length ≠ 0 then [.add xs] else []
def blk (k d : Nat) (xs : List Int) : List Step := kp k ++ dr d ++ ad xs
/-- what is left to write, k kept, d dropped and xs added being held back -/
def nfS (k d : Nat) (xs : List Int) : List Step → List Step
  | [] => blk k d xs
  | .drop n :: r => nfS k (d + n) xs r
  | .add ys :: r => nfS k d (xs ++ ys) r
  | .keep n :: r => if 0 < d ∨ xs.length ≠ 0 then blk k d xs ++ nfS n 0 [] r else nfS (k + n) d xs r
def nf (ss : List Step) : List Step := nfS 0 0 [] ss
theorem kp0 : kp 0 = [] := rfl
theorem dr0 : dr 0 = [] := rfl
theorem ad0 : ad [] = [] := rfl
theorem kpP {k : Nat} (h : 0 < k) : kp k = [.keep k] := if_pos h
theorem drP {k : Nat} (h : 0 < k) : dr k = [.drop k] := if_pos h
theorem adP {xs : List Int} (h : xs.length ≠ 0) : ad xs = [.add xs] := if_pos h
theorem nfS_flush {k d n : Nat} {xs : List Int} {r : List Step} (h : 0 < d ∨ xs.length ≠ 0) : nfS k d xs (.keep n :: r) = blk k d xs ++ nfS n 0 [] r := if_pos h
theorem nfS_keep {k n : Nat} {r : List Step} : nfS k 0 [] (.keep n :: r) = nfS (k + n) 0 [] r := if_neg (by simp)
theorem gap_or (d : Nat) (xs : List Int) : (0 < d ∨ xs.length ≠ 0) ∨ (d = 0 ∧ xs = []) := by
  cases xs with
  | nil => cases d with
    | zero => exact .inr ⟨rfl, rfl⟩
    | succ n => exact .inl (.inl (by omega))
  | cons x xs => exact .inl (.inr (by simp))
/-- the kind of a step -/
def Step.kd : Step → Str
  | .keep _ => "keep"
  | .drop _ => "drop"
  | .add _ => "add"
/-- normal form, after a step of the kind b -/
def nfOk (b : Str) : List Step → Prop
  | [] => True
  | s :: r => s.kd ≠ b ∧ 0 < s.sz ∧ (s.kd = "drop" → b ≠ "add") ∧ nfOk s.kd r
theorem kd_keep_drop : (Str.ofString "keep") ≠ Str.ofString "drop" := by decide
theorem kd_keep_add : (Str.ofString "keep") ≠ Str.ofString "add" := by decide
theorem kd_keep_no : (Str.ofString "keep") ≠ Str.ofString "" := by decide
theorem kd_drop_keep : (Str.ofString "drop") ≠ Str.ofString "keep" := by decide
theorem kd_drop_add : (Str.ofString "drop") ≠ Str.ofString "add" := by decide
theorem kd_drop_no : (Str.ofString "drop") ≠ Str.ofString "" := by decide
theorem kd_add_keep : (Str.ofString "add") ≠ Str.ofString "keep" := by decide
theorem kd_add_drop : (Str.ofString "add") ≠ Str.ofString "drop" := by decide
theorem kd_add_no : (Str.ofString "add") ≠ Str.ofString "" := by decide
theorem kd_no_keep : (Str.ofString "") ≠ Str.ofString "keep" := by decide
theorem kd_no_drop : (Str.ofString "") ≠ Str.ofString "drop" := by decide
theorem kd_no_add : (Str.ofString "") ≠ Str.ofString "add" := by decide
theorem blk_ok {k d : Nat} {xs : List Int} {b : Str} (hb : b = "" ∨ b = "drop" ∨ b = "add") (hk : k = 0 → b = "") : nfOk b (blk k d xs) := by
  have k1 : (Str.ofString "keep") ≠ b := by rcases hb with rfl | rfl | rfl <;> decide
  unfold blk
  by_cases h1 : 0 < k
  · rw [kpP h1]
    by_cases h2 : 0 < d
    · rw [drP h2]
      by_cases h3 : xs.length ≠ 0
      · rw [adP h3]
        exact ⟨k1, h1, fun z => absurd z (by first | exact kd_keep_drop | exact kd_keep_add | exact kd_keep_no | exact kd_drop_keep | exact kd_drop_add | exact kd_drop_no | exact kd_add_keep | exact kd_add_drop | exact kd_add_no | exact kd_no_keep | exact kd_no_drop | exact kd_no_add), (by first | exact kd_keep_drop | exact kd_keep_add | exact kd_keep_no | exact kd_drop_keep | exact kd_drop_add | exact kd_drop_no | exact kd_add_keep | exact kd_add_drop | exact kd_add_no | exact kd_no_keep | exact kd_no_drop | exact kd_no_add), h2, fun _ => (by first | exact kd_keep_drop | exact kd_keep_add | exact kd_keep_no | exact kd_drop_keep | exact kd_drop_add | exact kd_drop_no | exact kd_add_keep | exact kd_add_drop | exact kd_add_no | exact kd_no_keep | exact kd_no_drop | exact kd_no_add), (by first | exact kd_keep_drop | exact kd_keep_add | exact kd_keep_no | exact kd_drop_keep | exact kd_drop_add | exact kd_drop_no | exact kd_add_keep | exact kd_add_drop | exact kd_add_no | exact kd_no_keep | exact kd_no_drop | exact kd_no_add), by show 0 < xs.length; omega, fun z => absurd z (by first | exact kd_keep_drop | exact kd_keep_add | exact kd_keep_no | exact kd_drop_keep | exact kd_drop_add | exact kd_drop_no | exact kd_add_keep | exact kd_add_drop | exact kd_add_no | exact kd_no_keep | exact kd_no_drop | exact kd_no_add), True.intro⟩
      · rw [ad, if_neg h3]
        exact ⟨k1, h1, fun z => absurd z (by first | exact kd_keep_drop | exact kd_keep_add | exact kd_keep_no | exact kd_drop_keep | exact kd_drop_add | exact kd_drop_no | exact kd_add_keep | exact kd_add_drop | exact kd_add_no | exact kd_no_keep | exact kd_no_drop | exact kd_no_add), (by first | exact kd_keep_drop | exact kd_keep_add | exact kd_keep_no | exact kd_drop_keep | exact kd_drop_add | exact kd_drop_no | exact kd_add_keep | exact kd_add_drop | exact kd_add_no | exact kd_no_keep | exact kd_no_drop | exact kd_no_add), h2, fun _ => (by first | exact kd_keep_drop | exact kd_keep_add | exact kd_keep_no | exact kd_drop_keep | exact kd_drop_add | exact kd_drop_no | exact kd_add_keep | exact kd_add_drop | exact kd_add_no | exact kd_no_keep | exact kd_no_drop | exact kd_no_add), True.intro⟩
    · rw [dr, if_neg h2]
      by_cases h3 : xs.length ≠ 0
      · rw [adP h3]
        exact ⟨k1, h1, fun z => absurd z (by first | exact kd_keep_drop | exact kd_keep_add | exact kd_keep_no | exact kd_drop_keep | exact kd_drop_add | exact kd_drop_no | exact kd_add_keep | exact kd_add_drop | exact kd_add_no | exact kd_no_keep | exact kd_no_drop | exact kd_no_add), (by first | exact kd_keep_drop | exact kd_keep_add | exact kd_keep_no | exact kd_drop_keep | exact kd_drop_add | exact kd_drop_no | exact kd_add_keep | exact kd_add_drop | exact kd_add_no | exact kd_no_keep | exact kd_no_drop | exact kd_no_add), by show 0 < xs.length; omega, fun z => absurd z (by first | exact kd_keep_drop | exact kd_keep_add | exact kd_keep_no | exact kd_drop_keep | exact kd_drop_add | exact kd_drop_no | exact kd_add_keep | exact kd_add_drop | exact kd_add_no | exact kd_no_keep | exact kd_no_drop | exact kd_no_add), True.intro⟩
      · rw [ad, if_neg h3]
        exact ⟨k1, h1, fun z => absurd z (by first | exact kd_keep_drop | exact kd_keep_add | exact kd_keep_no | exact kd_drop_keep | exact kd_drop_add | exact kd_drop_no | exact kd_add_keep | exact kd_add_drop | exact kd_add_no | exact kd_no_keep | exact kd_no_drop | exact kd_no_add), True.intro⟩
  · have b0 := hk (by omega)
    subst b0
    rw [kp, if_neg h1]
    by_cases h2 : 0 < d
    · rw [drP h2]
      by_cases h3 : xs.length ≠ 0
      · rw [adP h3]
        exact ⟨(by first | exact kd_keep_drop | exact kd_keep_add | exact kd_keep_no | exact kd_drop_keep | exact kd_drop_add | exact kd_drop_no | exact kd_add_keep | exact kd_add_drop | exact kd_add_no | exact kd_no_keep | exact kd_no_drop | exact kd_no_add), h2, fun _ => (by first | exact kd_keep_drop | exact kd_keep_add | exact kd_keep_no | exact kd_drop_keep | exact kd_drop_add | exact kd_drop_no | exact kd_add_keep | exact kd_add_drop | exact kd_add_no | exact kd_no_keep | exact kd_no_drop | exact kd_no_add), (by first | exact kd_keep_drop | exact kd_keep_add | exact kd_keep_no | exact kd_drop_keep | exact kd_drop_add | exact kd_drop_no | exact kd_add_keep | exact kd_add_drop | exact kd_add_no | exact kd_no_keep | exact kd_no_drop | exact kd_no_add), by show 0 < xs.length; omega, fun z => absurd z (by first | exact kd_keep_drop | exact kd_keep_add | exact kd_keep_no | exact kd_drop_keep | exact kd_drop_add | exact kd_drop_no | exact kd_add_keep | exact kd_add_drop | exact kd_add_no | exact kd_no_keep | exact kd_no_drop | exact kd_no_add), True.intro⟩
      · rw [ad, if_neg h3]
        exact ⟨(by first | exact kd_keep_drop | exact kd_keep_add | exact kd_keep_no | exact kd_drop_keep | exact kd_drop_add | exact kd_drop_no | exact kd_add_keep | exact kd_add_drop | exact kd_add_no | exact kd_no_keep | exact kd_no_drop | exact kd_no_add), h2, fun _ => (by first | exact kd_keep_drop | exact kd_keep_add | exact kd_keep_no | exact kd_drop_keep | exact kd_drop_add | exact kd_drop_no | exact kd_add_keep | exact kd_add_drop | exact kd_add_no | exact kd_no_keep | exact kd_no_drop | exact kd_no_add), True.intro⟩
    · rw [dr, if_neg h2]
      by_cases h3 : xs.length ≠ 0
      · rw [adP h3]
        exact ⟨(by first | exact kd_keep_drop | exact kd_keep_add | exact kd_keep_no | exact kd_drop_keep | exact kd_drop_add | exact kd_drop_no | exact kd_add_keep | exact kd_add_drop | exact kd_add_no | exact kd_no_keep | exact kd_no_drop | exact kd_no_add), by show 0 < xs.length; omega, fun z => absurd z (by first | exact kd_keep_drop | exact kd_keep_add | exact kd_keep_no | exact kd_drop_keep | exact kd_drop_add | exact kd_drop_no | exact kd_add_keep | exact kd_add_drop | exact kd_add_no | exact kd_no_keep | exact kd_no_drop | exact kd_no_add), True.intro⟩
      · rw [ad, if_neg h3]
        exact True.intro
/-- a block with a gap ends in a drop or an add -/
theorem blk_then {k d : Nat} {xs : List Int} {b : Str} {r : List Step} (g : 0 < d ∨ xs.length ≠ 0) (h : nfOk b (blk k d xs)) (h1 : nfOk "drop" r) (h2 : nfOk "add" r) : nfOk b (blk k d xs ++ r) := by
  unfold blk at h ⊢
  by_cases hk : 0 < k
  · rw [kpP hk] at h ⊢
    by_cases hd : 0 < d
    · rw [drP hd] at h ⊢
      by_cases hx : xs.length ≠ 0
      · rw [adP hx] at h ⊢
        exact ⟨h.1, h.2.1, h.2.2.1, h.2.2.2.1, h.2.2.2.2.1, h.2.2.2.2.2.1, h.2.2.2.2.2.2.1, h.2.2.2.2.2.2.2.1, h.2.2.2.2.2.2.2.2.1, h2⟩
      · rw [ad, if_neg hx] at h ⊢
        exact ⟨h.1, h.2.1, h.2.2.1, h.2.2.2.1, h.2.2.2.2.1, h.2.2.2.2.2.1, h1⟩
    · rw [dr, if_neg hd] at h ⊢
      rw [adP (g.resolve_left hd)] at h ⊢
      exact ⟨h.1, h.2.1, h.2.2.1, h.2.2.2.1, h.2.2.2.2.1, h.2.2.2.2.2.1, h2⟩
  · rw [kp, if_neg hk] at h ⊢
    by_cases hd : 0 < d
    · rw [drP hd] at h ⊢
      by_cases hx : xs.length ≠ 0
      · rw [adP hx] at h ⊢
        exact ⟨h.1, h.2.1, h.2.2.1, h.2.2.2.1, h.2.2.2.2.1, h.2.2.2.2.2.1, h2⟩
      · rw [ad, if_neg hx] at h ⊢
        exact ⟨h.1, h.2.1, h.2.2.1, h1⟩
    · rw [dr, if_neg hd] at h ⊢
      rw [adP (g.resolve_left hd)] at h ⊢
      exact ⟨h.1, h.2.1, h.2.2.1, h2⟩
theorem nfS_ok : ∀ (r : List Step) (k d : Nat) (xs : List Int) (b : Str), (∀ n, Step.keep n ∈ r → 0 < n) → (b = "" ∨ b = "drop" ∨ b = "add") → (k = 0 → b = "") → nfOk b (nfS k d xs r)
  | [], k, d, xs, b, _, hb, hk => blk_ok hb hk
  | .drop n :: r, k, d, xs, b, hp, hb, hk => nfS_ok r k (d + n) xs b (fun m h => hp m (List.mem_cons_of_mem _ h)) hb hk
  | .add ys :: r, k, d, xs, b, hp, hb, hk => nfS_ok r k d (xs ++ ys) b (fun m h => hp m (List.mem_cons_of_mem _ h)) hb hk
  | .keep n :: r, k, d, xs, b, hp, hb, hk => by
    have hp' : ∀ m, Step.keep m ∈ r → 0 < m := fun m h => hp m (List.mem_cons_of_mem _ h)
    have hn : 0 < n := hp n List.mem_cons_self
    rcases gap_or d xs with g | ⟨rfl, rfl⟩
    · rw [nfS_flush g]
      exact blk_then g (blk_ok hb hk) (nfS_ok r n 0 [] "drop" hp' (.inr (.inl rfl)) (fun z => by omega)) (nfS_ok r n 0 [] "add" hp' (.inr (.inr rfl)) (fun z => by omega))
    · rw [nfS_keep]
      exact nfS_ok r (k + n) 0 [] b hp' hb (fun z => hk (by omega))
theorem nf_ok {ss : List Step} (h : ∀ n, Step.keep n ∈ ss → 0 < n) : nfOk "" (nf ss) := nfS_ok ss 0 0 [] "" h (.inl rfl) fun _ => rfl
theorem nfS_same : ∀ (t : List Step), (∀ k, 0 < k → nfOk "keep" t → nfS k 0 [] t = .keep k :: t) ∧ (∀ k d, 0 < d → nfOk "drop" t → nfS k d [] t = kp k ++ .drop d :: t) ∧ (∀ k d xs, xs.length ≠ 0 → nfOk "add" t → nfS k d xs t = kp k ++ dr d ++ .add xs :: t)
  | [] => ⟨fun k h _ => by simp [nfS, blk, kpP h, dr0, ad0], fun k d h _ => by simp [nfS, blk, drP h, ad0], fun k d xs h _ => by simp [nfS, blk, adP h]⟩
  | .keep n :: r => by
    have ih := nfS_same r
    refine ⟨fun k h z => absurd rfl z.1, fun k d h z => ?_, fun k d xs h z => ?_⟩
    · rw [nfS_flush (.inl h), ih.1 n z.2.1 z.2.2.2]
      simp [blk, drP h, ad0]
    · rw [nfS_flush (.inr h), ih.1 n z.2.1 z.2.2.2]
      simp [blk, adP h]
  | .drop n :: r => by
    have ih := nfS_same r
    refine ⟨fun k h z => ?_, fun k d h z => absurd rfl z.1, fun k d xs h z => absurd rfl (z.2.2.1 rfl)⟩
    show nfS k (0 + n) [] r = _
    rw [Nat.zero_add, ih.2.1 k n z.2.1 z.2.2.2, kpP h]
    rfl
  | .add ys :: r => by
    have ih := nfS_same r
    have hy : ∀ z : 0 < (Step.add ys).sz, ys.length ≠ 0 := fun z => by
      have : 0 < ys.length := z
      omega
    refine ⟨fun k h z => ?_, fun k d h z => ?_, fun k d xs h z => absurd rfl z.1⟩
    · show nfS k 0 ([] ++ ys) r = _
      rw [List.nil_append, ih.2.2 k 0 ys (hy z.2.1) z.2.2.2, kpP h, dr0]
      rfl
    · show nfS k d ([] ++ ys) r = _
      rw [List.nil_append, ih.2.2 k d ys (hy z.2.1) z.2.2.2, drP h]
      simp
theorem nf_same {t : List Step} (h : nfOk "" t) : nf t = t := by
  cases t with
  | nil => rfl
  | cons s r =>
    have ih := nfS_same r
    cases s with
    | keep n =>
      show nfS 0 0 [] (.keep n :: r) = _
      rw [nfS_keep, Nat.zero_add]
      exact ih.1 n h.2.1 h.2.2.2
    | drop n =>
      show nfS 0 (0 + n) [] r = _
      rw [Nat.zero_add]
      exact ih.2.1 0 n h.2.1 h.2.2.2
    | add ys =>
      show nfS 0 0 ([] ++ ys) r = _
      rw [List.nil_append]
      exact ih.2.2 0 0 ys (by have : 0 < ys.length := h.2.1; omega) h.2.2.2
theorem run_blk (o : List Int) (k d : Nat) (xs : List Int) (r : List Step) : run o (blk k d xs ++ r) = o.take k ++ xs ++ run (o.drop (k + d)) r := by
  have e1 : ∀ (o : List Int) (r : List Step), run o (kp k ++ r) = o.take k ++ run (o.drop k) r := fun o r => by
    by_cases h : 0 < k
    · rw [kpP h]
      rfl
    · rw [kp, if_neg h, show k = 0 by omega]
      rfl
  have e2 : ∀ (o : List Int) (r : List Step), run o (dr d ++ r) = run (o.drop d) r := fun o r => by
    by_cases h : 0 < d
    · rw [drP h]
      rfl
    · rw [dr, if_neg h, show d = 0 by omega]
      rfl
  have e3 : ∀ (o : List Int) (r : List Step), run o (ad xs ++ r) = xs ++ run o r := fun o r => by
    by_cases h : xs.length ≠ 0
    · rw [adP h]
      rfl
    · rw [ad, if_neg h, List.eq_nil_of_length_eq_zero (show xs.length = 0 by omega)]
      rfl
  unfold blk
  rw [List.append_assoc, List.append_assoc, e1, e2, e3, List.drop_drop, List.append_assoc]
theorem run_nfS : ∀ (r : List Step) (o : List Int) (k d : Nat) (xs : List Int), run o (nfS k d xs r) = o.take k ++ xs ++ run (o.drop (k + d)) r
  | [], o, k, d, xs => by
    have := run_blk o k d xs []
    rw [List.append_nil] at this
    exact this
  | .drop n :: r, o, k, d, xs => by
    show run o (nfS k (d + n) xs r) = _
    rw [run_nfS r]
    show _ = o.take k ++ xs ++ ([] ++ run ((o.drop (k + d)).drop n) r)
    rw [List.drop_drop, Nat.add_assoc]
    rfl
  | .add ys :: r, o, k, d, xs => by
    show run o (nfS k d (xs ++ ys) r) = _
    rw [run_nfS r]
    show _ = o.take k ++ xs ++ (ys ++ run (o.drop (k + d)) r)
    simp only [List.append_assoc]
  | .keep n :: r, o, k, d, xs => by
    show _ = o.take k ++ xs ++ ((o.drop (k + d)).take n ++ run ((o.drop (k + d)).drop n) r)
    rcases gap_or d xs with g | ⟨rfl, rfl⟩
    · rw [nfS_flush g, run_blk, run_nfS r]
      simp
    · rw [nfS_keep, run_nfS r, Nat.add_zero, Nat.add_zero, List.drop_drop, List.take_add]
      simp
theorem run_nf (o : List Int) (ss : List Step) : run o (nf ss) = run o ss := by
  rw [nf, run_nfS]
  rfl
theorem sum_blk (f : Step → Nat) (F : List Step → Nat) (h0 : F [] = 0) (h1 : ∀ s r, F (s :: r) = f s + F r) (k d : Nat) (xs : List Int) (hk : f (.keep 0) = 0) (hd : f (.drop 0) = 0) (hx : f (.add []) = 0) (r : List Step) :
    F (blk k d xs ++ r) = f (.keep k) + f (.drop d) + f (.add xs) + F r := by
  have e1 : ∀ r, F (kp k ++ r) = f (.keep k) + F r := fun r => by
    by_cases h : 0 < k
    · rw [kpP h]
      exact h1 _ _
    · rw [kp, if_neg h, show k = 0 by omega, hk, Nat.zero_add]
      rfl
  have e2 : ∀ r, F (dr d ++ r) = f (.drop d) + F r := fun r => by
    by_cases h : 0 < d
    · rw [drP h]
      exact h1 _ _
    · rw [dr, if_neg h, show d = 0 by omega, hd, Nat.zero_add]
      rfl
  have e3 : ∀ r, F (ad xs ++ r) = f (.add xs) + F r := fun r => by
    by_cases h : xs.length ≠ 0
    · rw [adP h]
      exact h1 _ _
    · rw [ad, if_neg h, List.eq_nil_of_length_eq_zero (by omega : xs.length = 0), hx, Nat.zero_add]
      rfl
  unfold blk
  rw [List.append_assoc, List.append_assoc, e1, e2, e3]
  omega
/-- what is counted step by step stays in the normal form -/
theorem sum_nfS (f : Step → Nat) (F : List Step → Nat) (h0 : F [] = 0) (h1 : ∀ s r, F (s :: r) = f s + F r) (hk : ∀ a b, f (.keep (a + b)) = f (.keep a) + f (.keep b)) (hd : ∀ a b, f (.drop (a + b)) = f (.drop a) + f (.drop b))
    (hx : ∀ a b, f (.add (a ++ b)) = f (.add a) + f (.add b)) : ∀ (r : List Step) (k d : Nat) (xs : List Int), F (nfS k d xs r) = f (.keep k) + f (.drop d) + f (.add xs) + F r := by
  have k0 : f (.keep 0) = 0 := by have := hk 0 0; simp at this; omega
  have d0 : f (.drop 0) = 0 := by have := hd 0 0; simp at this; omega
  have x0 : f (.add []) = 0 := by have := hx [] []; simp at this; omega
  intro r
  induction r with
  | nil =>
    intro k d xs
    have := sum_blk f F h0 h1 k d xs k0 d0 x0 []
    rw [List.append_nil] at this
    exact this
  | cons s r ih =>
    intro k d xs
    rw [h1]
    cases s with
    | drop n =>
      show F (nfS k (d + n) xs r) = _
      rw [ih, hd]
      omega
    | add ys =>
      show F (nfS k d (xs ++ ys) r) = _
      rw [ih, hx]
      omega
    | keep n =>
      rcases gap_or d xs with g | ⟨rfl, rfl⟩
      · rw [nfS_flush g, sum_blk f F h0 h1 k d xs k0 d0 x0, ih, d0, x0]
        omega
      · rw [nfS_keep, ih, hk]
        omega
theorem tot_nf (ss : List Step) : tot (nf ss) = tot ss := by
  have := sum_nfS Step.sz tot rfl (fun _ _ => rfl) (fun _ _ => rfl) (fun _ _ => rfl) (fun a b => by simp [Step.sz]) ss 0 0 []
  simp [Step.sz] at this
  exact this
theorem taken_nf (ss : List Step) : taken (nf ss) = taken ss := by
  have := sum_nfS Step.tk taken rfl (fun _ _ => rfl) (fun _ _ => rfl) (fun _ _ => rfl) (fun a b => rfl) ss 0 0 []
  simp [Step.tk] at this
  exact this
theorem blk_len (k d : Nat) (xs : List Int) : (blk k d xs).length ≤ 3 := by
  unfold blk kp dr ad
  split <;> split <;> split <;> simp
theorem nfS_len : ∀ (r : List Step) (k d : Nat) (xs : List Int), (nfS k d xs r).length ≤ 3 * (r.length + 1)
  | [], k, d, xs => blk_len k d xs
  | .drop n :: r, k, d, xs => by
    have := nfS_len r k (d + n) xs
    show (nfS k (d + n) xs r).length ≤ 3 * (r.length + 1 + 1)
    omega
  | .add ys :: r, k, d, xs => by
    have := nfS_len r k d (xs ++ ys)
    show (nfS k d (xs ++ ys) r).length ≤ 3 * (r.length + 1 + 1)
    omega
  | .keep n :: r, k, d, xs => by
    show (nfS k d xs (.keep n :: r)).length ≤ 3 * (r.length + 1 + 1)
    rcases gap_or d xs with g | ⟨rfl, rfl⟩
    · rw [nfS_flush g, List.length_append]
      have h1 := blk_len k d xs
      have h2 := nfS_len r n 0 []
      omega
    · rw [nfS_keep]
      have h2 := nfS_len r (k + n) 0 []
      omega

-- @@CUT
/-! ### edit scripts as data -/
theorem s_kd : (Str.ofString "keep" = Str.ofString "drop") = False := eq_false kd_keep_drop
theorem s_ka : (Str.ofString "keep" = Str.ofString "add") = False := eq_false kd_keep_add
theorem s_dk : (Str.ofString "drop" = Str.ofString "keep") = False := eq_false kd_drop_keep
theorem s_da : (Str.ofString "drop" = Str.ofString "add") = False := eq_false kd_drop_add
theorem s_ak : (Str.ofString "add" = Str.ofString "keep") = False := eq_false kd_add_keep
theorem s_ad : (Str.ofString "add" = Str.ofString "drop") = False := eq_false kd_add_drop
theorem s_kn : (Str.ofString "keep" = Str.ofString "") = False := eq_false kd_keep_no
theorem s_dn : (Str.ofString "drop" = Str.ofString "") = False := eq_false kd_drop_no
theorem s_an : (Str.ofString "add" = Str.ofString "") = False := eq_false kd_add_no
def pSteps : PV.PSp := fun as _ Q => match as with
  | [.v _ (.int k), .v _ (.int d), .v _ (.list es)] => PV.isInts es ∧ 0 ≤ k ∧ 0 ≤ d ∧ Q (.v .dat (.list ((blk k.toNat d.toNat (PV.intsOf es)).map stepD)))
  | _ => False
theorem ok__steps (T : Txt K mg) : Ok P w K mg base CX0 1 "_steps" ["kept", "dropped", "added"] (PV.spP K [] (PV.sg 3 pSteps)) := by
  refine PV.pv_def T.d__steps sc__steps (fun as PX PQ h => h.1) fun f cdv A outer s H E hr => ?_
  have nd := sc__steps.nd
  refine ⟨_, _, (pss_cons (ps_set (i := 3) nd rfl (Or.inl rfl) (pe_lst pa_nil))
      (pss_cons (ps_if (pt_cmpR op_gt (pv 0) pe_int (nomark _))
        (pss_one (ps_expr (pe_bm PySem.F.plainAttrs_list PySem.F.slot_list_append PySem.F.type_list_append mt_append (pv 3) (pa_cons (pe_tup (pa_cons pe_str (pa_cons (pv 0) pa_nil))) pa_nil)))) pss_nil)
      (pss_cons (ps_if (pt_cmpR op_gt (pv 1) pe_int (nomark _))
        (pss_one (ps_expr (pe_bm PySem.F.plainAttrs_list PySem.F.slot_list_append PySem.F.type_list_append mt_append (pv 3) (pa_cons (pe_tup (pa_cons pe_str (pa_cons (pv 1) pa_nil))) pa_nil)))) pss_nil)
      (pss_cons (ps_if (pt_truth (pv 2) (by intro _; rfl))
        (pss_one (ps_expr (pe_bm PySem.F.plainAttrs_list PySem.F.slot_list_append PySem.F.type_list_append mt_append (pv 3) (pa_cons (pe_tup (pa_cons pe_str (pa_cons (pe_callTy call_tuple_of (by rfl) T.n_tuple (by decide +kernel) (pa_cons (pv 2) pa_nil)) pa_nil))) pa_nil)))) pss_nil)
      (pss_one (ps_ret (pv 3))))))),
    open PV in (ls_seq (ls_asg (le_lst la_nil) (lg_name (b := true)))
      (ls_seq (ls_if (lt_test (le_op lr_I0 le_var le_c))
      (ls_bm lm_append (la_cons (le_tup (la_cons le_c (la_cons le_var la_nil))) la_nil))
      ls_next)
      (ls_seq (ls_if (lt_test (le_op lr_I0 le_var le_c))
      (ls_bm lm_append (la_cons (le_tup (la_cons le_c (la_cons le_var la_nil))) la_nil))
      ls_next)
      (ls_seq (ls_if (lt_truth le_var)
      (ls_bm lm_append (la_cons (le_tup (la_cons le_c (la_cons (le_cb lc_tuple (la_cons le_var la_nil)) la_nil))) la_nil))
      ls_next)
      (ls_retD le_var))))), fun as PX PQ h => ?_⟩
  replace h := h.2
  unfold pSteps at h
  split at h
  · next t k t2 d t3 es =>
    obtain ⟨hi, h1, h2, kQ⟩ := h
    unfold PV.isInts at hi
    generalize PV.intsOf es = xs at *
    subst hi
    obtain ⟨k, rfl⟩ : ∃ n : Nat, k = (n : Int) := ⟨k.toNat, by omega⟩
    obtain ⟨d, rfl⟩ : ∃ n : Nat, d = (n : Int) := ⟨d.toNat, by omega⟩
    rw [Int.toNat_natCast, Int.toNat_natCast] at kQ
    have em : (xs.map PyData.int).isEmpty = !decide (xs.length ≠ 0) := by cases xs <;> simp
    simp only [PV.pDivMod, PV.ownsOf_dic, PV.pDNew, PV.pDPut, PV.pDGet2, PV.pDGet, PV.pDIn, PV.pLenD, PV.keyD, PV.pSlScr, PV.pZipT, PV.pRngC, PV.pRngV, PV.pSt1, PV.pM0, PV.pZipS, PV.pM1, PV.pJoin, PV.pFmt, PV.pJoined, PV.pJs, PV.pBMV, PV.pCount, PV.pIndex, PV.pSetIx2, PV.pRetT, PV.pLcF, PV.mapL_inj, PV.pVar, PV.pC, PV.pOp, PV.pUn, PV.pII, PV.pII0, PV.pNeg, PV.pSS, PV.pSS0, PV.eqF_int, PV.eqF_str, PV.eqF_bool, PV.eqF_ni, PV.eqF_in, PV.eqF_nn, PV.eqF_si, PV.eqF_is, PV.eqF_sn, PV.eqF_ns, PV.pEq, PV.pEqD, PV.isN, PV.pIsN, PV.Tg.d, PV.Tg.it, PV.Tg.itD, PV.Tg.ok, PV.pCat, PV.pRep, PV.pCatT, PV.pIn, PV.pNil, PV.pCons, PV.Tg.items, PV.pStar, PV.allD, PV.allS, PV.pTup, PV.pLst, PV.pNoPart, PV.pPart, PV.pSlL, PV.pSlT, PV.pCB, PV.pLen, PV.pLenS, PV.pI1, PV.pI10, PV.pI2, PV.pInt1, PV.pBool1, PV.pS1, PV.pListOf, PV.pTupOf, PV.tyD, PV.pIsi, PV.bD, PV.pAndV, PV.pOrV, PV.pNotV, PV.pIfE, PV.pT, PV.pAnd, PV.pOr, PV.pNot, PV.truD, PV.pTru, PV.pNotT, PV.pChain, PV.pThree, PV.Rs.arg, PV.lend, PV.pCall, PV.pCall0, PV.pIt, PV.pItT, PV.pRg1, PV.pRg2, PV.pRg3, PV.pEnum, PV.pZip, PV.pRev, PV.pStr, PV.setR, PV.pName, PV.pTgt, PV.pTgts, PV.pTg, PV.pNext, PV.pBreak, PV.pCont, PV.pSeq, PV.pShr, PV.pShrI, PV.shI, PV.pFgt, PV.fgt, PV.pAsg, PV.pExpr, PV.Rs.ret, PV.pRet, PV.pRetN, PV.pIf, PV.pFld, PV.pAug, PV.pPar, PV.pBM, PV.pBM0, PV.pAppend, PV.pExtend, PV.pExtT, PV.pClear, PV.pReverse, PV.pSetIx, PV.pFor, PV.wipeG, PV.pLc, PV.gG, PV.pGen, PV.pYes, PV.pSum, PV.pRaise, PV.pRaise1, PV.slA, PV.startG, PV.ends, PV.pRevL, PV.pSlS, PV.pSign, PV.pProp, PV.pMake, PV.pMake0, PV.pTry, PV.pRetD, PV.Rs.asD, PV.sg, PV.Sl.r, PV.dV, PV.flatD, PV.owns, PV.ownsOf_no, PV.ownsOf_dat, PV.ownsOf_obj, PV.ownsOf_own, PV.ownsOf_tab, PV.shr, PV.Sl.sh, PV.intsOf_map, PV.intsOf_app, PV.intsOf_nil, PV.intsOf_int, PV.isInts_map, PV.isInts_nil, PV.isInts_int, PV.isInts_mapL, PV.scr_key, PV.isiQ_s, PV.kit_int_int, PV.kit_int_bool, PV.kit_int_str, PV.kit_int_list, PV.kit_int_tuple, PV.kit_bool_int, PV.kit_bool_bool, PV.kit_bool_str, PV.kit_bool_list, PV.kit_bool_tuple, PV.kit_str_int, PV.kit_str_bool, PV.kit_str_str, PV.kit_str_list, PV.kit_str_tuple, PV.kit_list_int, PV.kit_list_bool, PV.kit_list_str, PV.kit_list_list, PV.kit_list_tuple, PV.kit_tuple_int, PV.kit_tuple_bool, PV.kit_tuple_str, PV.kit_tuple_list, PV.kit_tuple_tuple, PV.kit_NoneType_int, PV.kit_NoneType_bool, PV.kit_NoneType_str, PV.kit_NoneType_list, PV.kit_NoneType_tuple, PV.cutD_map, PV.allD_map, PV.allD_mapA, PV.allS_map, PV.allS_mapA, List.getElem?_cons_zero, List.getElem?_cons_succ, List.getElem?_nil, List.set_cons_zero, List.set_cons_succ, List.map_cons, List.map_nil, List.cons_append, List.nil_append, List.append_nil, List.length_cons, List.length_nil, List.length_map, List.length_append, List.length_replicate, PV.flat_rep, Nat.mul_one, Nat.one_mul, PV.rep_none, List.replicate_zero, List.all_cons, List.all_nil, cond_true, cond_false, Bool.and_true, Bool.true_and, Bool.and_false, Bool.false_and, Bool.not_true, Bool.not_false, Bool.not_not, if_true, if_false, ite_true, ite_false, true_and, and_true, true_implies, false_implies, reduceCtorEq, Nat.reduceAdd, Nat.reduceSub, Nat.reduceLT, Nat.reduceLeDiff, Bool.false_eq_true, decide_eq_true_eq, decide_eq_false_iff_not, Bool.not_eq_true, Bool.not_eq_false, Bool.not_eq_true', Bool.not_eq_false', Bool.true_eq_false, Option.map_some, Option.map_none, decide_true, decide_false, not_true_eq_false, not_false_eq_true, implies_true, forall_const, eq_self, Nat.reduceEqDiff, beq_self_eq_true, ne_eq, Int.reduceEq, Int.reduceNe, Int.reduceLT, Int.reduceLE, Int.reduceGT, Int.reduceGE, Int.reduceToNat, Int.reduceAdd, Int.reduceNeg, Nat.reduceLT, Nat.reduceLeDiff, Nat.reduceAdd, Nat.reduceMul, false_and, and_false, and_self, true_and, and_true, false_implies, PV.at0, PV.at1, PV.at2, PV.at3, PV.at4, PV.at5, Option.some.injEq, exists_eq_left', exists_eq_left, em]
    unfold blk at kQ
    refine ⟨by decide, fun h1 => ⟨by decide, by decide, ?_⟩, fun h1 => ?_⟩
    · rw [kpP (by omega)] at kQ
      refine ⟨fun h2 => ⟨by decide, by decide, ?_⟩, fun h2 => ?_⟩
      · rw [drP (by omega)] at kQ
        refine ⟨fun h3 => ⟨by decide, by decide, ?_⟩, fun h3 => ?_⟩
        · rw [adP h3] at kQ
          exact kQ
        · rw [ad, if_neg h3] at kQ
          exact kQ
      · rw [dr, if_neg (by omega)] at kQ
        refine ⟨fun h3 => ⟨by decide, by decide, ?_⟩, fun h3 => ?_⟩
        · rw [adP h3] at kQ
          exact kQ
        · rw [ad, if_neg h3] at kQ
          exact kQ
    · rw [kp, if_neg (by omega)] at kQ
      refine ⟨fun h2 => ⟨by decide, by decide, ?_⟩, fun h2 => ?_⟩
      · rw [drP (by omega)] at kQ
        refine ⟨fun h3 => ⟨by decide, by decide, ?_⟩, fun h3 => ?_⟩
        · rw [adP h3] at kQ
          exact kQ
        · rw [ad, if_neg h3] at kQ
          exact kQ
      · rw [dr, if_neg (by omega)] at kQ
        refine ⟨fun h3 => ⟨by decide, by decide, ?_⟩, fun h3 => ?_⟩
        · rw [adP h3] at kQ
          exact kQ
        · rw [ad, if_neg h3] at kQ
          exact kQ
  · exact h.elim
def pNorm : PV.PSp := fun as _ Q => match as with
  | [.v _ (.list ds)] => ∃ ss : List Step, ds = ss.map stepD ∧ ss.length ≤ 10000 ∧ tot ss ≤ 10000 ∧ Q (.v .dat (.list ((nf ss).map stepD)))
  | _ => False
theorem ok_normalized (T : Txt K mg) : Ok P w K mg base CX0 2 "normalized" ["script"] (PV.spP K [] (PV.sg 1 pNorm)) := by
  have G__steps := ok__steps (P := P) (w := w) (base := base) T
  refine PV.pv_def T.d_normalized sc_normalized (fun as PX PQ h => h.1) fun f cdv A outer s H E hr => ?_
  have nd := sc_normalized.nd
  refine ⟨_, _, (pss_cons (ps_set (i := 1) nd rfl (Or.inl rfl) (pe_lst pa_nil))
      (pss_cons (ps_set (i := 2) nd rfl (Or.inl rfl) pe_int)
      (pss_cons (ps_set (i := 3) nd rfl (Or.inl rfl) pe_int)
      (pss_cons (ps_set (i := 4) nd rfl (Or.inl rfl) (pe_lst pa_nil))
      (pss_cons (ps_for PassesOwn.never rfl (pi_list (pv 0)) (pg_tup rfl (pgs_cons (pg_name (i := 5) nd rfl (Or.inl rfl)) (pgs_cons (pg_name (i := 6) nd rfl (Or.inl rfl)) pgs_nil)))
        (pss_one (ps_if (pt_cmpR op_eq (pv 5) pe_str (nomark _))
          (pss_one (ps_aug (i := 3) nd rfl (Or.inl rfl) (pv 6) ip_add))
          (pss_one (ps_if (pt_cmpR op_eq (pv 5) pe_str (nomark _))
            (pss_one (ps_expr (pe_bm PySem.F.plainAttrs_list PySem.F.slot_list_extend PySem.F.type_list_extend ET.mt_extendT (pv 4) (pa_cons (pv 6) pa_nil))))
            (pss_cons (ps_if (PW.pt (pw_or (pt_cmpR op_gt (pv 3) pe_int (nomark _)) (pw_or1 (pt_truth (pv 4) (by intro _; rfl)))))
              (pss_cons (ps_expr (pe_bm PySem.F.plainAttrs_list PySem.F.slot_list_extend PySem.F.type_list_extend mt_extend (pv 1) (pa_cons (pe_callO G__steps (hr.mono (by decide)) pass0 (pa_cons (pv 2) (pa_cons (pv 3) (pa_cons (pv 4) pa_nil)))) pa_nil)))
              (pss_cons (ps_set (i := 2) nd rfl (Or.inl rfl) pe_int)
              (pss_cons (ps_set (i := 3) nd rfl (Or.inl rfl) pe_int)
              (pss_one (ps_set (i := 4) nd rfl (Or.inl rfl) (pe_lst pa_nil)))))) pss_nil)
            (pss_one (ps_aug (i := 2) nd rfl (Or.inl rfl) (pv 6) ip_add))))))))
      (pss_one (ps_ret (pe_op op_cat (pv 1) (pe_callO G__steps (hr.mono (by decide)) pass0 (pa_cons (pv 2) (pa_cons (pv 3) (pa_cons (pv 4) pa_nil)))))))))))),
    open PV in (ls_seq (ls_asg (le_lst la_nil) (lg_name (b := true)))
      (ls_seq (ls_asg le_c (lg_name (b := false)))
      (ls_seq (ls_asg le_c (lg_name (b := false)))
      (ls_seq (ls_asg (le_lst la_nil) (lg_name (b := true)))
      (ls_seq (ls_for (li_list le_var) (lg_tgt (.tup (.cons (.name 5) (.cons (.name 6) .nil))))
      (ls_if (lt_test (le_op lr_eq le_var le_c))
      (ls_aug le_var)
      (ls_if (lt_test (le_op lr_eq le_var le_c))
      (ls_bm lm_extT (la_cons le_var la_nil))
      (ls_seq (ls_if (lt_or (lt_test (le_op lr_I0 le_var le_c)) (lt_truth le_var))
      (ls_seq (ls_shrI 4 (ls_bm lm_extend (la_cons (le_call0 spok (la_cons le_var (la_cons le_var (la_cons le_var la_nil)))) la_nil)))
      (ls_seq (ls_asg le_c (lg_name (b := false)))
      (ls_seq (ls_asg le_c (lg_name (b := false)))
      (ls_asg (le_lst la_nil) (lg_name (b := true))))))
      ls_next)
      (ls_aug le_var)))))
      (ls_shr (ls_retD (le_op lr_cat le_var (le_call0 spok (la_cons le_var (la_cons le_var (la_cons le_var la_nil)))))))))))), fun as PX PQ h => ?_⟩
  replace h := h.2
  unfold pNorm at h
  split at h
  · next t ds =>
    obtain ⟨ss, rfl, hl, ht, kQ⟩ := h
    simp only [PV.pDivMod, PV.ownsOf_dic, PV.pDNew, PV.pDPut, PV.pDGet2, PV.pDGet, PV.pDIn, PV.pLenD, PV.keyD, PV.pSlScr, PV.pZipT, PV.pRngC, PV.pRngV, PV.pSt1, PV.pM0, PV.pZipS, PV.pM1, PV.pJoin, PV.pFmt, PV.pJoined, PV.pJs, PV.pBMV, PV.pCount, PV.pIndex, PV.pSetIx2, PV.pRetT, PV.pLcF, PV.mapL_inj, PV.pVar, PV.pC, PV.pOp, PV.pUn, PV.pII, PV.pII0, PV.pNeg, PV.pSS, PV.pSS0, PV.eqF_int, PV.eqF_str, PV.eqF_bool, PV.eqF_ni, PV.eqF_in, PV.eqF_nn, PV.eqF_si, PV.eqF_is, PV.eqF_sn, PV.eqF_ns, PV.pEq, PV.pEqD, PV.isN, PV.pIsN, PV.Tg.d, PV.Tg.it, PV.Tg.itD, PV.Tg.ok, PV.pCat, PV.pRep, PV.pCatT, PV.pIn, PV.pNil, PV.pCons, PV.Tg.items, PV.pStar, PV.allD, PV.allS, PV.pTup, PV.pLst, PV.pNoPart, PV.pPart, PV.pSlL, PV.pSlT, PV.pCB, PV.pLen, PV.pLenS, PV.pI1, PV.pI10, PV.pI2, PV.pInt1, PV.pBool1, PV.pS1, PV.pListOf, PV.pTupOf, PV.tyD, PV.pIsi, PV.bD, PV.pAndV, PV.pOrV, PV.pNotV, PV.pIfE, PV.pT, PV.pAnd, PV.pOr, PV.pNot, PV.truD, PV.pTru, PV.pNotT, PV.pChain, PV.pThree, PV.Rs.arg, PV.lend, PV.pCall, PV.pCall0, PV.pIt, PV.pItT, PV.pRg1, PV.pRg2, PV.pRg3, PV.pEnum, PV.pZip, PV.pRev, PV.pStr, PV.setR, PV.pName, PV.pTgt, PV.pTgts, PV.pTg, PV.pNext, PV.pBreak, PV.pCont, PV.pSeq, PV.pShr, PV.pShrI, PV.shI, PV.pFgt, PV.fgt, PV.pAsg, PV.pExpr, PV.Rs.ret, PV.pRet, PV.pRetN, PV.pIf, PV.pFld, PV.pAug, PV.pPar, PV.pBM, PV.pBM0, PV.pAppend, PV.pExtend, PV.pExtT, PV.pClear, PV.pReverse, PV.pSetIx, PV.pFor, PV.wipeG, PV.pLc, PV.gG, PV.pGen, PV.pYes, PV.pSum, PV.pRaise, PV.pRaise1, PV.slA, PV.startG, PV.ends, PV.pRevL, PV.pSlS, PV.pSign, PV.pProp, PV.pMake, PV.pMake0, PV.pTry, PV.pRetD, PV.Rs.asD, PV.sg, PV.Sl.r, PV.dV, PV.flatD, PV.owns, PV.ownsOf_no, PV.ownsOf_dat, PV.ownsOf_obj, PV.ownsOf_own, PV.ownsOf_tab, PV.shr, PV.Sl.sh, PV.intsOf_map, PV.intsOf_app, PV.intsOf_nil, PV.intsOf_int, PV.isInts_map, PV.isInts_nil, PV.isInts_int, PV.isInts_mapL, PV.scr_key, PV.isiQ_s, PV.kit_int_int, PV.kit_int_bool, PV.kit_int_str, PV.kit_int_list, PV.kit_int_tuple, PV.kit_bool_int, PV.kit_bool_bool, PV.kit_bool_str, PV.kit_bool_list, PV.kit_bool_tuple, PV.kit_str_int, PV.kit_str_bool, PV.kit_str_str, PV.kit_str_list, PV.kit_str_tuple, PV.kit_list_int, PV.kit_list_bool, PV.kit_list_str, PV.kit_list_list, PV.kit_list_tuple, PV.kit_tuple_int, PV.kit_tuple_bool, PV.kit_tuple_str, PV.kit_tuple_list, PV.kit_tuple_tuple, PV.kit_NoneType_int, PV.kit_NoneType_bool, PV.kit_NoneType_str, PV.kit_NoneType_list, PV.kit_NoneType_tuple, PV.cutD_map, PV.allD_map, PV.allD_mapA, PV.allS_map, PV.allS_mapA, List.getElem?_cons_zero, List.getElem?_cons_succ, List.getElem?_nil, List.set_cons_zero, List.set_cons_succ, List.map_cons, List.map_nil, List.cons_append, List.nil_append, List.append_nil, List.length_cons, List.length_nil, List.length_map, List.length_append, List.length_replicate, PV.flat_rep, Nat.mul_one, Nat.one_mul, PV.rep_none, List.replicate_zero, List.all_cons, List.all_nil, cond_true, cond_false, Bool.and_true, Bool.true_and, Bool.and_false, Bool.false_and, Bool.not_true, Bool.not_false, Bool.not_not, if_true, if_false, ite_true, ite_false, true_and, and_true, true_implies, false_implies, reduceCtorEq, Nat.reduceAdd, Nat.reduceSub, Nat.reduceLT, Nat.reduceLeDiff, Bool.false_eq_true, decide_eq_true_eq, decide_eq_false_iff_not, Bool.not_eq_true, Bool.not_eq_false, Bool.not_eq_true', Bool.not_eq_false', Bool.true_eq_false, Option.map_some, Option.map_none, decide_true, decide_false, not_true_eq_false, not_false_eq_true, implies_true, forall_const, eq_self, Nat.reduceEqDiff, beq_self_eq_true, ne_eq, Int.reduceEq, Int.reduceNe, Int.reduceLT, Int.reduceLE, Int.reduceGT, Int.reduceGE, Int.reduceToNat, Int.reduceAdd, Int.reduceNeg, Nat.reduceLT, Nat.reduceLeDiff, Nat.reduceAdd, Nat.reduceMul, false_and, and_false, and_self, true_and, and_true, false_implies, PV.at0, PV.at1, PV.at2, PV.at3, PV.at4, PV.at5, Option.some.injEq, exists_eq_left', exists_eq_left]
    refine ⟨by decide, fun p => ⟨by decide, fun q0 => PV.loop_inv ss (fun pre g => ∃ (out : List Step) (k d : Nat) (xs : List Int) (q : Addr) (o5 o6 : Option PV.Sl), (out.length ≤ 3 * pre.length ∧ xs.length ≤ tot pre ∧ ∀ post, ss = pre ++ post → nf ss = out ++ nfS k d xs post) ∧ (PV.ownsOf o5 = [] ∧ PV.ownsOf o6 = []) ∧
      g = [some (.dat (.list (ss.map stepD))), some (.own p (out.map stepD)), some (.dat (.int (k : Int))), some (.dat (.int (d : Int))), some (.own q (xs.map .int)), o5, o6]) ⟨[], 0, 0, [], q0, none, none, ⟨Nat.zero_le _, Nat.zero_le _, fun post e => by rw [e]; rfl⟩, ⟨rfl, rfl⟩, rfl⟩ ?_ ?_⟩⟩
    · rintro pre a post _ e ⟨out, k, d, xs, q, o5, o6, ⟨h1, h2, h3⟩, ⟨ho5, ho6⟩, rfl⟩ N hN
      have hpl : pre.length + 1 ≤ ss.length := by
        rw [e]
        simp
        try omega
      have htt : tot pre + a.sz ≤ tot ss := by
        rw [e, show pre ++ a :: post = (pre ++ [a]) ++ post by simp, tot_app, tot_snoc]
        omega
      have hpr : (pre ++ [a]).length = pre.length + 1 := by simp
      cases a with
      | drop n =>
        simp only [PV.pDivMod, PV.ownsOf_dic, PV.pDNew, PV.pDPut, PV.pDGet2, PV.pDGet, PV.pDIn, PV.pLenD, PV.keyD, PV.pSlScr, PV.pZipT, PV.pRngC, PV.pRngV, PV.pSt1, PV.pM0, PV.pZipS, PV.pM1, PV.pJoin, PV.pFmt, PV.pJoined, PV.pJs, PV.pBMV, PV.pCount, PV.pIndex, PV.pSetIx2, PV.pRetT, PV.pLcF, PV.mapL_inj, PV.pVar, PV.pC, PV.pOp, PV.pUn, PV.pII, PV.pII0, PV.pNeg, PV.pSS, PV.pSS0, PV.eqF_int, PV.eqF_str, PV.eqF_bool, PV.eqF_ni, PV.eqF_in, PV.eqF_nn, PV.eqF_si, PV.eqF_is, PV.eqF_sn, PV.eqF_ns, PV.pEq, PV.pEqD, PV.isN, PV.pIsN, PV.Tg.d, PV.Tg.it, PV.Tg.itD, PV.Tg.ok, PV.pCat, PV.pRep, PV.pCatT, PV.pIn, PV.pNil, PV.pCons, PV.Tg.items, PV.pStar, PV.allD, PV.allS, PV.pTup, PV.pLst, PV.pNoPart, PV.pPart, PV.pSlL, PV.pSlT, PV.pCB, PV.pLen, PV.pLenS, PV.pI1, PV.pI10, PV.pI2, PV.pInt1, PV.pBool1, PV.pS1, PV.pListOf, PV.pTupOf, PV.tyD, PV.pIsi, PV.bD, PV.pAndV, PV.pOrV, PV.pNotV, PV.pIfE, PV.pT, PV.pAnd, PV.pOr, PV.pNot, PV.truD, PV.pTru, PV.pNotT, PV.pChain, PV.pThree, PV.Rs.arg, PV.lend, PV.pCall, PV.pCall0, PV.pIt, PV.pItT, PV.pRg1, PV.pRg2, PV.pRg3, PV.pEnum, PV.pZip, PV.pRev, PV.pStr, PV.setR, PV.pName, PV.pTgt, PV.pTgts, PV.pTg, PV.pNext, PV.pBreak, PV.pCont, PV.pSeq, PV.pShr, PV.pShrI, PV.shI, PV.pFgt, PV.fgt, PV.pAsg, PV.pExpr, PV.Rs.ret, PV.pRet, PV.pRetN, PV.pIf, PV.pFld, PV.pAug, PV.pPar, PV.pBM, PV.pBM0, PV.pAppend, PV.pExtend, PV.pExtT, PV.pClear, PV.pReverse, PV.pSetIx, PV.pFor, PV.wipeG, PV.pLc, PV.gG, PV.pGen, PV.pYes, PV.pSum, PV.pRaise, PV.pRaise1, PV.slA, PV.startG, PV.ends, PV.pRevL, PV.pSlS, PV.pSign, PV.pProp, PV.pMake, PV.pMake0, PV.pTry, PV.pRetD, PV.Rs.asD, PV.sg, PV.Sl.r, PV.dV, PV.flatD, PV.owns, PV.ownsOf_no, PV.ownsOf_dat, PV.ownsOf_obj, PV.ownsOf_own, PV.ownsOf_tab, PV.shr, PV.Sl.sh, PV.intsOf_map, PV.intsOf_app, PV.intsOf_nil, PV.intsOf_int, PV.isInts_map, PV.isInts_nil, PV.isInts_int, PV.isInts_mapL, PV.scr_key, PV.isiQ_s, PV.kit_int_int, PV.kit_int_bool, PV.kit_int_str, PV.kit_int_list, PV.kit_int_tuple, PV.kit_bool_int, PV.kit_bool_bool, PV.kit_bool_str, PV.kit_bool_list, PV.kit_bool_tuple, PV.kit_str_int, PV.kit_str_bool, PV.kit_str_str, PV.kit_str_list, PV.kit_str_tuple, PV.kit_list_int, PV.kit_list_bool, PV.kit_list_str, PV.kit_list_list, PV.kit_list_tuple, PV.kit_tuple_int, PV.kit_tuple_bool, PV.kit_tuple_str, PV.kit_tuple_list, PV.kit_tuple_tuple, PV.kit_NoneType_int, PV.kit_NoneType_bool, PV.kit_NoneType_str, PV.kit_NoneType_list, PV.kit_NoneType_tuple, PV.cutD_map, PV.allD_map, PV.allD_mapA, PV.allS_map, PV.allS_mapA, List.getElem?_cons_zero, List.getElem?_cons_succ, List.getElem?_nil, List.set_cons_zero, List.set_cons_succ, List.map_cons, List.map_nil, List.cons_append, List.nil_append, List.append_nil, List.length_cons, List.length_nil, List.length_map, List.length_append, List.length_replicate, PV.flat_rep, Nat.mul_one, Nat.one_mul, PV.rep_none, List.replicate_zero, List.all_cons, List.all_nil, cond_true, cond_false, Bool.and_true, Bool.true_and, Bool.and_false, Bool.false_and, Bool.not_true, Bool.not_false, Bool.not_not, if_true, if_false, ite_true, ite_false, true_and, and_true, true_implies, false_implies, reduceCtorEq, Nat.reduceAdd, Nat.reduceSub, Nat.reduceLT, Nat.reduceLeDiff, Bool.false_eq_true, decide_eq_true_eq, decide_eq_false_iff_not, Bool.not_eq_true, Bool.not_eq_false, Bool.not_eq_true', Bool.not_eq_false', Bool.true_eq_false, Option.map_some, Option.map_none, decide_true, decide_false, not_true_eq_false, not_false_eq_true, implies_true, forall_const, eq_self, Nat.reduceEqDiff, beq_self_eq_true, ne_eq, Int.reduceEq, Int.reduceNe, Int.reduceLT, Int.reduceLE, Int.reduceGT, Int.reduceGE, Int.reduceToNat, Int.reduceAdd, Int.reduceNeg, Nat.reduceLT, Nat.reduceLeDiff, Nat.reduceAdd, Nat.reduceMul, false_and, and_false, and_self, true_and, and_true, false_implies, PV.at0, PV.at1, PV.at2, PV.at3, PV.at4, PV.at5, Option.some.injEq, exists_eq_left', exists_eq_left, stepD]
        refine hN _ ⟨out, k, d + n, xs, q, _, _, ⟨by omega, by rw [tot_snoc]; omega, fun post e => ?_⟩, ⟨rfl, rfl⟩, by rw [Int.natCast_add]⟩
        rw [h3 (.drop n :: post) (e.trans (by simp))]
        rfl
      | add ys =>
        have hy : ys.length = (Step.add ys).sz := rfl
        simp only [PV.pDivMod, PV.ownsOf_dic, PV.pDNew, PV.pDPut, PV.pDGet2, PV.pDGet, PV.pDIn, PV.pLenD, PV.keyD, PV.pSlScr, PV.pZipT, PV.pRngC, PV.pRngV, PV.pSt1, PV.pM0, PV.pZipS, PV.pM1, PV.pJoin, PV.pFmt, PV.pJoined, PV.pJs, PV.pBMV, PV.pCount, PV.pIndex, PV.pSetIx2, PV.pRetT, PV.pLcF, PV.mapL_inj, PV.pVar, PV.pC, PV.pOp, PV.pUn, PV.pII, PV.pII0, PV.pNeg, PV.pSS, PV.pSS0, PV.eqF_int, PV.eqF_str, PV.eqF_bool, PV.eqF_ni, PV.eqF_in, PV.eqF_nn, PV.eqF_si, PV.eqF_is, PV.eqF_sn, PV.eqF_ns, PV.pEq, PV.pEqD, PV.isN, PV.pIsN, PV.Tg.d, PV.Tg.it, PV.Tg.itD, PV.Tg.ok, PV.pCat, PV.pRep, PV.pCatT, PV.pIn, PV.pNil, PV.pCons, PV.Tg.items, PV.pStar, PV.allD, PV.allS, PV.pTup, PV.pLst, PV.pNoPart, PV.pPart, PV.pSlL, PV.pSlT, PV.pCB, PV.pLen, PV.pLenS, PV.pI1, PV.pI10, PV.pI2, PV.pInt1, PV.pBool1, PV.pS1, PV.pListOf, PV.pTupOf, PV.tyD, PV.pIsi, PV.bD, PV.pAndV, PV.pOrV, PV.pNotV, PV.pIfE, PV.pT, PV.pAnd, PV.pOr, PV.pNot, PV.truD, PV.pTru, PV.pNotT, PV.pChain, PV.pThree, PV.Rs.arg, PV.lend, PV.pCall, PV.pCall0, PV.pIt, PV.pItT, PV.pRg1, PV.pRg2, PV.pRg3, PV.pEnum, PV.pZip, PV.pRev, PV.pStr, PV.setR, PV.pName, PV.pTgt, PV.pTgts, PV.pTg, PV.pNext, PV.pBreak, PV.pCont, PV.pSeq, PV.pShr, PV.pShrI, PV.shI, PV.pFgt, PV.fgt, PV.pAsg, PV.pExpr, PV.Rs.ret, PV.pRet, PV.pRetN, PV.pIf, PV.pFld, PV.pAug, PV.pPar, PV.pBM, PV.pBM0, PV.pAppend, PV.pExtend, PV.pExtT, PV.pClear, PV.pReverse, PV.pSetIx, PV.pFor, PV.wipeG, PV.pLc, PV.gG, PV.pGen, PV.pYes, PV.pSum, PV.pRaise, PV.pRaise1, PV.slA, PV.startG, PV.ends, PV.pRevL, PV.pSlS, PV.pSign, PV.pProp, PV.pMake, PV.pMake0, PV.pTry, PV.pRetD, PV.Rs.asD, PV.sg, PV.Sl.r, PV.dV, PV.flatD, PV.owns, PV.ownsOf_no, PV.ownsOf_dat, PV.ownsOf_obj, PV.ownsOf_own, PV.ownsOf_tab, PV.shr, PV.Sl.sh, PV.intsOf_map, PV.intsOf_app, PV.intsOf_nil, PV.intsOf_int, PV.isInts_map, PV.isInts_nil, PV.isInts_int, PV.isInts_mapL, PV.scr_key, PV.isiQ_s, PV.kit_int_int, PV.kit_int_bool, PV.kit_int_str, PV.kit_int_list, PV.kit_int_tuple, PV.kit_bool_int, PV.kit_bool_bool, PV.kit_bool_str, PV.kit_bool_list, PV.kit_bool_tuple, PV.kit_str_int, PV.kit_str_bool, PV.kit_str_str, PV.kit_str_list, PV.kit_str_tuple, PV.kit_list_int, PV.kit_list_bool, PV.kit_list_str, PV.kit_list_list, PV.kit_list_tuple, PV.kit_tuple_int, PV.kit_tuple_bool, PV.kit_tuple_str, PV.kit_tuple_list, PV.kit_tuple_tuple, PV.kit_NoneType_int, PV.kit_NoneType_bool, PV.kit_NoneType_str, PV.kit_NoneType_list, PV.kit_NoneType_tuple, PV.cutD_map, PV.allD_map, PV.allD_mapA, PV.allS_map, PV.allS_mapA, List.getElem?_cons_zero, List.getElem?_cons_succ, List.getElem?_nil, List.set_cons_zero, List.set_cons_succ, List.map_cons, List.map_nil, List.cons_append, List.nil_append, List.append_nil, List.length_cons, List.length_nil, List.length_map, List.length_append, List.length_replicate, PV.flat_rep, Nat.mul_one, Nat.one_mul, PV.rep_none, List.replicate_zero, List.all_cons, List.all_nil, cond_true, cond_false, Bool.and_true, Bool.true_and, Bool.and_false, Bool.false_and, Bool.not_true, Bool.not_false, Bool.not_not, if_true, if_false, ite_true, ite_false, true_and, and_true, true_implies, false_implies, reduceCtorEq, Nat.reduceAdd, Nat.reduceSub, Nat.reduceLT, Nat.reduceLeDiff, Bool.false_eq_true, decide_eq_true_eq, decide_eq_false_iff_not, Bool.not_eq_true, Bool.not_eq_false, Bool.not_eq_true', Bool.not_eq_false', Bool.true_eq_false, Option.map_some, Option.map_none, decide_true, decide_false, not_true_eq_false, not_false_eq_true, implies_true, forall_const, eq_self, Nat.reduceEqDiff, beq_self_eq_true, ne_eq, Int.reduceEq, Int.reduceNe, Int.reduceLT, Int.reduceLE, Int.reduceGT, Int.reduceGE, Int.reduceToNat, Int.reduceAdd, Int.reduceNeg, Nat.reduceLT, Nat.reduceLeDiff, Nat.reduceAdd, Nat.reduceMul, false_and, and_false, and_self, true_and, and_true, false_implies, PV.at0, PV.at1, PV.at2, PV.at3, PV.at4, PV.at5, Option.some.injEq, exists_eq_left', exists_eq_left, stepD, s_ad]
        refine ⟨smallE (by omega), hN _ ⟨out, k, d, xs ++ ys, q, _, _, ⟨by omega, by rw [tot_snoc, List.length_append]; omega, fun post e => ?_⟩, ⟨rfl, rfl⟩, by rw [List.map_append]⟩⟩
        rw [h3 (.add ys :: post) (e.trans (by simp))]
        rfl
      | keep n =>
        have em : (xs.map PyData.int).isEmpty = !decide (xs.length ≠ 0) := by cases xs <;> simp
        have hb := blk_len k d xs
        have flush : (0 < d ∨ xs.length ≠ 0) → ∀ q2, N [some (.dat (.list (ss.map stepD))), some (.own p (out.map stepD ++ (blk k d xs).map stepD)), some (.dat (.int (0 + (n : Int)))), some (.dat (.int 0)), some (.own q2 []), some (.dat (.str "keep")), some (.dat (.int n))] := fun z q2 => by
          refine hN _ ⟨out ++ blk k d xs, n, 0, [], q2, _, _, ⟨by rw [List.length_append]; omega, Nat.zero_le _, fun post e => ?_⟩, ⟨rfl, rfl⟩, by rw [List.map_append, Int.zero_add]; rfl⟩
          rw [h3 (.keep n :: post) (e.trans (by simp)), nfS_flush z, List.append_assoc]
        simp only [PV.pDivMod, PV.ownsOf_dic, PV.pDNew, PV.pDPut, PV.pDGet2, PV.pDGet, PV.pDIn, PV.pLenD, PV.keyD, PV.pSlScr, PV.pZipT, PV.pRngC, PV.pRngV, PV.pSt1, PV.pM0, PV.pZipS, PV.pM1, PV.pJoin, PV.pFmt, PV.pJoined, PV.pJs, PV.pBMV, PV.pCount, PV.pIndex, PV.pSetIx2, PV.pRetT, PV.pLcF, PV.mapL_inj, PV.pVar, PV.pC, PV.pOp, PV.pUn, PV.pII, PV.pII0, PV.pNeg, PV.pSS, PV.pSS0, PV.eqF_int, PV.eqF_str, PV.eqF_bool, PV.eqF_ni, PV.eqF_in, PV.eqF_nn, PV.eqF_si, PV.eqF_is, PV.eqF_sn, PV.eqF_ns, PV.pEq, PV.pEqD, PV.isN, PV.pIsN, PV.Tg.d, PV.Tg.it, PV.Tg.itD, PV.Tg.ok, PV.pCat, PV.pRep, PV.pCatT, PV.pIn, PV.pNil, PV.pCons, PV.Tg.items, PV.pStar, PV.allD, PV.allS, PV.pTup, PV.pLst, PV.pNoPart, PV.pPart, PV.pSlL, PV.pSlT, PV.pCB, PV.pLen, PV.pLenS, PV.pI1, PV.pI10, PV.pI2, PV.pInt1, PV.pBool1, PV.pS1, PV.pListOf, PV.pTupOf, PV.tyD, PV.pIsi, PV.bD, PV.pAndV, PV.pOrV, PV.pNotV, PV.pIfE, PV.pT, PV.pAnd, PV.pOr, PV.pNot, PV.truD, PV.pTru, PV.pNotT, PV.pChain, PV.pThree, PV.Rs.arg, PV.lend, PV.pCall, PV.pCall0, PV.pIt, PV.pItT, PV.pRg1, PV.pRg2, PV.pRg3, PV.pEnum, PV.pZip, PV.pRev, PV.pStr, PV.setR, PV.pName, PV.pTgt, PV.pTgts, PV.pTg, PV.pNext, PV.pBreak, PV.pCont, PV.pSeq, PV.pShr, PV.pShrI, PV.shI, PV.pFgt, PV.fgt, PV.pAsg, PV.pExpr, PV.Rs.ret, PV.pRet, PV.pRetN, PV.pIf, PV.pFld, PV.pAug, PV.pPar, PV.pBM, PV.pBM0, PV.pAppend, PV.pExtend, PV.pExtT, PV.pClear, PV.pReverse, PV.pSetIx, PV.pFor, PV.wipeG, PV.pLc, PV.gG, PV.pGen, PV.pYes, PV.pSum, PV.pRaise, PV.pRaise1, PV.slA, PV.startG, PV.ends, PV.pRevL, PV.pSlS, PV.pSign, PV.pProp, PV.pMake, PV.pMake0, PV.pTry, PV.pRetD, PV.Rs.asD, PV.sg, PV.Sl.r, PV.dV, PV.flatD, PV.owns, PV.ownsOf_no, PV.ownsOf_dat, PV.ownsOf_obj, PV.ownsOf_own, PV.ownsOf_tab, PV.shr, PV.Sl.sh, PV.intsOf_map, PV.intsOf_app, PV.intsOf_nil, PV.intsOf_int, PV.isInts_map, PV.isInts_nil, PV.isInts_int, PV.isInts_mapL, PV.scr_key, PV.isiQ_s, PV.kit_int_int, PV.kit_int_bool, PV.kit_int_str, PV.kit_int_list, PV.kit_int_tuple, PV.kit_bool_int, PV.kit_bool_bool, PV.kit_bool_str, PV.kit_bool_list, PV.kit_bool_tuple, PV.kit_str_int, PV.kit_str_bool, PV.kit_str_str, PV.kit_str_list, PV.kit_str_tuple, PV.kit_list_int, PV.kit_list_bool, PV.kit_list_str, PV.kit_list_list, PV.kit_list_tuple, PV.kit_tuple_int, PV.kit_tuple_bool, PV.kit_tuple_str, PV.kit_tuple_list, PV.kit_tuple_tuple, PV.kit_NoneType_int, PV.kit_NoneType_bool, PV.kit_NoneType_str, PV.kit_NoneType_list, PV.kit_NoneType_tuple, PV.cutD_map, PV.allD_map, PV.allD_mapA, PV.allS_map, PV.allS_mapA, List.getElem?_cons_zero, List.getElem?_cons_succ, List.getElem?_nil, List.set_cons_zero, List.set_cons_succ, List.map_cons, List.map_nil, List.cons_append, List.nil_append, List.append_nil, List.length_cons, List.length_nil, List.length_map, List.length_append, List.length_replicate, PV.flat_rep, Nat.mul_one, Nat.one_mul, PV.rep_none, List.replicate_zero, List.all_cons, List.all_nil, cond_true, cond_false, Bool.and_true, Bool.true_and, Bool.and_false, Bool.false_and, Bool.not_true, Bool.not_false, Bool.not_not, if_true, if_false, ite_true, ite_false, true_and, and_true, true_implies, false_implies, reduceCtorEq, Nat.reduceAdd, Nat.reduceSub, Nat.reduceLT, Nat.reduceLeDiff, Bool.false_eq_true, decide_eq_true_eq, decide_eq_false_iff_not, Bool.not_eq_true, Bool.not_eq_false, Bool.not_eq_true', Bool.not_eq_false', Bool.true_eq_false, Option.map_some, Option.map_none, decide_true, decide_false, not_true_eq_false, not_false_eq_true, implies_true, forall_const, eq_self, Nat.reduceEqDiff, beq_self_eq_true, ne_eq, Int.reduceEq, Int.reduceNe, Int.reduceLT, Int.reduceLE, Int.reduceGT, Int.reduceGE, Int.reduceToNat, Int.reduceAdd, Int.reduceNeg, Nat.reduceLT, Nat.reduceLeDiff, Nat.reduceAdd, Nat.reduceMul, false_and, and_false, and_self, true_and, and_true, false_implies, PV.at0, PV.at1, PV.at2, PV.at3, PV.at4, PV.at5, Option.some.injEq, exists_eq_left', exists_eq_left, stepD, s_kd, s_ka, pSteps, em]
        rw [Int.toNat_natCast, Int.toNat_natCast]
        refine ⟨fun z => ⟨by omega, by omega, smallE (by omega), by decide, flush (.inl (by omega))⟩, fun z => ⟨fun z2 => ⟨by omega, by omega, smallE (by omega), by decide, flush (.inr z2)⟩, fun z2 => ?_⟩⟩
        have hd : d = 0 := by omega
        have hx : xs = [] := List.eq_nil_of_length_eq_zero (by omega)
        subst hd hx
        refine hN _ ⟨out, k + n, 0, [], q, _, _, ⟨by omega, Nat.zero_le _, fun post e => ?_⟩, ⟨rfl, rfl⟩, by rw [Int.natCast_add]⟩
        rw [h3 (.keep n :: post) (e.trans (by simp)), nfS_keep]
    · rintro _ ⟨out, k, d, xs, q, o5, o6, ⟨h1, h2, h3⟩, ⟨ho5, ho6⟩, rfl⟩
      have hb := blk_len k d xs
      simp only [PV.pDivMod, PV.ownsOf_dic, PV.pDNew, PV.pDPut, PV.pDGet2, PV.pDGet, PV.pDIn, PV.pLenD, PV.keyD, PV.pSlScr, PV.pZipT, PV.pRngC, PV.pRngV, PV.pSt1, PV.pM0, PV.pZipS, PV.pM1, PV.pJoin, PV.pFmt, PV.pJoined, PV.pJs, PV.pBMV, PV.pCount, PV.pIndex, PV.pSetIx2, PV.pRetT, PV.pLcF, PV.mapL_inj, PV.pVar, PV.pC, PV.pOp, PV.pUn, PV.pII, PV.pII0, PV.pNeg, PV.pSS, PV.pSS0, PV.eqF_int, PV.eqF_str, PV.eqF_bool, PV.eqF_ni, PV.eqF_in, PV.eqF_nn, PV.eqF_si, PV.eqF_is, PV.eqF_sn, PV.eqF_ns, PV.pEq, PV.pEqD, PV.isN, PV.pIsN, PV.Tg.d, PV.Tg.it, PV.Tg.itD, PV.Tg.ok, PV.pCat, PV.pRep, PV.pCatT, PV.pIn, PV.pNil, PV.pCons, PV.Tg.items, PV.pStar, PV.allD, PV.allS, PV.pTup, PV.pLst, PV.pNoPart, PV.pPart, PV.pSlL, PV.pSlT, PV.pCB, PV.pLen, PV.pLenS, PV.pI1, PV.pI10, PV.pI2, PV.pInt1, PV.pBool1, PV.pS1, PV.pListOf, PV.pTupOf, PV.tyD, PV.pIsi, PV.bD, PV.pAndV, PV.pOrV, PV.pNotV, PV.pIfE, PV.pT, PV.pAnd, PV.pOr, PV.pNot, PV.truD, PV.pTru, PV.pNotT, PV.pChain, PV.pThree, PV.Rs.arg, PV.lend, PV.pCall, PV.pCall0, PV.pIt, PV.pItT, PV.pRg1, PV.pRg2, PV.pRg3, PV.pEnum, PV.pZip, PV.pRev, PV.pStr, PV.setR, PV.pName, PV.pTgt, PV.pTgts, PV.pTg, PV.pNext, PV.pBreak, PV.pCont, PV.pSeq, PV.pShr, PV.pShrI, PV.shI, PV.pFgt, PV.fgt, PV.pAsg, PV.pExpr, PV.Rs.ret, PV.pRet, PV.pRetN, PV.pIf, PV.pFld, PV.pAug, PV.pPar, PV.pBM, PV.pBM0, PV.pAppend, PV.pExtend, PV.pExtT, PV.pClear, PV.pReverse, PV.pSetIx, PV.pFor, PV.wipeG, PV.pLc, PV.gG, PV.pGen, PV.pYes, PV.pSum, PV.pRaise, PV.pRaise1, PV.slA, PV.startG, PV.ends, PV.pRevL, PV.pSlS, PV.pSign, PV.pProp, PV.pMake, PV.pMake0, PV.pTry, PV.pRetD, PV.Rs.asD, PV.sg, PV.Sl.r, PV.dV, PV.flatD, PV.owns, PV.ownsOf_no, PV.ownsOf_dat, PV.ownsOf_obj, PV.ownsOf_own, PV.ownsOf_tab, PV.shr, PV.Sl.sh, PV.intsOf_map, PV.intsOf_app, PV.intsOf_nil, PV.intsOf_int, PV.isInts_map, PV.isInts_nil, PV.isInts_int, PV.isInts_mapL, PV.scr_key, PV.isiQ_s, PV.kit_int_int, PV.kit_int_bool, PV.kit_int_str, PV.kit_int_list, PV.kit_int_tuple, PV.kit_bool_int, PV.kit_bool_bool, PV.kit_bool_str, PV.kit_bool_list, PV.kit_bool_tuple, PV.kit_str_int, PV.kit_str_bool, PV.kit_str_str, PV.kit_str_list, PV.kit_str_tuple, PV.kit_list_int, PV.kit_list_bool, PV.kit_list_str, PV.kit_list_list, PV.kit_list_tuple, PV.kit_tuple_int, PV.kit_tuple_bool, PV.kit_tuple_str, PV.kit_tuple_list, PV.kit_tuple_tuple, PV.kit_NoneType_int, PV.kit_NoneType_bool, PV.kit_NoneType_str, PV.kit_NoneType_list, PV.kit_NoneType_tuple, PV.cutD_map, PV.allD_map, PV.allD_mapA, PV.allS_map, PV.allS_mapA, List.getElem?_cons_zero, List.getElem?_cons_succ, List.getElem?_nil, List.set_cons_zero, List.set_cons_succ, List.map_cons, List.map_nil, List.cons_append, List.nil_append, List.append_nil, List.length_cons, List.length_nil, List.length_map, List.length_append, List.length_replicate, PV.flat_rep, Nat.mul_one, Nat.one_mul, PV.rep_none, List.replicate_zero, List.all_cons, List.all_nil, cond_true, cond_false, Bool.and_true, Bool.true_and, Bool.and_false, Bool.false_and, Bool.not_true, Bool.not_false, Bool.not_not, if_true, if_false, ite_true, ite_false, true_and, and_true, true_implies, false_implies, reduceCtorEq, Nat.reduceAdd, Nat.reduceSub, Nat.reduceLT, Nat.reduceLeDiff, Bool.false_eq_true, decide_eq_true_eq, decide_eq_false_iff_not, Bool.not_eq_true, Bool.not_eq_false, Bool.not_eq_true', Bool.not_eq_false', Bool.true_eq_false, Option.map_some, Option.map_none, decide_true, decide_false, not_true_eq_false, not_false_eq_true, implies_true, forall_const, eq_self, Nat.reduceEqDiff, beq_self_eq_true, ne_eq, Int.reduceEq, Int.reduceNe, Int.reduceLT, Int.reduceLE, Int.reduceGT, Int.reduceGE, Int.reduceToNat, Int.reduceAdd, Int.reduceNeg, Nat.reduceLT, Nat.reduceLeDiff, Nat.reduceAdd, Nat.reduceMul, false_and, and_false, and_self, true_and, and_true, false_implies, PV.at0, PV.at1, PV.at2, PV.at3, PV.at4, PV.at5, Option.some.injEq, exists_eq_left', exists_eq_left, pSteps, ho5, ho6]
      rw [Int.toNat_natCast, Int.toNat_natCast]
      refine ⟨by omega, by omega, smallE (by omega), ?_⟩
      rw [← List.map_append, show out ++ blk k d xs = nf ss from (h3 [] (by simp)).symm]
      exact kQ
  · exact h.elim
def pLItems : PV.PSp := fun as _ Q => match as with
  | [.v _ (.int _), .v _ (.int n)] => 0 ≤ n ∧ n ≤ 60000 ∧ ∀ xs : List Int, xs.length = n.toNat → (∀ x ∈ xs, 0 ≤ x ∧ x < 256) → Q (.v .dat (.list (xs.map .int)))
  | _ => False
theorem ok__law_items (T : Txt K mg) : Ok P w K mg base CX0 3 "_law_items" ["cell", "size"] (PV.spP K [] (PV.sg 2 pLItems)) := by
  have G__law_row := ok__law_row (P := P) (w := w) (base := base) T
  refine PV.pv_def T.d__law_items sc__law_items (fun as PX PQ h => h.1) fun f cdv A outer s H E hr => ?_
  have nd := sc__law_items.nd
  refine ⟨_, _, (pss_cons (ps_set (i := 2) nd rfl (Or.inl rfl) (pe_ix ix_tup (pe_tup (pa_cons pe_int (pa_cons pe_int (pa_cons pe_int pa_nil)))) (pe_op op_mod (pv 0) pe_int) (fun _ _ => rfl)))
      (pss_one (ps_ret (pe_callO G__law_row (hr.mono (by decide)) pass0 (pa_cons (pe_op op_fdiv (pv 0) pe_int) (pa_cons (pv 1) (pa_cons (pv 2) pa_nil))))))),
    open PV in (ls_seq (ls_asg (le_op lr_ixT (le_tup (la_cons le_c (la_cons le_c (la_cons le_c la_nil)))) (le_op lr_I le_var le_c)) (lg_name (b := false)))
      (ls_retD (le_call0 S__law_row (la_cons (le_op lr_I le_var le_c) (la_cons le_var (la_cons le_var la_nil)))))), fun as PX PQ h => ?_⟩
  replace h := h.2
  unfold pLItems at h
  split at h
  · next t c t2 n =>
    obtain ⟨h0, h1, kQ⟩ := h
    simp only [PV.pDivMod, PV.ownsOf_dic, PV.pDNew, PV.pDPut, PV.pDGet2, PV.pDGet, PV.pDIn, PV.pLenD, PV.keyD, PV.pSlScr, PV.pZipT, PV.pRngC, PV.pRngV, PV.pSt1, PV.pM0, PV.pZipS, PV.pM1, PV.pJoin, PV.pFmt, PV.pJoined, PV.pJs, PV.pBMV, PV.pCount, PV.pIndex, PV.pSetIx2, PV.pRetT, PV.pLcF, PV.mapL_inj, PV.pVar, PV.pC, PV.pOp, PV.pUn, PV.pII, PV.pII0, PV.pNeg, PV.pSS, PV.pSS0, PV.eqF_int, PV.eqF_str, PV.eqF_bool, PV.eqF_ni, PV.eqF_in, PV.eqF_nn, PV.eqF_si, PV.eqF_is, PV.eqF_sn, PV.eqF_ns, PV.pEq, PV.pEqD, PV.isN, PV.pIsN, PV.Tg.d, PV.Tg.it, PV.Tg.itD, PV.Tg.ok, PV.pCat, PV.pRep, PV.pCatT, PV.pIn, PV.pNil, PV.pCons, PV.Tg.items, PV.pStar, PV.allD, PV.allS, PV.pTup, PV.pLst, PV.pNoPart, PV.pPart, PV.pSlL, PV.pSlT, PV.pCB, PV.pLen, PV.pLenS, PV.pI1, PV.pI10, PV.pI2, PV.pInt1, PV.pBool1, PV.pS1, PV.pListOf, PV.pTupOf, PV.tyD, PV.pIsi, PV.bD, PV.pAndV, PV.pOrV, PV.pNotV, PV.pIfE, PV.pT, PV.pAnd, PV.pOr, PV.pNot, PV.truD, PV.pTru, PV.pNotT, PV.pChain, PV.pThree, PV.Rs.arg, PV.lend, PV.pCall, PV.pCall0, PV.pIt, PV.pItT, PV.pRg1, PV.pRg2, PV.pRg3, PV.pEnum, PV.pZip, PV.pRev, PV.pStr, PV.setR, PV.pName, PV.pTgt, PV.pTgts, PV.pTg, PV.pNext, PV.pBreak, PV.pCont, PV.pSeq, PV.pShr, PV.pShrI, PV.shI, PV.pFgt, PV.fgt, PV.pAsg, PV.pExpr, PV.Rs.ret, PV.pRet, PV.pRetN, PV.pIf, PV.pFld, PV.pAug, PV.pPar, PV.pBM, PV.pBM0, PV.pAppend, PV.pExtend, PV.pExtT, PV.pClear, PV.pReverse, PV.pSetIx, PV.pFor, PV.wipeG, PV.pLc, PV.gG, PV.pGen, PV.pYes, PV.pSum, PV.pRaise, PV.pRaise1, PV.slA, PV.startG, PV.ends, PV.pRevL, PV.pSlS, PV.pSign, PV.pProp, PV.pMake, PV.pMake0, PV.pTry, PV.pRetD, PV.Rs.asD, PV.sg, PV.Sl.r, PV.dV, PV.flatD, PV.owns, PV.ownsOf_no, PV.ownsOf_dat, PV.ownsOf_obj, PV.ownsOf_own, PV.ownsOf_tab, PV.shr, PV.Sl.sh, PV.intsOf_map, PV.intsOf_app, PV.intsOf_nil, PV.intsOf_int, PV.isInts_map, PV.isInts_nil, PV.isInts_int, PV.isInts_mapL, PV.scr_key, PV.isiQ_s, PV.kit_int_int, PV.kit_int_bool, PV.kit_int_str, PV.kit_int_list, PV.kit_int_tuple, PV.kit_bool_int, PV.kit_bool_bool, PV.kit_bool_str, PV.kit_bool_list, PV.kit_bool_tuple, PV.kit_str_int, PV.kit_str_bool, PV.kit_str_str, PV.kit_str_list, PV.kit_str_tuple, PV.kit_list_int, PV.kit_list_bool, PV.kit_list_str, PV.kit_list_list, PV.kit_list_tuple, PV.kit_tuple_int, PV.kit_tuple_bool, PV.kit_tuple_str, PV.kit_tuple_list, PV.kit_tuple_tuple, PV.kit_NoneType_int, PV.kit_NoneType_bool, PV.kit_NoneType_str, PV.kit_NoneType_list, PV.kit_NoneType_tuple, PV.cutD_map, PV.allD_map, PV.allD_mapA, PV.allS_map, PV.allS_mapA, List.getElem?_cons_zero, List.getElem?_cons_succ, List.getElem?_nil, List.set_cons_zero, List.set_cons_succ, List.map_cons, List.map_nil, List.cons_append, List.nil_append, List.append_nil, List.length_cons, List.length_nil, List.length_map, List.length_append, List.length_replicate, PV.flat_rep, Nat.mul_one, Nat.one_mul, PV.rep_none, List.replicate_zero, List.all_cons, List.all_nil, cond_true, cond_false, Bool.and_true, Bool.true_and, Bool.and_false, Bool.false_and, Bool.not_true, Bool.not_false, Bool.not_not, if_true, if_false, ite_true, ite_false, true_and, and_true, true_implies, false_implies, reduceCtorEq, Nat.reduceAdd, Nat.reduceSub, Nat.reduceLT, Nat.reduceLeDiff, Bool.false_eq_true, decide_eq_true_eq, decide_eq_false_iff_not, Bool.not_eq_true, Bool.not_eq_false, Bool.not_eq_true', Bool.not_eq_false', Bool.true_eq_false, Option.map_some, Option.map_none, decide_true, decide_false, not_true_eq_false, not_false_eq_true, implies_true, forall_const, eq_self, Nat.reduceEqDiff, beq_self_eq_true, ne_eq, Int.reduceEq, Int.reduceNe, Int.reduceLT, Int.reduceLE, Int.reduceGT, Int.reduceGE, Int.reduceToNat, Int.reduceAdd, Int.reduceNeg, Nat.reduceLT, Nat.reduceLeDiff, Nat.reduceAdd, Nat.reduceMul, false_and, and_false, and_self, true_and, and_true, false_implies, PV.at0, PV.at1, PV.at2, PV.at3, PV.at4, PV.at5, Option.some.injEq, exists_eq_left', exists_eq_left, pRow]
    refine ⟨by decide, ?_⟩
    rcases (show c % 3 = 0 ∨ c % 3 = 1 ∨ c % 3 = 2 by omega) with z | z | z <;> rw [z]
    · exact ⟨_, rfl, ⟨by decide, by decide⟩, h0, h1, by decide, by decide, kQ _ (rowL_len ..) fun x hx => by have := rowL_in (by decide) hx; omega⟩
    · exact ⟨_, rfl, ⟨by decide, by decide⟩, h0, h1, by decide, by decide, kQ _ (rowL_len ..) fun x hx => by have := rowL_in (by decide) hx; omega⟩
    · exact ⟨_, rfl, ⟨by decide, by decide⟩, h0, h1, by decide, by decide, kQ _ (rowL_len ..) fun x hx => by have := rowL_in (by decide) hx; omega⟩
  · exact h.elim
def pLScript : PV.PSp := fun as _ Q => match as with
  | [.v _ (.list cs), .v _ (.list es)] => PV.isInts cs ∧ PV.isInts es ∧ cs.length ≤ 1000 ∧ es.length ≤ 10000 ∧ ∀ ss : List Step, taken ss = es.length → ss.length ≤ cs.length + 1 → (∀ s ∈ ss, 0 < s.sz) → (run (PV.intsOf es) ss).length ≤ es.length + 4 * cs.length → tot ss ≤ es.length + 4 * cs.length → Q (.v .dat (.list (ss.map stepD)))
  | _ => False
theorem ok__law_script (T : Txt K mg) : Ok P w K mg base CX0 4 "_law_script" ["cells", "old"] (PV.spP K [] (PV.sg 2 pLScript)) := by
  have G__law_items := ok__law_items (P := P) (w := w) (base := base) T
  refine PV.pv_def T.d__law_script sc__law_script (fun as PX PQ h => h.1) fun f cdv A outer s H E hr => ?_
  have nd := sc__law_script.nd
  refine ⟨_, _, (pss_cons (ps_set (i := 2) nd rfl (Or.inl rfl) (pe_lst pa_nil))
      (pss_cons (ps_set (i := 3) nd rfl (Or.inl rfl) (pe_callB call_len_seq (by rfl) T.n_len PySem.boot_len (pa_cons (pv 1) pa_nil)))
      (pss_cons (ps_for PassesOwn.never rfl (pi_list (pv 0)) (pg_name (i := 4) nd rfl (Or.inl rfl))
        (pss_cons (ps_set (i := 5) nd rfl (Or.inl rfl) (pe_op op_mod (pv 4) pe_int))
        (pss_one (ps_if (pt_cmpR op_eq (pv 5) pe_int (nomark _))
          (pss_one (ps_expr (pe_bm PySem.F.plainAttrs_list PySem.F.slot_list_append PySem.F.type_list_append mt_append (pv 2) (pa_cons (pe_tup (pa_cons pe_str (pa_cons (pe_callTy call_tuple_of (by rfl) T.n_tuple (by decide +kernel) (pa_cons (pe_callO G__law_items (hr.mono (by decide)) pass0 (pa_cons (pe_op op_fdiv (pv 4) pe_int) (pa_cons (pe_op op_add pe_int (pe_op op_mod (pe_op op_fdiv (pv 4) pe_int) pe_int)) pa_nil))) pa_nil)) pa_nil))) pa_nil))))
          (pss_one (ps_if (pt_cmpR op_gt (pv 3) pe_int (nomark _))
            (pss_cons (ps_set (i := 6) nd rfl (Or.inl rfl) (pe_op op_add pe_int (pe_op op_mod (pe_op op_fdiv (pv 4) pe_int) (pe_callB (call_min2 rfl) (by rfl) T.n_min (by decide +kernel) (pa_cons (pv 3) (pa_cons pe_int pa_nil))))))
            (pss_cons (ps_expr (pe_bm PySem.F.plainAttrs_list PySem.F.slot_list_append PySem.F.type_list_append mt_append (pv 2) (pa_cons (pe_tup (pa_cons (pe_ix ix_tup (pe_tup (pa_cons pe_str (pa_cons pe_str pa_nil))) (pv 5) (fun _ _ => rfl)) (pa_cons (pv 6) pa_nil))) pa_nil)))
            (pss_one (ps_set (i := 3) nd rfl (Or.inl rfl) (pe_op op_sub (pv 3) (pv 6)))))) pss_nil))))))
      (pss_cons (ps_if (pt_cmpR op_gt (pv 3) pe_int (nomark _))
        (pss_one (ps_expr (pe_bm PySem.F.plainAttrs_list PySem.F.slot_list_append PySem.F.type_list_append mt_append (pv 2) (pa_cons (pe_tup (pa_cons pe_str (pa_cons (pv 3) pa_nil))) pa_nil)))) pss_nil)
      (pss_one (ps_ret (pv 2))))))),
    open PV in (ls_seq (ls_asg (le_lst la_nil) (lg_name (b := true)))
      (ls_seq (ls_asg (le_cb lc_len (la_cons le_var la_nil)) (lg_name (b := false)))
      (ls_seq (ls_for (li_list le_var) (lg_tgt (.name 4))
      (ls_seq (ls_asg (le_op lr_I le_var le_c) (lg_name (b := false)))
      (ls_if (lt_test (le_op lr_eq le_var le_c))
      (ls_bm lm_append (la_cons (le_tup (la_cons le_c (la_cons (le_cb lc_tuple (la_cons (le_call0 spok (la_cons (le_op lr_I le_var le_c) (la_cons (le_op lr_I0 le_c (le_op lr_I (le_op lr_I le_var le_c) le_c)) la_nil))) la_nil)) la_nil))) la_nil))
      (ls_if (lt_test (le_op lr_I0 le_var le_c))
      (ls_seq (ls_asg (le_op lr_I0 le_c (le_op lr_I (le_op lr_I le_var le_c) (le_cb lc_I2 (la_cons le_var (la_cons le_c la_nil))))) (lg_name (b := false)))
      (ls_seq (ls_bm lm_append (la_cons (le_tup (la_cons (le_op lr_ixT (le_tup (la_cons le_c (la_cons le_c la_nil))) le_var) (la_cons le_var la_nil))) la_nil))
      (ls_asg (le_op lr_I0 le_var le_var) (lg_name (b := false)))))
      ls_next))))
      (ls_seq (ls_if (lt_test (le_op lr_I0 le_var le_c))
      (ls_bm lm_append (la_cons (le_tup (la_cons le_c (la_cons le_var la_nil))) la_nil))
      ls_next)
      (ls_retD le_var))))), fun as PX PQ h => ?_⟩
  replace h := h.2
  unfold pLScript at h
  split at h
  · next t cs t2 es =>
    obtain ⟨hi, hi2, hl, hl2, kQ⟩ := h
    unfold PV.isInts at hi hi2
    generalize PV.intsOf cs = cells at *
    generalize PV.intsOf es = old at *
    subst hi
    subst hi2
    rw [List.length_map] at hl hl2 kQ
    rw [List.length_map] at kQ
    simp only [PV.pDivMod, PV.ownsOf_dic, PV.pDNew, PV.pDPut, PV.pDGet2, PV.pDGet, PV.pDIn, PV.pLenD, PV.keyD, PV.pSlScr, PV.pZipT, PV.pRngC, PV.pRngV, PV.pSt1, PV.pM0, PV.pZipS, PV.pM1, PV.pJoin, PV.pFmt, PV.pJoined, PV.pJs, PV.pBMV, PV.pCount, PV.pIndex, PV.pSetIx2, PV.pRetT, PV.pLcF, PV.mapL_inj, PV.pVar, PV.pC, PV.pOp, PV.pUn, PV.pII, PV.pII0, PV.pNeg, PV.pSS, PV.pSS0, PV.eqF_int, PV.eqF_str, PV.eqF_bool, PV.eqF_ni, PV.eqF_in, PV.eqF_nn, PV.eqF_si, PV.eqF_is, PV.eqF_sn, PV.eqF_ns, PV.pEq, PV.pEqD, PV.isN, PV.pIsN, PV.Tg.d, PV.Tg.it, PV.Tg.itD, PV.Tg.ok, PV.pCat, PV.pRep, PV.pCatT, PV.pIn, PV.pNil, PV.pCons, PV.Tg.items, PV.pStar, PV.allD, PV.allS, PV.pTup, PV.pLst, PV.pNoPart, PV.pPart, PV.pSlL, PV.pSlT, PV.pCB, PV.pLen, PV.pLenS, PV.pI1, PV.pI10, PV.pI2, PV.pInt1, PV.pBool1, PV.pS1, PV.pListOf, PV.pTupOf, PV.tyD, PV.pIsi, PV.bD, PV.pAndV, PV.pOrV, PV.pNotV, PV.pIfE, PV.pT, PV.pAnd, PV.pOr, PV.pNot, PV.truD, PV.pTru, PV.pNotT, PV.pChain, PV.pThree, PV.Rs.arg, PV.lend, PV.pCall, PV.pCall0, PV.pIt, PV.pItT, PV.pRg1, PV.pRg2, PV.pRg3, PV.pEnum, PV.pZip, PV.pRev, PV.pStr, PV.setR, PV.pName, PV.pTgt, PV.pTgts, PV.pTg, PV.pNext, PV.pBreak, PV.pCont, PV.pSeq, PV.pShr, PV.pShrI, PV.shI, PV.pFgt, PV.fgt, PV.pAsg, PV.pExpr, PV.Rs.ret, PV.pRet, PV.pRetN, PV.pIf, PV.pFld, PV.pAug, PV.pPar, PV.pBM, PV.pBM0, PV.pAppend, PV.pExtend, PV.pExtT, PV.pClear, PV.pReverse, PV.pSetIx, PV.pFor, PV.wipeG, PV.pLc, PV.gG, PV.pGen, PV.pYes, PV.pSum, PV.pRaise, PV.pRaise1, PV.slA, PV.startG, PV.ends, PV.pRevL, PV.pSlS, PV.pSign, PV.pProp, PV.pMake, PV.pMake0, PV.pTry, PV.pRetD, PV.Rs.asD, PV.sg, PV.Sl.r, PV.dV, PV.flatD, PV.owns, PV.ownsOf_no, PV.ownsOf_dat, PV.ownsOf_obj, PV.ownsOf_own, PV.ownsOf_tab, PV.shr, PV.Sl.sh, PV.intsOf_map, PV.intsOf_app, PV.intsOf_nil, PV.intsOf_int, PV.isInts_map, PV.isInts_nil, PV.isInts_int, PV.isInts_mapL, PV.scr_key, PV.isiQ_s, PV.kit_int_int, PV.kit_int_bool, PV.kit_int_str, PV.kit_int_list, PV.kit_int_tuple, PV.kit_bool_int, PV.kit_bool_bool, PV.kit_bool_str, PV.kit_bool_list, PV.kit_bool_tuple, PV.kit_str_int, PV.kit_str_bool, PV.kit_str_str, PV.kit_str_list, PV.kit_str_tuple, PV.kit_list_int, PV.kit_list_bool, PV.kit_list_str, PV.kit_list_list, PV.kit_list_tuple, PV.kit_tuple_int, PV.kit_tuple_bool, PV.kit_tuple_str, PV.kit_tuple_list, PV.kit_tuple_tuple, PV.kit_NoneType_int, PV.kit_NoneType_bool, PV.kit_NoneType_str, PV.kit_NoneType_list, PV.kit_NoneType_tuple, PV.cutD_map, PV.allD_map, PV.allD_mapA, PV.allS_map, PV.allS_mapA, List.getElem?_cons_zero, List.getElem?_cons_succ, List.getElem?_nil, List.set_cons_zero, List.set_cons_succ, List.map_cons, List.map_nil, List.cons_append, List.nil_append, List.append_nil, List.length_cons, List.length_nil, List.length_map, List.length_append, List.length_replicate, PV.flat_rep, Nat.mul_one, Nat.one_mul, PV.rep_none, List.replicate_zero, List.all_cons, List.all_nil, cond_true, cond_false, Bool.and_true, Bool.true_and, Bool.and_false, Bool.false_and, Bool.not_true, Bool.not_false, Bool.not_not, if_true, if_false, ite_true, ite_false, true_and, and_true, true_implies, false_implies, reduceCtorEq, Nat.reduceAdd, Nat.reduceSub, Nat.reduceLT, Nat.reduceLeDiff, Bool.false_eq_true, decide_eq_true_eq, decide_eq_false_iff_not, Bool.not_eq_true, Bool.not_eq_false, Bool.not_eq_true', Bool.not_eq_false', Bool.true_eq_false, Option.map_some, Option.map_none, decide_true, decide_false, not_true_eq_false, not_false_eq_true, implies_true, forall_const, eq_self, Nat.reduceEqDiff, beq_self_eq_true, ne_eq, Int.reduceEq, Int.reduceNe, Int.reduceLT, Int.reduceLE, Int.reduceGT, Int.reduceGE, Int.reduceToNat, Int.reduceAdd, Int.reduceNeg, Nat.reduceLT, Nat.reduceLeDiff, Nat.reduceAdd, Nat.reduceMul, false_and, and_false, and_self, true_and, and_true, false_implies, PV.at0, PV.at1, PV.at2, PV.at3, PV.at4, PV.at5, Option.some.injEq, exists_eq_left', exists_eq_left]
    refine ⟨by decide, fun p => PV.loop_inv cells (fun pre g => ∃ (out : List Step) (left : Nat) (o4 o5 o6 : Option PV.Sl), (taken out + left = old.length ∧ out.length ≤ pre.length ∧ (∀ s ∈ out, 0 < s.sz) ∧ tot out ≤ taken out + 4 * pre.length) ∧ (PV.ownsOf o4 = [] ∧ PV.ownsOf o5 = [] ∧ PV.ownsOf o6 = []) ∧
      g = [some (.dat (.list (cells.map .int))), some (.dat (.list (old.map .int))), some (.own p (out.map stepD)), some (.dat (.int (left : Int))), o4, o5, o6]) ⟨[], old.length, none, none, none, ⟨Nat.zero_add _, Nat.le_refl _, fun s hs => by (cases hs), Nat.le_refl _⟩, ⟨rfl, rfl, rfl⟩, rfl⟩ ?_ ?_⟩
    · rintro pre x post _ e ⟨out, left, o4, o5, o6, ⟨h1, h2, h3, h4⟩, ⟨ho4, ho5, ho6⟩, rfl⟩ N hN
      have hpl : pre.length + 1 ≤ cells.length := by
        rw [e]
        simp
      have hpr : (pre ++ [x]).length = pre.length + 1 := by simp
      have hs : out.length < sizeLine := small (by omega)
      have go : ∀ (s : Step) (l2 : Nat) (k : Int) (o6 : Option PV.Sl), PV.ownsOf o6 = [] → s.tk + l2 = left → 0 < s.sz → s.sz ≤ s.tk + 4 → N [some (.dat (.list (cells.map .int))), some (.dat (.list (old.map .int))), some (.own p (out.map stepD ++ [stepD s])), some (.dat (.int (l2 : Int))), some (.dat (.int x)), some (.dat (.int k)), o6] := fun s l2 k o6 ho6 z1 z2 z3 => by
        refine hN _ ⟨out ++ [s], l2, _, _, o6, ⟨by rw [taken_snoc]; omega, by rw [List.length_append]; show out.length + 1 ≤ _; omega, fun t ht => ?_, by rw [tot_snoc, taken_snoc]; omega⟩, ⟨rfl, rfl, ho6⟩, by rw [List.map_append]; rfl⟩
        rcases List.mem_append.mp ht with z | z
        · exact h3 t z
        · rw [List.mem_singleton.mp z]
          exact z2
      have m4 := Int.emod_nonneg (x / 9) (show (4 : Int) ≠ 0 by decide)
      have m5 := Int.emod_lt_of_pos (x / 9) (show (0 : Int) < 4 by decide)
      simp only [PV.pDivMod, PV.ownsOf_dic, PV.pDNew, PV.pDPut, PV.pDGet2, PV.pDGet, PV.pDIn, PV.pLenD, PV.keyD, PV.pSlScr, PV.pZipT, PV.pRngC, PV.pRngV, PV.pSt1, PV.pM0, PV.pZipS, PV.pM1, PV.pJoin, PV.pFmt, PV.pJoined, PV.pJs, PV.pBMV, PV.pCount, PV.pIndex, PV.pSetIx2, PV.pRetT, PV.pLcF, PV.mapL_inj, PV.pVar, PV.pC, PV.pOp, PV.pUn, PV.pII, PV.pII0, PV.pNeg, PV.pSS, PV.pSS0, PV.eqF_int, PV.eqF_str, PV.eqF_bool, PV.eqF_ni, PV.eqF_in, PV.eqF_nn, PV.eqF_si, PV.eqF_is, PV.eqF_sn, PV.eqF_ns, PV.pEq, PV.pEqD, PV.isN, PV.pIsN, PV.Tg.d, PV.Tg.it, PV.Tg.itD, PV.Tg.ok, PV.pCat, PV.pRep, PV.pCatT, PV.pIn, PV.pNil, PV.pCons, PV.Tg.items, PV.pStar, PV.allD, PV.allS, PV.pTup, PV.pLst, PV.pNoPart, PV.pPart, PV.pSlL, PV.pSlT, PV.pCB, PV.pLen, PV.pLenS, PV.pI1, PV.pI10, PV.pI2, PV.pInt1, PV.pBool1, PV.pS1, PV.pListOf, PV.pTupOf, PV.tyD, PV.pIsi, PV.bD, PV.pAndV, PV.pOrV, PV.pNotV, PV.pIfE, PV.pT, PV.pAnd, PV.pOr, PV.pNot, PV.truD, PV.pTru, PV.pNotT, PV.pChain, PV.pThree, PV.Rs.arg, PV.lend, PV.pCall, PV.pCall0, PV.pIt, PV.pItT, PV.pRg1, PV.pRg2, PV.pRg3, PV.pEnum, PV.pZip, PV.pRev, PV.pStr, PV.setR, PV.pName, PV.pTgt, PV.pTgts, PV.pTg, PV.pNext, PV.pBreak, PV.pCont, PV.pSeq, PV.pShr, PV.pShrI, PV.shI, PV.pFgt, PV.fgt, PV.pAsg, PV.pExpr, PV.Rs.ret, PV.pRet, PV.pRetN, PV.pIf, PV.pFld, PV.pAug, PV.pPar, PV.pBM, PV.pBM0, PV.pAppend, PV.pExtend, PV.pExtT, PV.pClear, PV.pReverse, PV.pSetIx, PV.pFor, PV.wipeG, PV.pLc, PV.gG, PV.pGen, PV.pYes, PV.pSum, PV.pRaise, PV.pRaise1, PV.slA, PV.startG, PV.ends, PV.pRevL, PV.pSlS, PV.pSign, PV.pProp, PV.pMake, PV.pMake0, PV.pTry, PV.pRetD, PV.Rs.asD, PV.sg, PV.Sl.r, PV.dV, PV.flatD, PV.owns, PV.ownsOf_no, PV.ownsOf_dat, PV.ownsOf_obj, PV.ownsOf_own, PV.ownsOf_tab, PV.shr, PV.Sl.sh, PV.intsOf_map, PV.intsOf_app, PV.intsOf_nil, PV.intsOf_int, PV.isInts_map, PV.isInts_nil, PV.isInts_int, PV.isInts_mapL, PV.scr_key, PV.isiQ_s, PV.kit_int_int, PV.kit_int_bool, PV.kit_int_str, PV.kit_int_list, PV.kit_int_tuple, PV.kit_bool_int, PV.kit_bool_bool, PV.kit_bool_str, PV.kit_bool_list, PV.kit_bool_tuple, PV.kit_str_int, PV.kit_str_bool, PV.kit_str_str, PV.kit_str_list, PV.kit_str_tuple, PV.kit_list_int, PV.kit_list_bool, PV.kit_list_str, PV.kit_list_list, PV.kit_list_tuple, PV.kit_tuple_int, PV.kit_tuple_bool, PV.kit_tuple_str, PV.kit_tuple_list, PV.kit_tuple_tuple, PV.kit_NoneType_int, PV.kit_NoneType_bool, PV.kit_NoneType_str, PV.kit_NoneType_list, PV.kit_NoneType_tuple, PV.cutD_map, PV.allD_map, PV.allD_mapA, PV.allS_map, PV.allS_mapA, List.getElem?_cons_zero, List.getElem?_cons_succ, List.getElem?_nil, List.set_cons_zero, List.set_cons_succ, List.map_cons, List.map_nil, List.cons_append, List.nil_append, List.append_nil, List.length_cons, List.length_nil, List.length_map, List.length_append, List.length_replicate, PV.flat_rep, Nat.mul_one, Nat.one_mul, PV.rep_none, List.replicate_zero, List.all_cons, List.all_nil, cond_true, cond_false, Bool.and_true, Bool.true_and, Bool.and_false, Bool.false_and, Bool.not_true, Bool.not_false, Bool.not_not, if_true, if_false, ite_true, ite_false, true_and, and_true, true_implies, false_implies, reduceCtorEq, Nat.reduceAdd, Nat.reduceSub, Nat.reduceLT, Nat.reduceLeDiff, Bool.false_eq_true, decide_eq_true_eq, decide_eq_false_iff_not, Bool.not_eq_true, Bool.not_eq_false, Bool.not_eq_true', Bool.not_eq_false', Bool.true_eq_false, Option.map_some, Option.map_none, decide_true, decide_false, not_true_eq_false, not_false_eq_true, implies_true, forall_const, eq_self, Nat.reduceEqDiff, beq_self_eq_true, ne_eq, Int.reduceEq, Int.reduceNe, Int.reduceLT, Int.reduceLE, Int.reduceGT, Int.reduceGE, Int.reduceToNat, Int.reduceAdd, Int.reduceNeg, Nat.reduceLT, Nat.reduceLeDiff, Nat.reduceAdd, Nat.reduceMul, false_and, and_false, and_self, true_and, and_true, false_implies, PV.at0, PV.at1, PV.at2, PV.at3, PV.at4, PV.at5, Option.some.injEq, exists_eq_left', exists_eq_left, pLItems, ho6]
      refine ⟨fun hk => ⟨⟨by decide, by decide⟩, ⟨by decide, by decide⟩, by omega, by omega, fun xs hx _ => ⟨by decide, hs, ?_⟩⟩, fun hk => ⟨fun hleft => ?_, fun hleft => ?_⟩⟩
      · exact go (.add xs) left _ o6 ho6 (Nat.zero_add _) (by show 0 < xs.length; omega) (by show xs.length ≤ 0 + 4; omega)
      · have hmn : (if (5 : Int) < (left : Int) then (5 : Int) else (left : Int)) = ((min left 5 : Nat) : Int) := by split <;> omega
        rw [hmn]
        have hp : 0 < min left 5 := by omega
        have c0 := Int.emod_nonneg (x / 3) (show ((min left 5 : Nat) : Int) ≠ 0 by omega)
        have c1 := Int.emod_lt_of_pos (x / 3) (show (0 : Int) < ((min left 5 : Nat) : Int) by omega)
        obtain ⟨c, hc⟩ : ∃ c : Nat, 1 + x / 3 % ((min left 5 : Nat) : Int) = (c : Int) := ⟨(1 + x / 3 % ((min left 5 : Nat) : Int)).toNat, by omega⟩
        rw [hc]
        have hcb : 1 ≤ c ∧ c ≤ left := by omega
        have hl2 : (left : Int) - (c : Int) = ((left - c : Nat) : Int) := by omega
        rw [hl2]
        refine ⟨⟨by decide, by decide⟩, by omega, by decide, ?_⟩
        rcases (show x % 3 = 0 ∨ x % 3 = 1 by omega) with z | z <;> rw [z]
        · exact ⟨_, rfl, by decide, hs, go (.keep c) (left - c) _ _ rfl (by show c + (left - c) = left; omega) hcb.1 (by show c ≤ c + 4; omega)⟩
        · exact ⟨_, rfl, by decide, hs, go (.drop c) (left - c) _ _ rfl (by show c + (left - c) = left; omega) hcb.1 (by show c ≤ c + 4; omega)⟩
      · refine hN _ ⟨out, left, _, _, o6, ⟨h1, by omega, h3, by omega⟩, ⟨rfl, rfl, ho6⟩, rfl⟩
    · rintro _ ⟨out, left, o4, o5, o6, ⟨h1, h2, h3, h4⟩, ⟨ho4, ho5, ho6⟩, rfl⟩
      simp only [PV.pDivMod, PV.ownsOf_dic, PV.pDNew, PV.pDPut, PV.pDGet2, PV.pDGet, PV.pDIn, PV.pLenD, PV.keyD, PV.pSlScr, PV.pZipT, PV.pRngC, PV.pRngV, PV.pSt1, PV.pM0, PV.pZipS, PV.pM1, PV.pJoin, PV.pFmt, PV.pJoined, PV.pJs, PV.pBMV, PV.pCount, PV.pIndex, PV.pSetIx2, PV.pRetT, PV.pLcF, PV.mapL_inj, PV.pVar, PV.pC, PV.pOp, PV.pUn, PV.pII, PV.pII0, PV.pNeg, PV.pSS, PV.pSS0, PV.eqF_int, PV.eqF_str, PV.eqF_bool, PV.eqF_ni, PV.eqF_in, PV.eqF_nn, PV.eqF_si, PV.eqF_is, PV.eqF_sn, PV.eqF_ns, PV.pEq, PV.pEqD, PV.isN, PV.pIsN, PV.Tg.d, PV.Tg.it, PV.Tg.itD, PV.Tg.ok, PV.pCat, PV.pRep, PV.pCatT, PV.pIn, PV.pNil, PV.pCons, PV.Tg.items, PV.pStar, PV.allD, PV.allS, PV.pTup, PV.pLst, PV.pNoPart, PV.pPart, PV.pSlL, PV.pSlT, PV.pCB, PV.pLen, PV.pLenS, PV.pI1, PV.pI10, PV.pI2, PV.pInt1, PV.pBool1, PV.pS1, PV.pListOf, PV.pTupOf, PV.tyD, PV.pIsi, PV.bD, PV.pAndV, PV.pOrV, PV.pNotV, PV.pIfE, PV.pT, PV.pAnd, PV.pOr, PV.pNot, PV.truD, PV.pTru, PV.pNotT, PV.pChain, PV.pThree, PV.Rs.arg, PV.lend, PV.pCall, PV.pCall0, PV.pIt, PV.pItT, PV.pRg1, PV.pRg2, PV.pRg3, PV.pEnum, PV.pZip, PV.pRev, PV.pStr, PV.setR, PV.pName, PV.pTgt, PV.pTgts, PV.pTg, PV.pNext, PV.pBreak, PV.pCont, PV.pSeq, PV.pShr, PV.pShrI, PV.shI, PV.pFgt, PV.fgt, PV.pAsg, PV.pExpr, PV.Rs.ret, PV.pRet, PV.pRetN, PV.pIf, PV.pFld, PV.pAug, PV.pPar, PV.pBM, PV.pBM0, PV.pAppend, PV.pExtend, PV.pExtT, PV.pClear, PV.pReverse, PV.pSetIx, PV.pFor, PV.wipeG, PV.pLc, PV.gG, PV.pGen, PV.pYes, PV.pSum, PV.pRaise, PV.pRaise1, PV.slA, PV.startG, PV.ends, PV.pRevL, PV.pSlS, PV.pSign, PV.pProp, PV.pMake, PV.pMake0, PV.pTry, PV.pRetD, PV.Rs.asD, PV.sg, PV.Sl.r, PV.dV, PV.flatD, PV.owns, PV.ownsOf_no, PV.ownsOf_dat, PV.ownsOf_obj, PV.ownsOf_own, PV.ownsOf_tab, PV.shr, PV.Sl.sh, PV.intsOf_map, PV.intsOf_app, PV.intsOf_nil, PV.intsOf_int, PV.isInts_map, PV.isInts_nil, PV.isInts_int, PV.isInts_mapL, PV.scr_key, PV.isiQ_s, PV.kit_int_int, PV.kit_int_bool, PV.kit_int_str, PV.kit_int_list, PV.kit_int_tuple, PV.kit_bool_int, PV.kit_bool_bool, PV.kit_bool_str, PV.kit_bool_list, PV.kit_bool_tuple, PV.kit_str_int, PV.kit_str_bool, PV.kit_str_str, PV.kit_str_list, PV.kit_str_tuple, PV.kit_list_int, PV.kit_list_bool, PV.kit_list_str, PV.kit_list_list, PV.kit_list_tuple, PV.kit_tuple_int, PV.kit_tuple_bool, PV.kit_tuple_str, PV.kit_tuple_list, PV.kit_tuple_tuple, PV.kit_NoneType_int, PV.kit_NoneType_bool, PV.kit_NoneType_str, PV.kit_NoneType_list, PV.kit_NoneType_tuple, PV.cutD_map, PV.allD_map, PV.allD_mapA, PV.allS_map, PV.allS_mapA, List.getElem?_cons_zero, List.getElem?_cons_succ, List.getElem?_nil, List.set_cons_zero, List.set_cons_succ, List.map_cons, List.map_nil, List.cons_append, List.nil_append, List.append_nil, List.length_cons, List.length_nil, List.length_map, List.length_append, List.length_replicate, PV.flat_rep, Nat.mul_one, Nat.one_mul, PV.rep_none, List.replicate_zero, List.all_cons, List.all_nil, cond_true, cond_false, Bool.and_true, Bool.true_and, Bool.and_false, Bool.false_and, Bool.not_true, Bool.not_false, Bool.not_not, if_true, if_false, ite_true, ite_false, true_and, and_true, true_implies, false_implies, reduceCtorEq, Nat.reduceAdd, Nat.reduceSub, Nat.reduceLT, Nat.reduceLeDiff, Bool.false_eq_true, decide_eq_true_eq, decide_eq_false_iff_not, Bool.not_eq_true, Bool.not_eq_false, Bool.not_eq_true', Bool.not_eq_false', Bool.true_eq_false, Option.map_some, Option.map_none, decide_true, decide_false, not_true_eq_false, not_false_eq_true, implies_true, forall_const, eq_self, Nat.reduceEqDiff, beq_self_eq_true, ne_eq, Int.reduceEq, Int.reduceNe, Int.reduceLT, Int.reduceLE, Int.reduceGT, Int.reduceGE, Int.reduceToNat, Int.reduceAdd, Int.reduceNeg, Nat.reduceLT, Nat.reduceLeDiff, Nat.reduceAdd, Nat.reduceMul, false_and, and_false, and_self, true_and, and_true, false_implies, PV.at0, PV.at1, PV.at2, PV.at3, PV.at4, PV.at5, Option.some.injEq, exists_eq_left', exists_eq_left, ho4, ho5, ho6]
      refine ⟨fun hz => ⟨by decide, small (by omega), ?_⟩, fun hz => ?_⟩
      · have e : out.map stepD ++ [PyData.tuple [.str (Str.ofString "keep"), .int (left : Int)]] = (out ++ [Step.keep left]).map stepD := by rw [List.map_append]; rfl
        rw [e]
        have ht : taken (out ++ [Step.keep left]) = old.length := by rw [taken_snoc]; exact h1
        have ht2 : tot (out ++ [Step.keep left]) ≤ old.length + 4 * cells.length := by rw [tot_snoc]; show tot out + left ≤ _; omega
        refine kQ _ ht (by rw [List.length_append]; show out.length + 1 ≤ _; omega) (fun t ht => ?_) (Nat.le_trans (run_tot _ _) ht2) ht2
        rcases List.mem_append.mp ht with z | z
        · exact h3 t z
        · rw [List.mem_singleton.mp z]
          show 0 < left
          omega
      · have hl0 : left = 0 := by omega
        exact kQ _ (by omega) (by omega) h3 (Nat.le_trans (run_tot _ _) (by omega)) (by omega)
  · exact h.elim
def pLPatch : PV.PSp := fun as _ Q => match as with
  | [.v _ (.list es), .v _ (.list ds)] => PV.isInts es ∧ es.length ≤ 10000 ∧ ∃ ss : List Step, ds = ss.map stepD ∧ taken ss = es.length ∧ tot ss ≤ 10000 ∧ Q (.v .dat (.list ((run (PV.intsOf es) ss).map .int)))
  | _ => False
theorem ok__law_patch (T : Txt K mg) : Ok P w K mg base CX0 1 "_law_patch" ["old", "script"] (PV.spP K [] (PV.sg 2 pLPatch)) := by
  refine PV.pv_def T.d__law_patch sc__law_patch (fun as PX PQ h => h.1) fun f cdv A outer s H E hr => ?_
  have nd := sc__law_patch.nd
  refine ⟨_, _, (pss_cons (ps_set (i := 2) nd rfl (Or.inl rfl) (pe_lst pa_nil))
      (pss_cons (ps_set (i := 3) nd rfl (Or.inl rfl) pe_int)
      (pss_cons (ps_for PassesOwn.never rfl (pi_list (pv 1)) (pg_tup rfl (pgs_cons (pg_name (i := 4) nd rfl (Or.inl rfl)) (pgs_cons (pg_name (i := 5) nd rfl (Or.inl rfl)) pgs_nil)))
        (pss_one (ps_if (pt_cmpR op_eq (pv 4) pe_str (nomark _))
          (pss_one (ps_set (i := 2) nd rfl (Or.inl rfl) (pe_op op_cat (pv 2) (pe_callTy call_list_of (by rfl) T.n_list (by decide +kernel) (pa_cons (pv 5) pa_nil)))))
          (pss_cons (ps_if (pt_cmpR op_gt (pe_op op_add (pv 3) (pv 5)) (pe_callB call_len_seq (by rfl) T.n_len PySem.boot_len (pa_cons (pv 0) pa_nil)) (nomark _))
            (pss_one (ps_ret pe_non)) pss_nil)
          (pss_cons (ps_if (pt_cmpR op_eq (pv 4) pe_str (nomark _))
            (pss_one (ps_set (i := 2) nd rfl (Or.inl rfl) (pe_op op_cat (pv 2) (pe_slice sl_list (pv 0) (po_some (pv 3)) (po_some (pe_op op_add (pv 3) (pv 5))))))) pss_nil)
          (pss_one (ps_set (i := 3) nd rfl (Or.inl rfl) (pe_op op_add (pv 3) (pv 5)))))))))
      (pss_cons (ps_if (pt_cmpR op_lt (pv 3) (pe_callB call_len_seq (by rfl) T.n_len PySem.boot_len (pa_cons (pv 0) pa_nil)) (nomark _))
        (pss_one (ps_ret pe_non)) pss_nil)
      (pss_one (ps_ret (pv 2))))))),
    open PV in (ls_seq (ls_asg (le_lst la_nil) (lg_name (b := false)))
      (ls_seq (ls_asg le_c (lg_name (b := false)))
      (ls_seq (ls_for (li_list le_var) (lg_tgt (.tup (.cons (.name 4) (.cons (.name 5) .nil))))
      (ls_if (lt_test (le_op lr_eq le_var le_c))
      (ls_asg (le_op lr_cat le_var (le_cb lc_list (la_cons le_var la_nil))) (lg_name (b := false)))
      (ls_seq (ls_if (lt_test (le_op lr_I0 (le_op lr_I0 le_var le_var) (le_cb lc_len (la_cons le_var la_nil))))
      (ls_retD le_c)
      ls_next)
      (ls_seq (ls_if (lt_test (le_op lr_eq le_var le_c))
      (ls_asg (le_op lr_cat le_var (le_slL le_var (lo_some le_var) (lo_some (le_op lr_I0 le_var le_var)))) (lg_name (b := false)))
      ls_next)
      (ls_asg (le_op lr_I0 le_var le_var) (lg_name (b := false)))))))
      (ls_seq (ls_if (lt_test (le_op lr_I0 le_var (le_cb lc_len (la_cons le_var la_nil))))
      (ls_retD le_c)
      ls_next)
      (ls_retD le_var))))), fun as PX PQ h => ?_⟩
  replace h := h.2
  unfold pLPatch at h
  split at h
  · next t es t2 ds =>
    obtain ⟨hi, hl, ss, rfl, htk, htt, kQ⟩ := h
    unfold PV.isInts at hi
    generalize PV.intsOf es = old at *
    subst hi
    rw [List.length_map] at hl htk
    simp only [PV.pDivMod, PV.ownsOf_dic, PV.pDNew, PV.pDPut, PV.pDGet2, PV.pDGet, PV.pDIn, PV.pLenD, PV.keyD, PV.pSlScr, PV.pZipT, PV.pRngC, PV.pRngV, PV.pSt1, PV.pM0, PV.pZipS, PV.pM1, PV.pJoin, PV.pFmt, PV.pJoined, PV.pJs, PV.pBMV, PV.pCount, PV.pIndex, PV.pSetIx2, PV.pRetT, PV.pLcF, PV.mapL_inj, PV.pVar, PV.pC, PV.pOp, PV.pUn, PV.pII, PV.pII0, PV.pNeg, PV.pSS, PV.pSS0, PV.eqF_int, PV.eqF_str, PV.eqF_bool, PV.eqF_ni, PV.eqF_in, PV.eqF_nn, PV.eqF_si, PV.eqF_is, PV.eqF_sn, PV.eqF_ns, PV.pEq, PV.pEqD, PV.isN, PV.pIsN, PV.Tg.d, PV.Tg.it, PV.Tg.itD, PV.Tg.ok, PV.pCat, PV.pRep, PV.pCatT, PV.pIn, PV.pNil, PV.pCons, PV.Tg.items, PV.pStar, PV.allD, PV.allS, PV.pTup, PV.pLst, PV.pNoPart, PV.pPart, PV.pSlL, PV.pSlT, PV.pCB, PV.pLen, PV.pLenS, PV.pI1, PV.pI10, PV.pI2, PV.pInt1, PV.pBool1, PV.pS1, PV.pListOf, PV.pTupOf, PV.tyD, PV.pIsi, PV.bD, PV.pAndV, PV.pOrV, PV.pNotV, PV.pIfE, PV.pT, PV.pAnd, PV.pOr, PV.pNot, PV.truD, PV.pTru, PV.pNotT, PV.pChain, PV.pThree, PV.Rs.arg, PV.lend, PV.pCall, PV.pCall0, PV.pIt, PV.pItT, PV.pRg1, PV.pRg2, PV.pRg3, PV.pEnum, PV.pZip, PV.pRev, PV.pStr, PV.setR, PV.pName, PV.pTgt, PV.pTgts, PV.pTg, PV.pNext, PV.pBreak, PV.pCont, PV.pSeq, PV.pShr, PV.pShrI, PV.shI, PV.pFgt, PV.fgt, PV.pAsg, PV.pExpr, PV.Rs.ret, PV.pRet, PV.pRetN, PV.pIf, PV.pFld, PV.pAug, PV.pPar, PV.pBM, PV.pBM0, PV.pAppend, PV.pExtend, PV.pExtT, PV.pClear, PV.pReverse, PV.pSetIx, PV.pFor, PV.wipeG, PV.pLc, PV.gG, PV.pGen, PV.pYes, PV.pSum, PV.pRaise, PV.pRaise1, PV.slA, PV.startG, PV.ends, PV.pRevL, PV.pSlS, PV.pSign, PV.pProp, PV.pMake, PV.pMake0, PV.pTry, PV.pRetD, PV.Rs.asD, PV.sg, PV.Sl.r, PV.dV, PV.flatD, PV.owns, PV.ownsOf_no, PV.ownsOf_dat, PV.ownsOf_obj, PV.ownsOf_own, PV.ownsOf_tab, PV.shr, PV.Sl.sh, PV.intsOf_map, PV.intsOf_app, PV.intsOf_nil, PV.intsOf_int, PV.isInts_map, PV.isInts_nil, PV.isInts_int, PV.isInts_mapL, PV.scr_key, PV.isiQ_s, PV.kit_int_int, PV.kit_int_bool, PV.kit_int_str, PV.kit_int_list, PV.kit_int_tuple, PV.kit_bool_int, PV.kit_bool_bool, PV.kit_bool_str, PV.kit_bool_list, PV.kit_bool_tuple, PV.kit_str_int, PV.kit_str_bool, PV.kit_str_str, PV.kit_str_list, PV.kit_str_tuple, PV.kit_list_int, PV.kit_list_bool, PV.kit_list_str, PV.kit_list_list, PV.kit_list_tuple, PV.kit_tuple_int, PV.kit_tuple_bool, PV.kit_tuple_str, PV.kit_tuple_list, PV.kit_tuple_tuple, PV.kit_NoneType_int, PV.kit_NoneType_bool, PV.kit_NoneType_str, PV.kit_NoneType_list, PV.kit_NoneType_tuple, PV.cutD_map, PV.allD_map, PV.allD_mapA, PV.allS_map, PV.allS_mapA, List.getElem?_cons_zero, List.getElem?_cons_succ, List.getElem?_nil, List.set_cons_zero, List.set_cons_succ, List.map_cons, List.map_nil, List.cons_append, List.nil_append, List.append_nil, List.length_cons, List.length_nil, List.length_map, List.length_append, List.length_replicate, PV.flat_rep, Nat.mul_one, Nat.one_mul, PV.rep_none, List.replicate_zero, List.all_cons, List.all_nil, cond_true, cond_false, Bool.and_true, Bool.true_and, Bool.and_false, Bool.false_and, Bool.not_true, Bool.not_false, Bool.not_not, if_true, if_false, ite_true, ite_false, true_and, and_true, true_implies, false_implies, reduceCtorEq, Nat.reduceAdd, Nat.reduceSub, Nat.reduceLT, Nat.reduceLeDiff, Bool.false_eq_true, decide_eq_true_eq, decide_eq_false_iff_not, Bool.not_eq_true, Bool.not_eq_false, Bool.not_eq_true', Bool.not_eq_false', Bool.true_eq_false, Option.map_some, Option.map_none, decide_true, decide_false, not_true_eq_false, not_false_eq_true, implies_true, forall_const, eq_self, Nat.reduceEqDiff, beq_self_eq_true, ne_eq, Int.reduceEq, Int.reduceNe, Int.reduceLT, Int.reduceLE, Int.reduceGT, Int.reduceGE, Int.reduceToNat, Int.reduceAdd, Int.reduceNeg, Nat.reduceLT, Nat.reduceLeDiff, Nat.reduceAdd, Nat.reduceMul, false_and, and_false, and_self, true_and, and_true, false_implies, PV.at0, PV.at1, PV.at2, PV.at3, PV.at4, PV.at5, Option.some.injEq, exists_eq_left', exists_eq_left]
    refine ⟨by decide, PV.loop_inv ss (fun pre g => ∃ (o4 o5 : Option PV.Sl), (PV.ownsOf o4 = [] ∧ PV.ownsOf o5 = []) ∧
      g = [some (.dat (.list (old.map .int))), some (.dat (.list (ss.map stepD))), some (.dat (.list ((run old pre).map .int))), some (.dat (.int (taken pre : Int))), o4, o5]) ⟨none, none, ⟨rfl, rfl⟩, rfl⟩ ?_ ?_⟩
    · rintro pre a post _ e ⟨o4, o5, ⟨ho4, ho5⟩, rfl⟩ N hN
      have htt2 : tot pre + a.sz ≤ tot ss := by
        rw [e, show pre ++ a :: post = (pre ++ [a]) ++ post by simp, tot_app, tot_snoc]
        omega
      have htk2 : taken pre + a.tk ≤ old.length := by
        rw [← htk, e, show pre ++ a :: post = (pre ++ [a]) ++ post by simp, taken_app, taken_snoc]
        omega
      have hrt := run_tot pre old
      cases a with
      | add ys =>
        have hy : ys.length = (Step.add ys).sz := rfl
        simp only [PV.pDivMod, PV.ownsOf_dic, PV.pDNew, PV.pDPut, PV.pDGet2, PV.pDGet, PV.pDIn, PV.pLenD, PV.keyD, PV.pSlScr, PV.pZipT, PV.pRngC, PV.pRngV, PV.pSt1, PV.pM0, PV.pZipS, PV.pM1, PV.pJoin, PV.pFmt, PV.pJoined, PV.pJs, PV.pBMV, PV.pCount, PV.pIndex, PV.pSetIx2, PV.pRetT, PV.pLcF, PV.mapL_inj, PV.pVar, PV.pC, PV.pOp, PV.pUn, PV.pII, PV.pII0, PV.pNeg, PV.pSS, PV.pSS0, PV.eqF_int, PV.eqF_str, PV.eqF_bool, PV.eqF_ni, PV.eqF_in, PV.eqF_nn, PV.eqF_si, PV.eqF_is, PV.eqF_sn, PV.eqF_ns, PV.pEq, PV.pEqD, PV.isN, PV.pIsN, PV.Tg.d, PV.Tg.it, PV.Tg.itD, PV.Tg.ok, PV.pCat, PV.pRep, PV.pCatT, PV.pIn, PV.pNil, PV.pCons, PV.Tg.items, PV.pStar, PV.allD, PV.allS, PV.pTup, PV.pLst, PV.pNoPart, PV.pPart, PV.pSlL, PV.pSlT, PV.pCB, PV.pLen, PV.pLenS, PV.pI1, PV.pI10, PV.pI2, PV.pInt1, PV.pBool1, PV.pS1, PV.pListOf, PV.pTupOf, PV.tyD, PV.pIsi, PV.bD, PV.pAndV, PV.pOrV, PV.pNotV, PV.pIfE, PV.pT, PV.pAnd, PV.pOr, PV.pNot, PV.truD, PV.pTru, PV.pNotT, PV.pChain, PV.pThree, PV.Rs.arg, PV.lend, PV.pCall, PV.pCall0, PV.pIt, PV.pItT, PV.pRg1, PV.pRg2, PV.pRg3, PV.pEnum, PV.pZip, PV.pRev, PV.pStr, PV.setR, PV.pName, PV.pTgt, PV.pTgts, PV.pTg, PV.pNext, PV.pBreak, PV.pCont, PV.pSeq, PV.pShr, PV.pShrI, PV.shI, PV.pFgt, PV.fgt, PV.pAsg, PV.pExpr, PV.Rs.ret, PV.pRet, PV.pRetN, PV.pIf, PV.pFld, PV.pAug, PV.pPar, PV.pBM, PV.pBM0, PV.pAppend, PV.pExtend, PV.pExtT, PV.pClear, PV.pReverse, PV.pSetIx, PV.pFor, PV.wipeG, PV.pLc, PV.gG, PV.pGen, PV.pYes, PV.pSum, PV.pRaise, PV.pRaise1, PV.slA, PV.startG, PV.ends, PV.pRevL, PV.pSlS, PV.pSign, PV.pProp, PV.pMake, PV.pMake0, PV.pTry, PV.pRetD, PV.Rs.asD, PV.sg, PV.Sl.r, PV.dV, PV.flatD, PV.owns, PV.ownsOf_no, PV.ownsOf_dat, PV.ownsOf_obj, PV.ownsOf_own, PV.ownsOf_tab, PV.shr, PV.Sl.sh, PV.intsOf_map, PV.intsOf_app, PV.intsOf_nil, PV.intsOf_int, PV.isInts_map, PV.isInts_nil, PV.isInts_int, PV.isInts_mapL, PV.scr_key, PV.isiQ_s, PV.kit_int_int, PV.kit_int_bool, PV.kit_int_str, PV.kit_int_list, PV.kit_int_tuple, PV.kit_bool_int, PV.kit_bool_bool, PV.kit_bool_str, PV.kit_bool_list, PV.kit_bool_tuple, PV.kit_str_int, PV.kit_str_bool, PV.kit_str_str, PV.kit_str_list, PV.kit_str_tuple, PV.kit_list_int, PV.kit_list_bool, PV.kit_list_str, PV.kit_list_list, PV.kit_list_tuple, PV.kit_tuple_int, PV.kit_tuple_bool, PV.kit_tuple_str, PV.kit_tuple_list, PV.kit_tuple_tuple, PV.kit_NoneType_int, PV.kit_NoneType_bool, PV.kit_NoneType_str, PV.kit_NoneType_list, PV.kit_NoneType_tuple, PV.cutD_map, PV.allD_map, PV.allD_mapA, PV.allS_map, PV.allS_mapA, List.getElem?_cons_zero, List.getElem?_cons_succ, List.getElem?_nil, List.set_cons_zero, List.set_cons_succ, List.map_cons, List.map_nil, List.cons_append, List.nil_append, List.append_nil, List.length_cons, List.length_nil, List.length_map, List.length_append, List.length_replicate, PV.flat_rep, Nat.mul_one, Nat.one_mul, PV.rep_none, List.replicate_zero, List.all_cons, List.all_nil, cond_true, cond_false, Bool.and_true, Bool.true_and, Bool.and_false, Bool.false_and, Bool.not_true, Bool.not_false, Bool.not_not, if_true, if_false, ite_true, ite_false, true_and, and_true, true_implies, false_implies, reduceCtorEq, Nat.reduceAdd, Nat.reduceSub, Nat.reduceLT, Nat.reduceLeDiff, Bool.false_eq_true, decide_eq_true_eq, decide_eq_false_iff_not, Bool.not_eq_true, Bool.not_eq_false, Bool.not_eq_true', Bool.not_eq_false', Bool.true_eq_false, Option.map_some, Option.map_none, decide_true, decide_false, not_true_eq_false, not_false_eq_true, implies_true, forall_const, eq_self, Nat.reduceEqDiff, beq_self_eq_true, ne_eq, Int.reduceEq, Int.reduceNe, Int.reduceLT, Int.reduceLE, Int.reduceGT, Int.reduceGE, Int.reduceToNat, Int.reduceAdd, Int.reduceNeg, Nat.reduceLT, Nat.reduceLeDiff, Nat.reduceAdd, Nat.reduceMul, false_and, and_false, and_self, true_and, and_true, false_implies, PV.at0, PV.at1, PV.at2, PV.at3, PV.at4, PV.at5, Option.some.injEq, exists_eq_left', exists_eq_left, stepD]
        refine ⟨smallE (by omega), hN _ ⟨some (.dat (.str "add")), some (.dat (.tuple (ys.map .int))), ⟨rfl, rfl⟩, ?_⟩⟩
        rw [run_snoc, taken_snoc, List.map_append]
        rfl
      | keep n =>
        have hn : (Step.keep n).sz = n := rfl
        have hn2 : (Step.keep n).tk = n := rfl
        simp only [PV.pDivMod, PV.ownsOf_dic, PV.pDNew, PV.pDPut, PV.pDGet2, PV.pDGet, PV.pDIn, PV.pLenD, PV.keyD, PV.pSlScr, PV.pZipT, PV.pRngC, PV.pRngV, PV.pSt1, PV.pM0, PV.pZipS, PV.pM1, PV.pJoin, PV.pFmt, PV.pJoined, PV.pJs, PV.pBMV, PV.pCount, PV.pIndex, PV.pSetIx2, PV.pRetT, PV.pLcF, PV.mapL_inj, PV.pVar, PV.pC, PV.pOp, PV.pUn, PV.pII, PV.pII0, PV.pNeg, PV.pSS, PV.pSS0, PV.eqF_int, PV.eqF_str, PV.eqF_bool, PV.eqF_ni, PV.eqF_in, PV.eqF_nn, PV.eqF_si, PV.eqF_is, PV.eqF_sn, PV.eqF_ns, PV.pEq, PV.pEqD, PV.isN, PV.pIsN, PV.Tg.d, PV.Tg.it, PV.Tg.itD, PV.Tg.ok, PV.pCat, PV.pRep, PV.pCatT, PV.pIn, PV.pNil, PV.pCons, PV.Tg.items, PV.pStar, PV.allD, PV.allS, PV.pTup, PV.pLst, PV.pNoPart, PV.pPart, PV.pSlL, PV.pSlT, PV.pCB, PV.pLen, PV.pLenS, PV.pI1, PV.pI10, PV.pI2, PV.pInt1, PV.pBool1, PV.pS1, PV.pListOf, PV.pTupOf, PV.tyD, PV.pIsi, PV.bD, PV.pAndV, PV.pOrV, PV.pNotV, PV.pIfE, PV.pT, PV.pAnd, PV.pOr, PV.pNot, PV.truD, PV.pTru, PV.pNotT, PV.pChain, PV.pThree, PV.Rs.arg, PV.lend, PV.pCall, PV.pCall0, PV.pIt, PV.pItT, PV.pRg1, PV.pRg2, PV.pRg3, PV.pEnum, PV.pZip, PV.pRev, PV.pStr, PV.setR, PV.pName, PV.pTgt, PV.pTgts, PV.pTg, PV.pNext, PV.pBreak, PV.pCont, PV.pSeq, PV.pShr, PV.pShrI, PV.shI, PV.pFgt, PV.fgt, PV.pAsg, PV.pExpr, PV.Rs.ret, PV.pRet, PV.pRetN, PV.pIf, PV.pFld, PV.pAug, PV.pPar, PV.pBM, PV.pBM0, PV.pAppend, PV.pExtend, PV.pExtT, PV.pClear, PV.pReverse, PV.pSetIx, PV.pFor, PV.wipeG, PV.pLc, PV.gG, PV.pGen, PV.pYes, PV.pSum, PV.pRaise, PV.pRaise1, PV.slA, PV.startG, PV.ends, PV.pRevL, PV.pSlS, PV.pSign, PV.pProp, PV.pMake, PV.pMake0, PV.pTry, PV.pRetD, PV.Rs.asD, PV.sg, PV.Sl.r, PV.dV, PV.flatD, PV.owns, PV.ownsOf_no, PV.ownsOf_dat, PV.ownsOf_obj, PV.ownsOf_own, PV.ownsOf_tab, PV.shr, PV.Sl.sh, PV.intsOf_map, PV.intsOf_app, PV.intsOf_nil, PV.intsOf_int, PV.isInts_map, PV.isInts_nil, PV.isInts_int, PV.isInts_mapL, PV.scr_key, PV.isiQ_s, PV.kit_int_int, PV.kit_int_bool, PV.kit_int_str, PV.kit_int_list, PV.kit_int_tuple, PV.kit_bool_int, PV.kit_bool_bool, PV.kit_bool_str, PV.kit_bool_list, PV.kit_bool_tuple, PV.kit_str_int, PV.kit_str_bool, PV.kit_str_str, PV.kit_str_list, PV.kit_str_tuple, PV.kit_list_int, PV.kit_list_bool, PV.kit_list_str, PV.kit_list_list, PV.kit_list_tuple, PV.kit_tuple_int, PV.kit_tuple_bool, PV.kit_tuple_str, PV.kit_tuple_list, PV.kit_tuple_tuple, PV.kit_NoneType_int, PV.kit_NoneType_bool, PV.kit_NoneType_str, PV.kit_NoneType_list, PV.kit_NoneType_tuple, PV.cutD_map, PV.allD_map, PV.allD_mapA, PV.allS_map, PV.allS_mapA, List.getElem?_cons_zero, List.getElem?_cons_succ, List.getElem?_nil, List.set_cons_zero, List.set_cons_succ, List.map_cons, List.map_nil, List.cons_append, List.nil_append, List.append_nil, List.length_cons, List.length_nil, List.length_map, List.length_append, List.length_replicate, PV.flat_rep, Nat.mul_one, Nat.one_mul, PV.rep_none, List.replicate_zero, List.all_cons, List.all_nil, cond_true, cond_false, Bool.and_true, Bool.true_and, Bool.and_false, Bool.false_and, Bool.not_true, Bool.not_false, Bool.not_not, if_true, if_false, ite_true, ite_false, true_and, and_true, true_implies, false_implies, reduceCtorEq, Nat.reduceAdd, Nat.reduceSub, Nat.reduceLT, Nat.reduceLeDiff, Bool.false_eq_true, decide_eq_true_eq, decide_eq_false_iff_not, Bool.not_eq_true, Bool.not_eq_false, Bool.not_eq_true', Bool.not_eq_false', Bool.true_eq_false, Option.map_some, Option.map_none, decide_true, decide_false, not_true_eq_false, not_false_eq_true, implies_true, forall_const, eq_self, Nat.reduceEqDiff, beq_self_eq_true, ne_eq, Int.reduceEq, Int.reduceNe, Int.reduceLT, Int.reduceLE, Int.reduceGT, Int.reduceGE, Int.reduceToNat, Int.reduceAdd, Int.reduceNeg, Nat.reduceLT, Nat.reduceLeDiff, Nat.reduceAdd, Nat.reduceMul, false_and, and_false, and_self, true_and, and_true, false_implies, PV.at0, PV.at1, PV.at2, PV.at3, PV.at4, PV.at5, Option.some.injEq, exists_eq_left', exists_eq_left, stepD, s_ka, PV.cutD_map]
        rw [PV.cutL_mid (by omega) (by omega), Int.toNat_natCast, show ((taken pre : Int) + (n : Int)).toNat - taken pre = n by omega]
        refine ⟨fun z => by omega, fun z => ⟨smallE (by rw [List.length_take]; omega), hN _ ⟨some (.dat (.str "keep")), some (.dat (.int n)), ⟨rfl, rfl⟩, ?_⟩⟩⟩
        rw [run_snoc, taken_snoc, List.map_append, Int.natCast_add]
        rfl
      | drop n =>
        have hn2 : (Step.drop n).tk = n := rfl
        simp only [PV.pDivMod, PV.ownsOf_dic, PV.pDNew, PV.pDPut, PV.pDGet2, PV.pDGet, PV.pDIn, PV.pLenD, PV.keyD, PV.pSlScr, PV.pZipT, PV.pRngC, PV.pRngV, PV.pSt1, PV.pM0, PV.pZipS, PV.pM1, PV.pJoin, PV.pFmt, PV.pJoined, PV.pJs, PV.pBMV, PV.pCount, PV.pIndex, PV.pSetIx2, PV.pRetT, PV.pLcF, PV.mapL_inj, PV.pVar, PV.pC, PV.pOp, PV.pUn, PV.pII, PV.pII0, PV.pNeg, PV.pSS, PV.pSS0, PV.eqF_int, PV.eqF_str, PV.eqF_bool, PV.eqF_ni, PV.eqF_in, PV.eqF_nn, PV.eqF_si, PV.eqF_is, PV.eqF_sn, PV.eqF_ns, PV.pEq, PV.pEqD, PV.isN, PV.pIsN, PV.Tg.d, PV.Tg.it, PV.Tg.itD, PV.Tg.ok, PV.pCat, PV.pRep, PV.pCatT, PV.pIn, PV.pNil, PV.pCons, PV.Tg.items, PV.pStar, PV.allD, PV.allS, PV.pTup, PV.pLst, PV.pNoPart, PV.pPart, PV.pSlL, PV.pSlT, PV.pCB, PV.pLen, PV.pLenS, PV.pI1, PV.pI10, PV.pI2, PV.pInt1, PV.pBool1, PV.pS1, PV.pListOf, PV.pTupOf, PV.tyD, PV.pIsi, PV.bD, PV.pAndV, PV.pOrV, PV.pNotV, PV.pIfE, PV.pT, PV.pAnd, PV.pOr, PV.pNot, PV.truD, PV.pTru, PV.pNotT, PV.pChain, PV.pThree, PV.Rs.arg, PV.lend, PV.pCall, PV.pCall0, PV.pIt, PV.pItT, PV.pRg1, PV.pRg2, PV.pRg3, PV.pEnum, PV.pZip, PV.pRev, PV.pStr, PV.setR, PV.pName, PV.pTgt, PV.pTgts, PV.pTg, PV.pNext, PV.pBreak, PV.pCont, PV.pSeq, PV.pShr, PV.pShrI, PV.shI, PV.pFgt, PV.fgt, PV.pAsg, PV.pExpr, PV.Rs.ret, PV.pRet, PV.pRetN, PV.pIf, PV.pFld, PV.pAug, PV.pPar, PV.pBM, PV.pBM0, PV.pAppend, PV.pExtend, PV.pExtT, PV.pClear, PV.pReverse, PV.pSetIx, PV.pFor, PV.wipeG, PV.pLc, PV.gG, PV.pGen, PV.pYes, PV.pSum, PV.pRaise, PV.pRaise1, PV.slA, PV.startG, PV.ends, PV.pRevL, PV.pSlS, PV.pSign, PV.pProp, PV.pMake, PV.pMake0, PV.pTry, PV.pRetD, PV.Rs.asD, PV.sg, PV.Sl.r, PV.dV, PV.flatD, PV.owns, PV.ownsOf_no, PV.ownsOf_dat, PV.ownsOf_obj, PV.ownsOf_own, PV.ownsOf_tab, PV.shr, PV.Sl.sh, PV.intsOf_map, PV.intsOf_app, PV.intsOf_nil, PV.intsOf_int, PV.isInts_map, PV.isInts_nil, PV.isInts_int, PV.isInts_mapL, PV.scr_key, PV.isiQ_s, PV.kit_int_int, PV.kit_int_bool, PV.kit_int_str, PV.kit_int_list, PV.kit_int_tuple, PV.kit_bool_int, PV.kit_bool_bool, PV.kit_bool_str, PV.kit_bool_list, PV.kit_bool_tuple, PV.kit_str_int, PV.kit_str_bool, PV.kit_str_str, PV.kit_str_list, PV.kit_str_tuple, PV.kit_list_int, PV.kit_list_bool, PV.kit_list_str, PV.kit_list_list, PV.kit_list_tuple, PV.kit_tuple_int, PV.kit_tuple_bool, PV.kit_tuple_str, PV.kit_tuple_list, PV.kit_tuple_tuple, PV.kit_NoneType_int, PV.kit_NoneType_bool, PV.kit_NoneType_str, PV.kit_NoneType_list, PV.kit_NoneType_tuple, PV.cutD_map, PV.allD_map, PV.allD_mapA, PV.allS_map, PV.allS_mapA, List.getElem?_cons_zero, List.getElem?_cons_succ, List.getElem?_nil, List.set_cons_zero, List.set_cons_succ, List.map_cons, List.map_nil, List.cons_append, List.nil_append, List.append_nil, List.length_cons, List.length_nil, List.length_map, List.length_append, List.length_replicate, PV.flat_rep, Nat.mul_one, Nat.one_mul, PV.rep_none, List.replicate_zero, List.all_cons, List.all_nil, cond_true, cond_false, Bool.and_true, Bool.true_and, Bool.and_false, Bool.false_and, Bool.not_true, Bool.not_false, Bool.not_not, if_true, if_false, ite_true, ite_false, true_and, and_true, true_implies, false_implies, reduceCtorEq, Nat.reduceAdd, Nat.reduceSub, Nat.reduceLT, Nat.reduceLeDiff, Bool.false_eq_true, decide_eq_true_eq, decide_eq_false_iff_not, Bool.not_eq_true, Bool.not_eq_false, Bool.not_eq_true', Bool.not_eq_false', Bool.true_eq_false, Option.map_some, Option.map_none, decide_true, decide_false, not_true_eq_false, not_false_eq_true, implies_true, forall_const, eq_self, Nat.reduceEqDiff, beq_self_eq_true, ne_eq, Int.reduceEq, Int.reduceNe, Int.reduceLT, Int.reduceLE, Int.reduceGT, Int.reduceGE, Int.reduceToNat, Int.reduceAdd, Int.reduceNeg, Nat.reduceLT, Nat.reduceLeDiff, Nat.reduceAdd, Nat.reduceMul, false_and, and_false, and_self, true_and, and_true, false_implies, PV.at0, PV.at1, PV.at2, PV.at3, PV.at4, PV.at5, Option.some.injEq, exists_eq_left', exists_eq_left, stepD, s_da, s_dk]
        refine ⟨fun z => by omega, fun z => hN _ ⟨some (.dat (.str "drop")), some (.dat (.int n)), ⟨rfl, rfl⟩, ?_⟩⟩
        rw [run_snoc, taken_snoc, Int.natCast_add, show piece (old.drop (taken pre)) (.drop n) = [] from rfl, List.append_nil]
        rfl
    · rintro _ ⟨o4, o5, ⟨ho4, ho5⟩, rfl⟩
      simp only [PV.pDivMod, PV.ownsOf_dic, PV.pDNew, PV.pDPut, PV.pDGet2, PV.pDGet, PV.pDIn, PV.pLenD, PV.keyD, PV.pSlScr, PV.pZipT, PV.pRngC, PV.pRngV, PV.pSt1, PV.pM0, PV.pZipS, PV.pM1, PV.pJoin, PV.pFmt, PV.pJoined, PV.pJs, PV.pBMV, PV.pCount, PV.pIndex, PV.pSetIx2, PV.pRetT, PV.pLcF, PV.mapL_inj, PV.pVar, PV.pC, PV.pOp, PV.pUn, PV.pII, PV.pII0, PV.pNeg, PV.pSS, PV.pSS0, PV.eqF_int, PV.eqF_str, PV.eqF_bool, PV.eqF_ni, PV.eqF_in, PV.eqF_nn, PV.eqF_si, PV.eqF_is, PV.eqF_sn, PV.eqF_ns, PV.pEq, PV.pEqD, PV.isN, PV.pIsN, PV.Tg.d, PV.Tg.it, PV.Tg.itD, PV.Tg.ok, PV.pCat, PV.pRep, PV.pCatT, PV.pIn, PV.pNil, PV.pCons, PV.Tg.items, PV.pStar, PV.allD, PV.allS, PV.pTup, PV.pLst, PV.pNoPart, PV.pPart, PV.pSlL, PV.pSlT, PV.pCB, PV.pLen, PV.pLenS, PV.pI1, PV.pI10, PV.pI2, PV.pInt1, PV.pBool1, PV.pS1, PV.pListOf, PV.pTupOf, PV.tyD, PV.pIsi, PV.bD, PV.pAndV, PV.pOrV, PV.pNotV, PV.pIfE, PV.pT, PV.pAnd, PV.pOr, PV.pNot, PV.truD, PV.pTru, PV.pNotT, PV.pChain, PV.pThree, PV.Rs.arg, PV.lend, PV.pCall, PV.pCall0, PV.pIt, PV.pItT, PV.pRg1, PV.pRg2, PV.pRg3, PV.pEnum, PV.pZip, PV.pRev, PV.pStr, PV.setR, PV.pName, PV.pTgt, PV.pTgts, PV.pTg, PV.pNext, PV.pBreak, PV.pCont, PV.pSeq, PV.pShr, PV.pShrI, PV.shI, PV.pFgt, PV.fgt, PV.pAsg, PV.pExpr, PV.Rs.ret, PV.pRet, PV.pRetN, PV.pIf, PV.pFld, PV.pAug, PV.pPar, PV.pBM, PV.pBM0, PV.pAppend, PV.pExtend, PV.pExtT, PV.pClear, PV.pReverse, PV.pSetIx, PV.pFor, PV.wipeG, PV.pLc, PV.gG, PV.pGen, PV.pYes, PV.pSum, PV.pRaise, PV.pRaise1, PV.slA, PV.startG, PV.ends, PV.pRevL, PV.pSlS, PV.pSign, PV.pProp, PV.pMake, PV.pMake0, PV.pTry, PV.pRetD, PV.Rs.asD, PV.sg, PV.Sl.r, PV.dV, PV.flatD, PV.owns, PV.ownsOf_no, PV.ownsOf_dat, PV.ownsOf_obj, PV.ownsOf_own, PV.ownsOf_tab, PV.shr, PV.Sl.sh, PV.intsOf_map, PV.intsOf_app, PV.intsOf_nil, PV.intsOf_int, PV.isInts_map, PV.isInts_nil, PV.isInts_int, PV.isInts_mapL, PV.scr_key, PV.isiQ_s, PV.kit_int_int, PV.kit_int_bool, PV.kit_int_str, PV.kit_int_list, PV.kit_int_tuple, PV.kit_bool_int, PV.kit_bool_bool, PV.kit_bool_str, PV.kit_bool_list, PV.kit_bool_tuple, PV.kit_str_int, PV.kit_str_bool, PV.kit_str_str, PV.kit_str_list, PV.kit_str_tuple, PV.kit_list_int, PV.kit_list_bool, PV.kit_list_str, PV.kit_list_list, PV.kit_list_tuple, PV.kit_tuple_int, PV.kit_tuple_bool, PV.kit_tuple_str, PV.kit_tuple_list, PV.kit_tuple_tuple, PV.kit_NoneType_int, PV.kit_NoneType_bool, PV.kit_NoneType_str, PV.kit_NoneType_list, PV.kit_NoneType_tuple, PV.cutD_map, PV.allD_map, PV.allD_mapA, PV.allS_map, PV.allS_mapA, List.getElem?_cons_zero, List.getElem?_cons_succ, List.getElem?_nil, List.set_cons_zero, List.set_cons_succ, List.map_cons, List.map_nil, List.cons_append, List.nil_append, List.append_nil, List.length_cons, List.length_nil, List.length_map, List.length_append, List.length_replicate, PV.flat_rep, Nat.mul_one, Nat.one_mul, PV.rep_none, List.replicate_zero, List.all_cons, List.all_nil, cond_true, cond_false, Bool.and_true, Bool.true_and, Bool.and_false, Bool.false_and, Bool.not_true, Bool.not_false, Bool.not_not, if_true, if_false, ite_true, ite_false, true_and, and_true, true_implies, false_implies, reduceCtorEq, Nat.reduceAdd, Nat.reduceSub, Nat.reduceLT, Nat.reduceLeDiff, Bool.false_eq_true, decide_eq_true_eq, decide_eq_false_iff_not, Bool.not_eq_true, Bool.not_eq_false, Bool.not_eq_true', Bool.not_eq_false', Bool.true_eq_false, Option.map_some, Option.map_none, decide_true, decide_false, not_true_eq_false, not_false_eq_true, implies_true, forall_const, eq_self, Nat.reduceEqDiff, beq_self_eq_true, ne_eq, Int.reduceEq, Int.reduceNe, Int.reduceLT, Int.reduceLE, Int.reduceGT, Int.reduceGE, Int.reduceToNat, Int.reduceAdd, Int.reduceNeg, Nat.reduceLT, Nat.reduceLeDiff, Nat.reduceAdd, Nat.reduceMul, false_and, and_false, and_self, true_and, and_true, false_implies, PV.at0, PV.at1, PV.at2, PV.at3, PV.at4, PV.at5, Option.some.injEq, exists_eq_left', exists_eq_left, ho4, ho5]
      exact ⟨fun z => by omega, fun _ => kQ⟩
  · exact h.elim
def pIsNormal : PV.PSp := fun as _ Q => match as with
  | [.v _ (.list ds)] => ∃ ss : List Step, ds = ss.map stepD ∧ nfOk "" ss ∧ Q (.v .dat (.bool true))
  | _ => False
theorem ok__law_is_normal (T : Txt K mg) : Ok P w K mg base CX0 2 "_law_is_normal" ["script"] (PV.spP K [] (PV.sg 1 pIsNormal)) := by
  have G__law_is_int := ok__law_is_int (P := P) (w := w) (base := base) T
  refine PV.pv_def T.d__law_is_normal sc__law_is_normal (fun as PX PQ h => h.1) fun f cdv A outer s H E hr => ?_
  have nd := sc__law_is_normal.nd
  refine ⟨_, _, (pss_cons (ps_if (pt_not (pt_val (pe_callB call_isi (by rfl) T.n_isinstance (by decide +kernel) (pa_cons (pv 0) (pa_cons (pe_bltn (v := .ty "list") (by rfl) T.n_list (by decide +kernel) rfl) pa_nil)))))
        (pss_one (ps_ret pe_bl)) pss_nil)
      (pss_cons (ps_set (i := 1) nd rfl (Or.inl rfl) pe_str)
      (pss_cons (ps_for PassesOwn.never rfl (pi_list (pv 0)) (pg_name (i := 2) nd rfl (Or.inl rfl))
        (pss_cons (ps_if (PW.pt (pw_or (pt_not (pt_val (pe_callB call_isi (by rfl) T.n_isinstance (by decide +kernel) (pa_cons (pv 2) (pa_cons (pe_bltn (v := .ty "tuple") (by rfl) T.n_tuple (by decide +kernel) rfl) pa_nil))))) (pw_or (pt_cmpR op_ne (pe_callB call_len_seq (by rfl) T.n_len PySem.boot_len (pa_cons (pv 2) pa_nil)) pe_int (nomark _)) (pw_or1 (pt_cmpR op_eq (pe_ix ix_tup (pv 2) pe_int (fun _ _ => rfl)) (pv 1) (nomark _))))))
          (pss_one (ps_ret pe_bl)) pss_nil)
        (pss_cons (ps_if (pt_cmpR op_eq (pe_ix ix_tup (pv 2) pe_int (fun _ _ => rfl)) pe_str (nomark _))
          (pss_one (ps_if (PW.pt (pw_or (pt_not (pt_val (pe_callB call_isi (by rfl) T.n_isinstance (by decide +kernel) (pa_cons (pe_ix ix_tup (pv 2) pe_int (fun _ _ => rfl)) (pa_cons (pe_bltn (v := .ty "tuple") (by rfl) T.n_tuple (by decide +kernel) rfl) pa_nil))))) (pw_or1 (pt_cmpR op_eq (pe_callB call_len_seq (by rfl) T.n_len PySem.boot_len (pa_cons (pe_ix ix_tup (pv 2) pe_int (fun _ _ => rfl)) pa_nil)) pe_int (nomark _)))))
            (pss_one (ps_ret pe_bl)) pss_nil))
          (pss_one (ps_if (PW.pt (pw_and (pt_cmpR op_ne (pe_ix ix_tup (pv 2) pe_int (fun _ _ => rfl)) pe_str (nomark _)) (pw_and1 (pt_cmpR op_ne (pe_ix ix_tup (pv 2) pe_int (fun _ _ => rfl)) pe_str (nomark _)))))
            (pss_one (ps_ret pe_bl))
            (pss_one (ps_if (PW.pt (pw_or (pt_not (pt_val (pe_callO G__law_is_int (hr.mono (by decide)) pass0 (pa_cons (pe_ix ix_tup (pv 2) pe_int (fun _ _ => rfl)) pa_nil)))) (pw_or (pt_cmpR op_lt (pe_ix ix_tup (pv 2) pe_int (fun _ _ => rfl)) pe_int (nomark _)) (pw_or1 (PW.pt (pw_and (pt_cmpR op_eq (pe_ix ix_tup (pv 2) pe_int (fun _ _ => rfl)) pe_str (nomark _)) (pw_and1 (pt_cmpR op_eq (pv 1) pe_str (nomark _)))))))))
              (pss_one (ps_ret pe_bl)) pss_nil)))))
        (pss_one (ps_set (i := 1) nd rfl (Or.inl rfl) (pe_ix ix_tup (pv 2) pe_int (fun _ _ => rfl)))))))
      (pss_one (ps_ret pe_bl))))),
    open PV in (ls_seq (ls_if (lt_not (lt_B (le_isi le_var)))
      (ls_retD le_c)
      ls_next)
      (ls_seq (ls_asg le_c (lg_name (b := false)))
      (ls_seq (ls_for (li_list le_var) (lg_tgt (.name 2))
      (ls_seq (ls_if (lt_or (lt_not (lt_B (le_isi le_var))) (lt_or (lt_test (le_op lr_ne (le_cb lc_len (la_cons le_var la_nil)) le_c)) (lt_test (le_op lr_eq (le_op lr_ixT le_var le_c) le_var))))
      (ls_retD le_c)
      ls_next)
      (ls_seq (ls_if (lt_test (le_op lr_eq (le_op lr_ixT le_var le_c) le_c))
      (ls_if (lt_or (lt_not (lt_B (le_isi (le_op lr_ixT le_var le_c)))) (lt_test (le_op lr_eq (le_cb lc_len (la_cons (le_op lr_ixT le_var le_c) la_nil)) le_c)))
      (ls_retD le_c)
      ls_next)
      (ls_if (lt_and (lt_test (le_op lr_ne (le_op lr_ixT le_var le_c) le_c)) (lt_test (le_op lr_ne (le_op lr_ixT le_var le_c) le_c)))
      (ls_retD le_c)
      (ls_if (lt_or (lt_not (lt_B (le_call0 spok (la_cons (le_op lr_ixT le_var le_c) la_nil)))) (lt_or (lt_test (le_op lr_I0 (le_op lr_ixT le_var le_c) le_c)) (lt_and (lt_test (le_op lr_eq (le_op lr_ixT le_var le_c) le_c)) (lt_test (le_op lr_eq le_var le_c)))))
      (ls_retD le_c)
      ls_next)))
      (ls_asg (le_op lr_ixT le_var le_c) (lg_name (b := false))))))
      (ls_retD le_c)))), fun as PX PQ h => ?_⟩
  replace h := h.2
  unfold pIsNormal at h
  split at h
  · next t ds =>
    obtain ⟨ss, rfl, hnf, kQ⟩ := h
    simp only [PV.pDivMod, PV.ownsOf_dic, PV.pDNew, PV.pDPut, PV.pDGet2, PV.pDGet, PV.pDIn, PV.pLenD, PV.keyD, PV.pSlScr, PV.pZipT, PV.pRngC, PV.pRngV, PV.pSt1, PV.pM0, PV.pZipS, PV.pM1, PV.pJoin, PV.pFmt, PV.pJoined, PV.pJs, PV.pBMV, PV.pCount, PV.pIndex, PV.pSetIx2, PV.pRetT, PV.pLcF, PV.mapL_inj, PV.pVar, PV.pC, PV.pOp, PV.pUn, PV.pII, PV.pII0, PV.pNeg, PV.pSS, PV.pSS0, PV.eqF_int, PV.eqF_str, PV.eqF_bool, PV.eqF_ni, PV.eqF_in, PV.eqF_nn, PV.eqF_si, PV.eqF_is, PV.eqF_sn, PV.eqF_ns, PV.pEq, PV.pEqD, PV.isN, PV.pIsN, PV.Tg.d, PV.Tg.it, PV.Tg.itD, PV.Tg.ok, PV.pCat, PV.pRep, PV.pCatT, PV.pIn, PV.pNil, PV.pCons, PV.Tg.items, PV.pStar, PV.allD, PV.allS, PV.pTup, PV.pLst, PV.pNoPart, PV.pPart, PV.pSlL, PV.pSlT, PV.pCB, PV.pLen, PV.pLenS, PV.pI1, PV.pI10, PV.pI2, PV.pInt1, PV.pBool1, PV.pS1, PV.pListOf, PV.pTupOf, PV.tyD, PV.pIsi, PV.bD, PV.pAndV, PV.pOrV, PV.pNotV, PV.pIfE, PV.pT, PV.pAnd, PV.pOr, PV.pNot, PV.truD, PV.pTru, PV.pNotT, PV.pChain, PV.pThree, PV.Rs.arg, PV.lend, PV.pCall, PV.pCall0, PV.pIt, PV.pItT, PV.pRg1, PV.pRg2, PV.pRg3, PV.pEnum, PV.pZip, PV.pRev, PV.pStr, PV.setR, PV.pName, PV.pTgt, PV.pTgts, PV.pTg, PV.pNext, PV.pBreak, PV.pCont, PV.pSeq, PV.pShr, PV.pShrI, PV.shI, PV.pFgt, PV.fgt, PV.pAsg, PV.pExpr, PV.Rs.ret, PV.pRet, PV.pRetN, PV.pIf, PV.pFld, PV.pAug, PV.pPar, PV.pBM, PV.pBM0, PV.pAppend, PV.pExtend, PV.pExtT, PV.pClear, PV.pReverse, PV.pSetIx, PV.pFor, PV.wipeG, PV.pLc, PV.gG, PV.pGen, PV.pYes, PV.pSum, PV.pRaise, PV.pRaise1, PV.slA, PV.startG, PV.ends, PV.pRevL, PV.pSlS, PV.pSign, PV.pProp, PV.pMake, PV.pMake0, PV.pTry, PV.pRetD, PV.Rs.asD, PV.sg, PV.Sl.r, PV.dV, PV.flatD, PV.owns, PV.ownsOf_no, PV.ownsOf_dat, PV.ownsOf_obj, PV.ownsOf_own, PV.ownsOf_tab, PV.shr, PV.Sl.sh, PV.intsOf_map, PV.intsOf_app, PV.intsOf_nil, PV.intsOf_int, PV.isInts_map, PV.isInts_nil, PV.isInts_int, PV.isInts_mapL, PV.scr_key, PV.isiQ_s, PV.kit_int_int, PV.kit_int_bool, PV.kit_int_str, PV.kit_int_list, PV.kit_int_tuple, PV.kit_bool_int, PV.kit_bool_bool, PV.kit_bool_str, PV.kit_bool_list, PV.kit_bool_tuple, PV.kit_str_int, PV.kit_str_bool, PV.kit_str_str, PV.kit_str_list, PV.kit_str_tuple, PV.kit_list_int, PV.kit_list_bool, PV.kit_list_str, PV.kit_list_list, PV.kit_list_tuple, PV.kit_tuple_int, PV.kit_tuple_bool, PV.kit_tuple_str, PV.kit_tuple_list, PV.kit_tuple_tuple, PV.kit_NoneType_int, PV.kit_NoneType_bool, PV.kit_NoneType_str, PV.kit_NoneType_list, PV.kit_NoneType_tuple, PV.cutD_map, PV.allD_map, PV.allD_mapA, PV.allS_map, PV.allS_mapA, List.getElem?_cons_zero, List.getElem?_cons_succ, List.getElem?_nil, List.set_cons_zero, List.set_cons_succ, List.map_cons, List.map_nil, List.cons_append, List.nil_append, List.append_nil, List.length_cons, List.length_nil, List.length_map, List.length_append, List.length_replicate, PV.flat_rep, Nat.mul_one, Nat.one_mul, PV.rep_none, List.replicate_zero, List.all_cons, List.all_nil, cond_true, cond_false, Bool.and_true, Bool.true_and, Bool.and_false, Bool.false_and, Bool.not_true, Bool.not_false, Bool.not_not, if_true, if_false, ite_true, ite_false, true_and, and_true, true_implies, false_implies, reduceCtorEq, Nat.reduceAdd, Nat.reduceSub, Nat.reduceLT, Nat.reduceLeDiff, Bool.false_eq_true, decide_eq_true_eq, decide_eq_false_iff_not, Bool.not_eq_true, Bool.not_eq_false, Bool.not_eq_true', Bool.not_eq_false', Bool.true_eq_false, Option.map_some, Option.map_none, decide_true, decide_false, not_true_eq_false, not_false_eq_true, implies_true, forall_const, eq_self, Nat.reduceEqDiff, beq_self_eq_true, ne_eq, Int.reduceEq, Int.reduceNe, Int.reduceLT, Int.reduceLE, Int.reduceGT, Int.reduceGE, Int.reduceToNat, Int.reduceAdd, Int.reduceNeg, Nat.reduceLT, Nat.reduceLeDiff, Nat.reduceAdd, Nat.reduceMul, false_and, and_false, and_self, true_and, and_true, false_implies, PV.at0, PV.at1, PV.at2, PV.at3, PV.at4, PV.at5, Option.some.injEq, exists_eq_left', exists_eq_left]
    refine PV.loop_inv ss (fun pre g => ∃ (b : Str) (o2 : Option PV.Sl), (∀ post, ss = pre ++ post → nfOk b post) ∧ PV.ownsOf o2 = [] ∧ g = [some (.dat (.list (ss.map stepD))), some (.dat (.str b)), o2]) ⟨"", none, fun post e => by (rw [e] at hnf; exact hnf), rfl, rfl⟩ ?_ ?_
    · rintro pre a post _ e ⟨b, o2, hok, ho2, rfl⟩ N hN
      have ho := hok _ e
      obtain ⟨g1, g2, g3, g4⟩ := ho
      have fin : N [some (.dat (.list (ss.map stepD))), some (.dat (.str a.kd)), some (.dat (stepD a))] := hN _ ⟨a.kd, _, fun post2 e2 => by (have := hok (a :: post2) (e2.trans (by simp)); exact this.2.2.2), rfl, rfl⟩
      cases a with
      | add ys =>
        have gb : (Str.ofString "add" = b) = False := eq_false g1
        simp only [PV.pDivMod, PV.ownsOf_dic, PV.pDNew, PV.pDPut, PV.pDGet2, PV.pDGet, PV.pDIn, PV.pLenD, PV.keyD, PV.pSlScr, PV.pZipT, PV.pRngC, PV.pRngV, PV.pSt1, PV.pM0, PV.pZipS, PV.pM1, PV.pJoin, PV.pFmt, PV.pJoined, PV.pJs, PV.pBMV, PV.pCount, PV.pIndex, PV.pSetIx2, PV.pRetT, PV.pLcF, PV.mapL_inj, PV.pVar, PV.pC, PV.pOp, PV.pUn, PV.pII, PV.pII0, PV.pNeg, PV.pSS, PV.pSS0, PV.eqF_int, PV.eqF_str, PV.eqF_bool, PV.eqF_ni, PV.eqF_in, PV.eqF_nn, PV.eqF_si, PV.eqF_is, PV.eqF_sn, PV.eqF_ns, PV.pEq, PV.pEqD, PV.isN, PV.pIsN, PV.Tg.d, PV.Tg.it, PV.Tg.itD, PV.Tg.ok, PV.pCat, PV.pRep, PV.pCatT, PV.pIn, PV.pNil, PV.pCons, PV.Tg.items, PV.pStar, PV.allD, PV.allS, PV.pTup, PV.pLst, PV.pNoPart, PV.pPart, PV.pSlL, PV.pSlT, PV.pCB, PV.pLen, PV.pLenS, PV.pI1, PV.pI10, PV.pI2, PV.pInt1, PV.pBool1, PV.pS1, PV.pListOf, PV.pTupOf, PV.tyD, PV.pIsi, PV.bD, PV.pAndV, PV.pOrV, PV.pNotV, PV.pIfE, PV.pT, PV.pAnd, PV.pOr, PV.pNot, PV.truD, PV.pTru, PV.pNotT, PV.pChain, PV.pThree, PV.Rs.arg, PV.lend, PV.pCall, PV.pCall0, PV.pIt, PV.pItT, PV.pRg1, PV.pRg2, PV.pRg3, PV.pEnum, PV.pZip, PV.pRev, PV.pStr, PV.setR, PV.pName, PV.pTgt, PV.pTgts, PV.pTg, PV.pNext, PV.pBreak, PV.pCont, PV.pSeq, PV.pShr, PV.pShrI, PV.shI, PV.pFgt, PV.fgt, PV.pAsg, PV.pExpr, PV.Rs.ret, PV.pRet, PV.pRetN, PV.pIf, PV.pFld, PV.pAug, PV.pPar, PV.pBM, PV.pBM0, PV.pAppend, PV.pExtend, PV.pExtT, PV.pClear, PV.pReverse, PV.pSetIx, PV.pFor, PV.wipeG, PV.pLc, PV.gG, PV.pGen, PV.pYes, PV.pSum, PV.pRaise, PV.pRaise1, PV.slA, PV.startG, PV.ends, PV.pRevL, PV.pSlS, PV.pSign, PV.pProp, PV.pMake, PV.pMake0, PV.pTry, PV.pRetD, PV.Rs.asD, PV.sg, PV.Sl.r, PV.dV, PV.flatD, PV.owns, PV.ownsOf_no, PV.ownsOf_dat, PV.ownsOf_obj, PV.ownsOf_own, PV.ownsOf_tab, PV.shr, PV.Sl.sh, PV.intsOf_map, PV.intsOf_app, PV.intsOf_nil, PV.intsOf_int, PV.isInts_map, PV.isInts_nil, PV.isInts_int, PV.isInts_mapL, PV.scr_key, PV.isiQ_s, PV.kit_int_int, PV.kit_int_bool, PV.kit_int_str, PV.kit_int_list, PV.kit_int_tuple, PV.kit_bool_int, PV.kit_bool_bool, PV.kit_bool_str, PV.kit_bool_list, PV.kit_bool_tuple, PV.kit_str_int, PV.kit_str_bool, PV.kit_str_str, PV.kit_str_list, PV.kit_str_tuple, PV.kit_list_int, PV.kit_list_bool, PV.kit_list_str, PV.kit_list_list, PV.kit_list_tuple, PV.kit_tuple_int, PV.kit_tuple_bool, PV.kit_tuple_str, PV.kit_tuple_list, PV.kit_tuple_tuple, PV.kit_NoneType_int, PV.kit_NoneType_bool, PV.kit_NoneType_str, PV.kit_NoneType_list, PV.kit_NoneType_tuple, PV.cutD_map, PV.allD_map, PV.allD_mapA, PV.allS_map, PV.allS_mapA, List.getElem?_cons_zero, List.getElem?_cons_succ, List.getElem?_nil, List.set_cons_zero, List.set_cons_succ, List.map_cons, List.map_nil, List.cons_append, List.nil_append, List.append_nil, List.length_cons, List.length_nil, List.length_map, List.length_append, List.length_replicate, PV.flat_rep, Nat.mul_one, Nat.one_mul, PV.rep_none, List.replicate_zero, List.all_cons, List.all_nil, cond_true, cond_false, Bool.and_true, Bool.true_and, Bool.and_false, Bool.false_and, Bool.not_true, Bool.not_false, Bool.not_not, if_true, if_false, ite_true, ite_false, true_and, and_true, true_implies, false_implies, reduceCtorEq, Nat.reduceAdd, Nat.reduceSub, Nat.reduceLT, Nat.reduceLeDiff, Bool.false_eq_true, decide_eq_true_eq, decide_eq_false_iff_not, Bool.not_eq_true, Bool.not_eq_false, Bool.not_eq_true', Bool.not_eq_false', Bool.true_eq_false, Option.map_some, Option.map_none, decide_true, decide_false, not_true_eq_false, not_false_eq_true, implies_true, forall_const, eq_self, Nat.reduceEqDiff, beq_self_eq_true, ne_eq, Int.reduceEq, Int.reduceNe, Int.reduceLT, Int.reduceLE, Int.reduceGT, Int.reduceGE, Int.reduceToNat, Int.reduceAdd, Int.reduceNeg, Nat.reduceLT, Nat.reduceLeDiff, Nat.reduceAdd, Nat.reduceMul, false_and, and_false, and_self, true_and, and_true, false_implies, PV.at0, PV.at1, PV.at2, PV.at3, PV.at4, PV.at5, Option.some.injEq, exists_eq_left', exists_eq_left, stepD, gb]
        have hy : 0 < ys.length := g2
        exact ⟨fun z => absurd rfl z, fun _ => ⟨fun z => by omega, fun _ => fin⟩⟩
      | keep n =>
        have gb : (Str.ofString "keep" = b) = False := eq_false g1
        simp only [PV.pDivMod, PV.ownsOf_dic, PV.pDNew, PV.pDPut, PV.pDGet2, PV.pDGet, PV.pDIn, PV.pLenD, PV.keyD, PV.pSlScr, PV.pZipT, PV.pRngC, PV.pRngV, PV.pSt1, PV.pM0, PV.pZipS, PV.pM1, PV.pJoin, PV.pFmt, PV.pJoined, PV.pJs, PV.pBMV, PV.pCount, PV.pIndex, PV.pSetIx2, PV.pRetT, PV.pLcF, PV.mapL_inj, PV.pVar, PV.pC, PV.pOp, PV.pUn, PV.pII, PV.pII0, PV.pNeg, PV.pSS, PV.pSS0, PV.eqF_int, PV.eqF_str, PV.eqF_bool, PV.eqF_ni, PV.eqF_in, PV.eqF_nn, PV.eqF_si, PV.eqF_is, PV.eqF_sn, PV.eqF_ns, PV.pEq, PV.pEqD, PV.isN, PV.pIsN, PV.Tg.d, PV.Tg.it, PV.Tg.itD, PV.Tg.ok, PV.pCat, PV.pRep, PV.pCatT, PV.pIn, PV.pNil, PV.pCons, PV.Tg.items, PV.pStar, PV.allD, PV.allS, PV.pTup, PV.pLst, PV.pNoPart, PV.pPart, PV.pSlL, PV.pSlT, PV.pCB, PV.pLen, PV.pLenS, PV.pI1, PV.pI10, PV.pI2, PV.pInt1, PV.pBool1, PV.pS1, PV.pListOf, PV.pTupOf, PV.tyD, PV.pIsi, PV.bD, PV.pAndV, PV.pOrV, PV.pNotV, PV.pIfE, PV.pT, PV.pAnd, PV.pOr, PV.pNot, PV.truD, PV.pTru, PV.pNotT, PV.pChain, PV.pThree, PV.Rs.arg, PV.lend, PV.pCall, PV.pCall0, PV.pIt, PV.pItT, PV.pRg1, PV.pRg2, PV.pRg3, PV.pEnum, PV.pZip, PV.pRev, PV.pStr, PV.setR, PV.pName, PV.pTgt, PV.pTgts, PV.pTg, PV.pNext, PV.pBreak, PV.pCont, PV.pSeq, PV.pShr, PV.pShrI, PV.shI, PV.pFgt, PV.fgt, PV.pAsg, PV.pExpr, PV.Rs.ret, PV.pRet, PV.pRetN, PV.pIf, PV.pFld, PV.pAug, PV.pPar, PV.pBM, PV.pBM0, PV.pAppend, PV.pExtend, PV.pExtT, PV.pClear, PV.pReverse, PV.pSetIx, PV.pFor, PV.wipeG, PV.pLc, PV.gG, PV.pGen, PV.pYes, PV.pSum, PV.pRaise, PV.pRaise1, PV.slA, PV.startG, PV.ends, PV.pRevL, PV.pSlS, PV.pSign, PV.pProp, PV.pMake, PV.pMake0, PV.pTry, PV.pRetD, PV.Rs.asD, PV.sg, PV.Sl.r, PV.dV, PV.flatD, PV.owns, PV.ownsOf_no, PV.ownsOf_dat, PV.ownsOf_obj, PV.ownsOf_own, PV.ownsOf_tab, PV.shr, PV.Sl.sh, PV.intsOf_map, PV.intsOf_app, PV.intsOf_nil, PV.intsOf_int, PV.isInts_map, PV.isInts_nil, PV.isInts_int, PV.isInts_mapL, PV.scr_key, PV.isiQ_s, PV.kit_int_int, PV.kit_int_bool, PV.kit_int_str, PV.kit_int_list, PV.kit_int_tuple, PV.kit_bool_int, PV.kit_bool_bool, PV.kit_bool_str, PV.kit_bool_list, PV.kit_bool_tuple, PV.kit_str_int, PV.kit_str_bool, PV.kit_str_str, PV.kit_str_list, PV.kit_str_tuple, PV.kit_list_int, PV.kit_list_bool, PV.kit_list_str, PV.kit_list_list, PV.kit_list_tuple, PV.kit_tuple_int, PV.kit_tuple_bool, PV.kit_tuple_str, PV.kit_tuple_list, PV.kit_tuple_tuple, PV.kit_NoneType_int, PV.kit_NoneType_bool, PV.kit_NoneType_str, PV.kit_NoneType_list, PV.kit_NoneType_tuple, PV.cutD_map, PV.allD_map, PV.allD_mapA, PV.allS_map, PV.allS_mapA, List.getElem?_cons_zero, List.getElem?_cons_succ, List.getElem?_nil, List.set_cons_zero, List.set_cons_succ, List.map_cons, List.map_nil, List.cons_append, List.nil_append, List.append_nil, List.length_cons, List.length_nil, List.length_map, List.length_append, List.length_replicate, PV.flat_rep, Nat.mul_one, Nat.one_mul, PV.rep_none, List.replicate_zero, List.all_cons, List.all_nil, cond_true, cond_false, Bool.and_true, Bool.true_and, Bool.and_false, Bool.false_and, Bool.not_true, Bool.not_false, Bool.not_not, if_true, if_false, ite_true, ite_false, true_and, and_true, true_implies, false_implies, reduceCtorEq, Nat.reduceAdd, Nat.reduceSub, Nat.reduceLT, Nat.reduceLeDiff, Bool.false_eq_true, decide_eq_true_eq, decide_eq_false_iff_not, Bool.not_eq_true, Bool.not_eq_false, Bool.not_eq_true', Bool.not_eq_false', Bool.true_eq_false, Option.map_some, Option.map_none, decide_true, decide_false, not_true_eq_false, not_false_eq_true, implies_true, forall_const, eq_self, Nat.reduceEqDiff, beq_self_eq_true, ne_eq, Int.reduceEq, Int.reduceNe, Int.reduceLT, Int.reduceLE, Int.reduceGT, Int.reduceGE, Int.reduceToNat, Int.reduceAdd, Int.reduceNeg, Nat.reduceLT, Nat.reduceLeDiff, Nat.reduceAdd, Nat.reduceMul, false_and, and_false, and_self, true_and, and_true, false_implies, PV.at0, PV.at1, PV.at2, PV.at3, PV.at4, PV.at5, Option.some.injEq, exists_eq_left', exists_eq_left, stepD, gb, s_ka, s_kd, pIsInt, isIntD]
        have hy : 0 < n := g2
        exact ⟨fun z => absurd rfl z, fun _ => ⟨fun z => by omega, fun _ => fin⟩⟩
      | drop n =>
        have gb : (Str.ofString "drop" = b) = False := eq_false g1
        simp only [PV.pDivMod, PV.ownsOf_dic, PV.pDNew, PV.pDPut, PV.pDGet2, PV.pDGet, PV.pDIn, PV.pLenD, PV.keyD, PV.pSlScr, PV.pZipT, PV.pRngC, PV.pRngV, PV.pSt1, PV.pM0, PV.pZipS, PV.pM1, PV.pJoin, PV.pFmt, PV.pJoined, PV.pJs, PV.pBMV, PV.pCount, PV.pIndex, PV.pSetIx2, PV.pRetT, PV.pLcF, PV.mapL_inj, PV.pVar, PV.pC, PV.pOp, PV.pUn, PV.pII, PV.pII0, PV.pNeg, PV.pSS, PV.pSS0, PV.eqF_int, PV.eqF_str, PV.eqF_bool, PV.eqF_ni, PV.eqF_in, PV.eqF_nn, PV.eqF_si, PV.eqF_is, PV.eqF_sn, PV.eqF_ns, PV.pEq, PV.pEqD, PV.isN, PV.pIsN, PV.Tg.d, PV.Tg.it, PV.Tg.itD, PV.Tg.ok, PV.pCat, PV.pRep, PV.pCatT, PV.pIn, PV.pNil, PV.pCons, PV.Tg.items, PV.pStar, PV.allD, PV.allS, PV.pTup, PV.pLst, PV.pNoPart, PV.pPart, PV.pSlL, PV.pSlT, PV.pCB, PV.pLen, PV.pLenS, PV.pI1, PV.pI10, PV.pI2, PV.pInt1, PV.pBool1, PV.pS1, PV.pListOf, PV.pTupOf, PV.tyD, PV.pIsi, PV.bD, PV.pAndV, PV.pOrV, PV.pNotV, PV.pIfE, PV.pT, PV.pAnd, PV.pOr, PV.pNot, PV.truD, PV.pTru, PV.pNotT, PV.pChain, PV.pThree, PV.Rs.arg, PV.lend, PV.pCall, PV.pCall0, PV.pIt, PV.pItT, PV.pRg1, PV.pRg2, PV.pRg3, PV.pEnum, PV.pZip, PV.pRev, PV.pStr, PV.setR, PV.pName, PV.pTgt, PV.pTgts, PV.pTg, PV.pNext, PV.pBreak, PV.pCont, PV.pSeq, PV.pShr, PV.pShrI, PV.shI, PV.pFgt, PV.fgt, PV.pAsg, PV.pExpr, PV.Rs.ret, PV.pRet, PV.pRetN, PV.pIf, PV.pFld, PV.pAug, PV.pPar, PV.pBM, PV.pBM0, PV.pAppend, PV.pExtend, PV.pExtT, PV.pClear, PV.pReverse, PV.pSetIx, PV.pFor, PV.wipeG, PV.pLc, PV.gG, PV.pGen, PV.pYes, PV.pSum, PV.pRaise, PV.pRaise1, PV.slA, PV.startG, PV.ends, PV.pRevL, PV.pSlS, PV.pSign, PV.pProp, PV.pMake, PV.pMake0, PV.pTry, PV.pRetD, PV.Rs.asD, PV.sg, PV.Sl.r, PV.dV, PV.flatD, PV.owns, PV.ownsOf_no, PV.ownsOf_dat, PV.ownsOf_obj, PV.ownsOf_own, PV.ownsOf_tab, PV.shr, PV.Sl.sh, PV.intsOf_map, PV.intsOf_app, PV.intsOf_nil, PV.intsOf_int, PV.isInts_map, PV.isInts_nil, PV.isInts_int, PV.isInts_mapL, PV.scr_key, PV.isiQ_s, PV.kit_int_int, PV.kit_int_bool, PV.kit_int_str, PV.kit_int_list, PV.kit_int_tuple, PV.kit_bool_int, PV.kit_bool_bool, PV.kit_bool_str, PV.kit_bool_list, PV.kit_bool_tuple, PV.kit_str_int, PV.kit_str_bool, PV.kit_str_str, PV.kit_str_list, PV.kit_str_tuple, PV.kit_list_int, PV.kit_list_bool, PV.kit_list_str, PV.kit_list_list, PV.kit_list_tuple, PV.kit_tuple_int, PV.kit_tuple_bool, PV.kit_tuple_str, PV.kit_tuple_list, PV.kit_tuple_tuple, PV.kit_NoneType_int, PV.kit_NoneType_bool, PV.kit_NoneType_str, PV.kit_NoneType_list, PV.kit_NoneType_tuple, PV.cutD_map, PV.allD_map, PV.allD_mapA, PV.allS_map, PV.allS_mapA, List.getElem?_cons_zero, List.getElem?_cons_succ, List.getElem?_nil, List.set_cons_zero, List.set_cons_succ, List.map_cons, List.map_nil, List.cons_append, List.nil_append, List.append_nil, List.length_cons, List.length_nil, List.length_map, List.length_append, List.length_replicate, PV.flat_rep, Nat.mul_one, Nat.one_mul, PV.rep_none, List.replicate_zero, List.all_cons, List.all_nil, cond_true, cond_false, Bool.and_true, Bool.true_and, Bool.and_false, Bool.false_and, Bool.not_true, Bool.not_false, Bool.not_not, if_true, if_false, ite_true, ite_false, true_and, and_true, true_implies, false_implies, reduceCtorEq, Nat.reduceAdd, Nat.reduceSub, Nat.reduceLT, Nat.reduceLeDiff, Bool.false_eq_true, decide_eq_true_eq, decide_eq_false_iff_not, Bool.not_eq_true, Bool.not_eq_false, Bool.not_eq_true', Bool.not_eq_false', Bool.true_eq_false, Option.map_some, Option.map_none, decide_true, decide_false, not_true_eq_false, not_false_eq_true, implies_true, forall_const, eq_self, Nat.reduceEqDiff, beq_self_eq_true, ne_eq, Int.reduceEq, Int.reduceNe, Int.reduceLT, Int.reduceLE, Int.reduceGT, Int.reduceGE, Int.reduceToNat, Int.reduceAdd, Int.reduceNeg, Nat.reduceLT, Nat.reduceLeDiff, Nat.reduceAdd, Nat.reduceMul, false_and, and_false, and_self, true_and, and_true, false_implies, PV.at0, PV.at1, PV.at2, PV.at3, PV.at4, PV.at5, Option.some.injEq, exists_eq_left', exists_eq_left, stepD, gb, s_da, s_dk, pIsInt, isIntD]
        have hy : 0 < n := g2
        exact ⟨fun z => absurd rfl z, fun _ => ⟨fun z => by omega, fun _ => ⟨fun z => absurd z (g3 rfl), fun _ => fin⟩⟩⟩
    · rintro _ ⟨b, o2, hok, ho2, rfl⟩
      simp only [PV.pDivMod, PV.ownsOf_dic, PV.pDNew, PV.pDPut, PV.pDGet2, PV.pDGet, PV.pDIn, PV.pLenD, PV.keyD, PV.pSlScr, PV.pZipT, PV.pRngC, PV.pRngV, PV.pSt1, PV.pM0, PV.pZipS, PV.pM1, PV.pJoin, PV.pFmt, PV.pJoined, PV.pJs, PV.pBMV, PV.pCount, PV.pIndex, PV.pSetIx2, PV.pRetT, PV.pLcF, PV.mapL_inj, PV.pVar, PV.pC, PV.pOp, PV.pUn, PV.pII, PV.pII0, PV.pNeg, PV.pSS, PV.pSS0, PV.eqF_int, PV.eqF_str, PV.eqF_bool, PV.eqF_ni, PV.eqF_in, PV.eqF_nn, PV.eqF_si, PV.eqF_is, PV.eqF_sn, PV.eqF_ns, PV.pEq, PV.pEqD, PV.isN, PV.pIsN, PV.Tg.d, PV.Tg.it, PV.Tg.itD, PV.Tg.ok, PV.pCat, PV.pRep, PV.pCatT, PV.pIn, PV.pNil, PV.pCons, PV.Tg.items, PV.pStar, PV.allD, PV.allS, PV.pTup, PV.pLst, PV.pNoPart, PV.pPart, PV.pSlL, PV.pSlT, PV.pCB, PV.pLen, PV.pLenS, PV.pI1, PV.pI10, PV.pI2, PV.pInt1, PV.pBool1, PV.pS1, PV.pListOf, PV.pTupOf, PV.tyD, PV.pIsi, PV.bD, PV.pAndV, PV.pOrV, PV.pNotV, PV.pIfE, PV.pT, PV.pAnd, PV.pOr, PV.pNot, PV.truD, PV.pTru, PV.pNotT, PV.pChain, PV.pThree, PV.Rs.arg, PV.lend, PV.pCall, PV.pCall0, PV.pIt, PV.pItT, PV.pRg1, PV.pRg2, PV.pRg3, PV.pEnum, PV.pZip, PV.pRev, PV.pStr, PV.setR, PV.pName, PV.pTgt, PV.pTgts, PV.pTg, PV.pNext, PV.pBreak, PV.pCont, PV.pSeq, PV.pShr, PV.pShrI, PV.shI, PV.pFgt, PV.fgt, PV.pAsg, PV.pExpr, PV.Rs.ret, PV.pRet, PV.pRetN, PV.pIf, PV.pFld, PV.pAug, PV.pPar, PV.pBM, PV.pBM0, PV.pAppend, PV.pExtend, PV.pExtT, PV.pClear, PV.pReverse, PV.pSetIx, PV.pFor, PV.wipeG, PV.pLc, PV.gG, PV.pGen, PV.pYes, PV.pSum, PV.pRaise, PV.pRaise1, PV.slA, PV.startG, PV.ends, PV.pRevL, PV.pSlS, PV.pSign, PV.pProp, PV.pMake, PV.pMake0, PV.pTry, PV.pRetD, PV.Rs.asD, PV.sg, PV.Sl.r, PV.dV, PV.flatD, PV.owns, PV.ownsOf_no, PV.ownsOf_dat, PV.ownsOf_obj, PV.ownsOf_own, PV.ownsOf_tab, PV.shr, PV.Sl.sh, PV.intsOf_map, PV.intsOf_app, PV.intsOf_nil, PV.intsOf_int, PV.isInts_map, PV.isInts_nil, PV.isInts_int, PV.isInts_mapL, PV.scr_key, PV.isiQ_s, PV.kit_int_int, PV.kit_int_bool, PV.kit_int_str, PV.kit_int_list, PV.kit_int_tuple, PV.kit_bool_int, PV.kit_bool_bool, PV.kit_bool_str, PV.kit_bool_list, PV.kit_bool_tuple, PV.kit_str_int, PV.kit_str_bool, PV.kit_str_str, PV.kit_str_list, PV.kit_str_tuple, PV.kit_list_int, PV.kit_list_bool, PV.kit_list_str, PV.kit_list_list, PV.kit_list_tuple, PV.kit_tuple_int, PV.kit_tuple_bool, PV.kit_tuple_str, PV.kit_tuple_list, PV.kit_tuple_tuple, PV.kit_NoneType_int, PV.kit_NoneType_bool, PV.kit_NoneType_str, PV.kit_NoneType_list, PV.kit_NoneType_tuple, PV.cutD_map, PV.allD_map, PV.allD_mapA, PV.allS_map, PV.allS_mapA, List.getElem?_cons_zero, List.getElem?_cons_succ, List.getElem?_nil, List.set_cons_zero, List.set_cons_succ, List.map_cons, List.map_nil, List.cons_append, List.nil_append, List.append_nil, List.length_cons, List.length_nil, List.length_map, List.length_append, List.length_replicate, PV.flat_rep, Nat.mul_one, Nat.one_mul, PV.rep_none, List.replicate_zero, List.all_cons, List.all_nil, cond_true, cond_false, Bool.and_true, Bool.true_and, Bool.and_false, Bool.false_and, Bool.not_true, Bool.not_false, Bool.not_not, if_true, if_false, ite_true, ite_false, true_and, and_true, true_implies, false_implies, reduceCtorEq, Nat.reduceAdd, Nat.reduceSub, Nat.reduceLT, Nat.reduceLeDiff, Bool.false_eq_true, decide_eq_true_eq, decide_eq_false_iff_not, Bool.not_eq_true, Bool.not_eq_false, Bool.not_eq_true', Bool.not_eq_false', Bool.true_eq_false, Option.map_some, Option.map_none, decide_true, decide_false, not_true_eq_false, not_false_eq_true, implies_true, forall_const, eq_self, Nat.reduceEqDiff, beq_self_eq_true, ne_eq, Int.reduceEq, Int.reduceNe, Int.reduceLT, Int.reduceLE, Int.reduceGT, Int.reduceGE, Int.reduceToNat, Int.reduceAdd, Int.reduceNeg, Nat.reduceLT, Nat.reduceLeDiff, Nat.reduceAdd, Nat.reduceMul, false_and, and_false, and_self, true_and, and_true, false_implies, PV.at0, PV.at1, PV.at2, PV.at3, PV.at4, PV.at5, Option.some.injEq, exists_eq_left', exists_eq_left, ho2]
      exact kQ
  · exact h.elim

-- @@CUT
/-! ### longest common lists, and their rows of gains -/
/-- the greatest length of a common list of the first i items of a and the first j of b -/
def LC (a b : List Int) : Nat → Nat → Nat
  | 0, _ => 0
  | _ + 1, 0 => 0
  | i + 1, j + 1 => if a.getD i 0 = b.getD j 0 then LC a b i j + 1 else max (LC a b (i + 1) j) (LC a b i (j + 1))
termination_by i j => i + j
theorem LC_0 (a b : List Int) (j : Nat) : LC a b 0 j = 0 := by unfold LC; rfl
theorem LC_0' (a b : List Int) (i : Nat) : LC a b i 0 = 0 := by
  cases i with
  | zero => exact LC_0 a b 0
  | succ i => unfold LC; rfl
theorem LC_s (a b : List Int) (i j : Nat) : LC a b (i + 1) (j + 1) = if a.getD i 0 = b.getD j 0 then LC a b i j + 1 else max (LC a b (i + 1) j) (LC a b i (j + 1)) := by
  rw [LC]
/-- neighbours differ by at most one -/
theorem LC_unit (a b : List Int) : ∀ (n i j : Nat), i + j ≤ n → (LC a b i j ≤ LC a b (i + 1) j ∧ LC a b (i + 1) j ≤ LC a b i j + 1) ∧ (LC a b i j ≤ LC a b i (j + 1) ∧ LC a b i (j + 1) ≤ LC a b i j + 1)
  | 0, i, j, h => by
    obtain rfl : i = 0 := by omega
    obtain rfl : j = 0 := by omega
    rw [LC_0, LC_0', LC_0]
    omega
  | n + 1, i, j, h => by
    constructor
    · cases j with
      | zero => rw [LC_0', LC_0']; omega
      | succ j =>
        have h1 := (LC_unit a b n i j (by omega)).1
        have h2 := (LC_unit a b n i j (by omega)).2
        rw [LC_s]
        split
        · omega
        · omega
    · cases i with
      | zero => rw [LC_0, LC_0]; omega
      | succ i =>
        have h1 := (LC_unit a b n i j (by omega)).1
        have h2 := (LC_unit a b n i j (by omega)).2
        rw [LC_s]
        split
        · omega
        · omega
theorem LC_i (a b : List Int) (i j : Nat) : LC a b i j ≤ LC a b (i + 1) j ∧ LC a b (i + 1) j ≤ LC a b i j + 1 := (LC_unit a b _ i j (Nat.le_refl _)).1
theorem LC_j (a b : List Int) (i j : Nat) : LC a b i j ≤ LC a b i (j + 1) ∧ LC a b i (j + 1) ≤ LC a b i j + 1 := (LC_unit a b _ i j (Nat.le_refl _)).2
/-- the first items alone matter -/
theorem LC_app (a b c d : List Int) : ∀ (n i j : Nat), i + j ≤ n → i ≤ a.length → j ≤ b.length → LC (a ++ c) (b ++ d) i j = LC a b i j
  | n, 0, j, _, _, _ => by rw [LC_0, LC_0]
  | n, i + 1, 0, _, _, _ => by rw [LC_0', LC_0']
  | 0, i + 1, j + 1, h, _, _ => absurd h (by omega)
  | n + 1, i + 1, j + 1, h, hi, hj => by
    have e1 : (a ++ c).getD i 0 = a.getD i 0 := by simp only [List.getD_eq_getElem?_getD]; rw [List.getElem?_append_left (by omega)]
    have e2 : (b ++ d).getD j 0 = b.getD j 0 := by simp only [List.getD_eq_getElem?_getD]; rw [List.getElem?_append_left (by omega)]
    rw [LC_s, LC_s, e1, e2, LC_app a b c d n i j (by omega) (by omega) (by omega), LC_app a b c d n (i + 1) j (by omega) hi (by omega), LC_app a b c d n i (j + 1) (by omega) (by omega) hj]
theorem LC_cons (x : Int) (a b : List Int) : ∀ (n i j : Nat), i + j ≤ n → LC (x :: a) (x :: b) (i + 1) (j + 1) = LC a b i j + 1
  | n, 0, 0, _ => by
    rw [LC_s, LC_0, if_pos (by rfl), LC_0]
  | 0, 0, j + 1, h => absurd h (by omega)
  | 0, i + 1, j, h => absurd h (by omega)
  | n + 1, 0, j + 1, h => by
    rw [LC_s, LC_0, LC_cons x a b n 0 j (by omega), LC_0, LC_0, LC_0]
    split <;> omega
  | n + 1, i + 1, 0, h => by
    rw [LC_s, LC_0', LC_cons x a b n i 0 (by omega), LC_0', LC_0', LC_0']
    split <;> omega
  | n + 1, i + 1, j + 1, h => by
    rw [LC_s, LC_cons x a b n i j (by omega), LC_cons x a b n (i + 1) j (by omega), LC_cons x a b n i (j + 1) (by omega), LC_s]
    show (if a.getD i 0 = b.getD j 0 then _ else _) = _
    split <;> omega
def lcs (a b : List Int) : Nat := LC a b a.length b.length
theorem lcs_cons (x : Int) (a b : List Int) : lcs (x :: a) (x :: b) = lcs a b + 1 := LC_cons x a b _ _ _ (Nat.le_refl _)
theorem lcs_snoc (x : Int) (a b : List Int) : lcs (a ++ [x]) (b ++ [x]) = lcs a b + 1 := by
  unfold lcs
  rw [List.length_append, List.length_append]
  show LC _ _ (a.length + 1) (b.length + 1) = _
  have e1 : (a ++ [x]).getD a.length 0 = x := by simp [List.getD_eq_getElem?_getD]
  have e2 : (b ++ [x]).getD b.length 0 = x := by simp [List.getD_eq_getElem?_getD]
  rw [LC_s, e1, e2, if_pos rfl, LC_app a b [x] [x] _ _ _ (Nat.le_refl _) (Nat.le_refl _) (Nat.le_refl _)]
theorem lcs_pre (a b : List Int) : ∀ p : List Int, lcs (p ++ a) (p ++ b) = p.length + lcs a b
  | [] => by simp
  | x :: p => by
    rw [List.cons_append, List.cons_append, lcs_cons, lcs_pre a b p, List.length_cons]
    omega
theorem lcs_suf : ∀ (s a b : List Int), lcs (a ++ s) (b ++ s) = lcs a b + s.length
  | [], a, b => by simp
  | x :: s, a, b => by
    have e : ∀ c : List Int, c ++ x :: s = (c ++ [x]) ++ s := fun c => by simp
    rw [e, e, lcs_suf s, lcs_snoc, List.length_cons]
    omega
/-! numbers by their bits -/
def val (n : Nat) (f : Nat → Bool) : Nat := match n with
  | 0 => 0
  | n + 1 => val n f + if f n then 2 ^ n else 0
theorem val_lt (f : Nat → Bool) : ∀ n, val n f < 2 ^ n
  | 0 => by simp [val]
  | n + 1 => by
    have := val_lt f n
    rw [val, Nat.pow_succ]
    split <;> omega
theorem val_congr {f g : Nat → Bool} : ∀ {n : Nat}, (∀ c, c < n → f c = g c) → val n f = val n g
  | 0, _ => rfl
  | n + 1, h => by rw [val, val, val_congr fun c hc => h c (by omega), h n (by omega)]
theorem val_bit (f : Nat → Bool) : ∀ (n c : Nat), (val n f).testBit c = (decide (c < n) && f c)
  | 0, c => by simp [val]
  | n + 1, c => by
    have hv := val_lt f n
    have ih := val_bit f n
    rw [val]
    by_cases hf : f n
    · rw [if_pos hf, Nat.add_comm]
      by_cases h : c < n
      · rw [Nat.testBit_two_pow_add_gt h, ih, decide_eq_true h, decide_eq_true (by omega)]
      · by_cases e : c = n
        · subst e
          rw [Nat.testBit_two_pow_add_eq, ih, decide_eq_false (by omega), decide_eq_true (by omega), hf]
          rfl
        · rw [decide_eq_false (by omega), Bool.false_and]
          refine Nat.testBit_lt_two_pow (Nat.lt_of_lt_of_le (show 2 ^ n + val n f < 2 ^ (n + 1) by rw [Nat.pow_succ]; omega) (Nat.pow_le_pow_right (by decide) (by omega)))
    · rw [if_neg hf, Nat.add_zero, ih]
      by_cases h : c < n
      · rw [decide_eq_true h, decide_eq_true (by omega)]
      · by_cases e : c = n
        · subst e
          simp [hf]
        · rw [decide_eq_false h, decide_eq_false (by omega)]
theorem val_and (n : Nat) (f g : Nat → Bool) : val n f &&& val n g = val n fun c => f c && g c := by
  refine Nat.eq_of_testBit_eq fun c => ?_
  rw [Nat.testBit_and, val_bit, val_bit, val_bit]
  cases decide (c < n) <;> simp
theorem val_or (n : Nat) (f g : Nat → Bool) : val n f ||| val n g = val n fun c => f c || g c := by
  refine Nat.eq_of_testBit_eq fun c => ?_
  rw [Nat.testBit_or, val_bit, val_bit, val_bit]
  cases decide (c < n) <;> simp
theorem val_split (f g : Nat → Bool) : ∀ n, val n f = (val n fun c => f c && g c) + val n fun c => f c && !g c
  | 0 => rfl
  | n + 1 => by
    have := val_split f g n
    rw [val, val, val, this]
    cases f n <;> cases g n <;> simp <;> omega
/-- an addition, bit by bit -/
theorem val_add (v x s cy : Nat → Bool) (hs : ∀ c, s c = xor (xor (v c) (x c)) (cy c)) (hc : ∀ c, cy (c + 1) = ((v c && x c) || (v c && cy c) || (x c && cy c))) : ∀ n, val n v + val n x + (if cy 0 then 1 else 0) = val n s + if cy n then 2 ^ n else 0
  | 0 => by simp [val]
  | n + 1 => by
    have ih := val_add v x s cy hs hc n
    rw [val, val, val, hs n, hc n]
    have e : 2 ^ (n + 1) = 2 * 2 ^ n := by rw [Nat.pow_succ]; omega
    rw [e]
    generalize 2 ^ n = P at *
    generalize val n v = A at *
    generalize val n x = B at *
    generalize val n s = C at *
    cases v n <;> cases x n <;> cases h3 : cy n <;> rw [h3] at ih <;> simp at ih ⊢ <;> omega
/-! the rows -/
section
variable (a b : List Int)
/-- no gain at the place c of the row r -/
def vb (r c : Nat) : Bool := decide (LC a b (c + 1) r = LC a b c r)
def hb (r c : Nat) : Bool := decide (LC a b c (r + 1) = LC a b c r + 1)
def mb (r c : Nat) : Bool := decide (a.getD c 0 = b.getD r 0)
theorem vb_0 (c : Nat) : vb a b 0 c = true := by
  unfold vb
  rw [LC_0', LC_0']
  rfl
theorem hb_0 (r : Nat) : hb a b r 0 = false := by
  unfold hb
  rw [LC_0, LC_0]
  rfl
theorem hb_s (r c : Nat) : hb a b r (c + 1) = ((vb a b r c && (vb a b r c && mb a b r c)) || (vb a b r c && hb a b r c) || ((vb a b r c && mb a b r c) && hb a b r c)) := by
  have h1 := LC_i a b c r
  have h2 := LC_j a b c r
  have h3 := LC_s a b c r
  unfold hb vb mb
  by_cases hm : a.getD c 0 = b.getD r 0
  · rw [if_pos hm] at h3
    rw [decide_eq_true hm]
    by_cases hv : LC a b (c + 1) r = LC a b c r
    · rw [decide_eq_true hv, decide_eq_true (by omega)]
      rfl
    · rw [decide_eq_false hv, decide_eq_false (by omega)]
      rfl
  · rw [if_neg hm] at h3
    rw [decide_eq_false hm]
    by_cases hv : LC a b (c + 1) r = LC a b c r
    · by_cases hh : LC a b c (r + 1) = LC a b c r + 1
      · rw [decide_eq_true hv, decide_eq_true hh, decide_eq_true (by omega)]
        rfl
      · rw [decide_eq_true hv, decide_eq_false hh, decide_eq_false (by omega)]
        rfl
    · rw [decide_eq_false hv, decide_eq_false (by omega)]
      rfl
theorem vb_s (r c : Nat) : vb a b (r + 1) c = ((xor (xor (vb a b r c) (vb a b r c && mb a b r c)) (hb a b r c)) || (vb a b r c && !mb a b r c)) := by
  have h1 := LC_i a b c r
  have h2 := LC_j a b c r
  have h3 := LC_s a b c r
  unfold hb vb mb
  by_cases hm : a.getD c 0 = b.getD r 0
  · rw [if_pos hm] at h3
    rw [decide_eq_true hm]
    by_cases hv : LC a b (c + 1) r = LC a b c r
    · by_cases hh : LC a b c (r + 1) = LC a b c r + 1
      · rw [decide_eq_true hv, decide_eq_true hh, decide_eq_true (by omega)]
        rfl
      · rw [decide_eq_true hv, decide_eq_false hh, decide_eq_false (by omega)]
        rfl
    · by_cases hh : LC a b c (r + 1) = LC a b c r + 1
      · rw [decide_eq_false hv, decide_eq_true hh, decide_eq_true (by omega)]
        rfl
      · rw [decide_eq_false hv, decide_eq_false hh, decide_eq_false (by omega)]
        rfl
  · rw [if_neg hm] at h3
    rw [decide_eq_false hm]
    by_cases hv : LC a b (c + 1) r = LC a b c r
    · by_cases hh : LC a b c (r + 1) = LC a b c r + 1
      · rw [decide_eq_true hv, decide_eq_true hh, decide_eq_true (by omega)]
        rfl
      · rw [decide_eq_true hv, decide_eq_false hh, decide_eq_true (by omega)]
        rfl
    · by_cases hh : LC a b c (r + 1) = LC a b c r + 1
      · rw [decide_eq_false hv, decide_eq_true hh, decide_eq_true (by omega)]
        rfl
      · rw [decide_eq_false hv, decide_eq_false hh, decide_eq_false (by omega)]
        rfl
/-- the row r as a number -/
def rowN (r : Nat) : Nat := val a.length (vb a b r)
/-- one more row -/
theorem row_step (r : Nat) : ∃ c : Nat, rowN a b r + (rowN a b r &&& val a.length (mb a b r)) = (rowN a b r + (rowN a b r &&& val a.length (mb a b r))) % 2 ^ a.length + c * 2 ^ a.length ∧
    ((rowN a b r + (rowN a b r &&& val a.length (mb a b r))) % 2 ^ a.length ||| (rowN a b r - (rowN a b r &&& val a.length (mb a b r)))) = rowN a b (r + 1) := by
  unfold rowN
  rw [val_and]
  have h := val_add (vb a b r) (fun c => vb a b r c && mb a b r c) (fun c => xor (xor (vb a b r c) (vb a b r c && mb a b r c)) (hb a b r c)) (hb a b r) (fun _ => rfl) (fun c => hb_s a b r c) a.length
  rw [hb_0] at h
  have h : val a.length (vb a b r) + (val a.length fun c => vb a b r c && mb a b r c) = (val a.length fun c => xor (xor (vb a b r c) (vb a b r c && mb a b r c)) (hb a b r c)) + if hb a b r a.length then 2 ^ a.length else 0 := by simpa using h
  have hlt := val_lt (fun c => xor (xor (vb a b r c) (vb a b r c && mb a b r c)) (hb a b r c)) a.length
  have hm : (val a.length (vb a b r) + (val a.length fun c => vb a b r c && mb a b r c)) % 2 ^ a.length = val a.length fun c => xor (xor (vb a b r c) (vb a b r c && mb a b r c)) (hb a b r c) := by
    rw [h]
    split
    · rw [Nat.add_mod_right, Nat.mod_eq_of_lt hlt]
    · rw [Nat.add_zero, Nat.mod_eq_of_lt hlt]
  rw [hm]
  refine ⟨if hb a b r a.length then 1 else 0, ?_, ?_⟩
  · rw [h]
    split <;> simp
  · have e := val_split (vb a b r) (mb a b r) a.length
    rw [show val a.length (vb a b r) - (val a.length fun c => vb a b r c && mb a b r c) = val a.length fun c => vb a b r c && !mb a b r c by omega, val_or]
    exact val_congr fun c _ => (vb_s a b r c).symm
end

/-! ### the rows of gains -/
theorem getK_nil {k : Key} : PV.getK [] k = none := rfl
theorem getK_cons {a : Key × PyData} {r : List (Key × PyData)} {k : Key} : PV.getK (a :: r) k = if a.1 = k then some a.2 else PV.getK r k := by
  unfold PV.getK
  rw [List.find?_cons]
  by_cases h : a.1 = k
  · rw [if_pos h, decide_eq_true h]
    rfl
  · rw [if_neg h, decide_eq_false h]
theorem getK_in {k : Key} {d : PyData} : ∀ {kvs : List (Key × PyData)}, (kvs.any fun kv => decide (kv.1 = k)) = true → PV.getK (kvs.map fun kv => if kv.1 = k then (kv.1, d) else kv) k = some d
  | [], h => by simp at h
  | a :: r, h => by
    rw [List.map_cons, getK_cons]
    by_cases ha : a.1 = k
    · rw [if_pos ha, if_pos ha]
    · rw [if_neg ha, if_neg ha]
      rw [List.any_cons, decide_eq_false ha, Bool.false_or] at h
      exact getK_in h
theorem getK_other {k k2 : Key} {d : PyData} (n : ¬ k = k2) : ∀ {kvs : List (Key × PyData)}, PV.getK (kvs.map fun kv => if kv.1 = k then (kv.1, d) else kv) k2 = PV.getK kvs k2
  | [] => rfl
  | a :: r => by
    rw [List.map_cons, getK_cons, getK_cons, getK_other n]
    by_cases ha : a.1 = k
    · rw [if_pos ha]
      rw [if_neg (show ¬ a.1 = k2 from fun z => n (ha.symm.trans z)), if_neg (show ¬ a.1 = k2 from fun z => n (ha.symm.trans z))]
    · rw [if_neg ha]
theorem getK_snoc {k k2 : Key} {d : PyData} : ∀ {kvs : List (Key × PyData)}, PV.getK (kvs ++ [(k, d)]) k2 = match PV.getK kvs k2 with
    | some e => some e
    | none => if k = k2 then some d else none
  | [] => by
    rw [List.nil_append, getK_cons]
    rfl
  | a :: r => by
    rw [List.cons_append, getK_cons, getK_cons, getK_snoc]
    by_cases ha : a.1 = k2
    · rw [if_pos ha, if_pos ha]
    · rw [if_neg ha, if_neg ha]
theorem getK_none {k : Key} : ∀ {kvs : List (Key × PyData)}, ¬ (kvs.any fun kv => decide (kv.1 = k)) = true → PV.getK kvs k = none
  | [], _ => rfl
  | a :: r, h => by
    rw [List.any_cons, Bool.or_eq_true] at h
    rw [getK_cons, if_neg (fun z => h (.inl (decide_eq_true z)))]
    exact getK_none fun z => h (.inr z)
theorem getK_set {kvs : List (Key × PyData)} {k k2 : Key} {d : PyData} : PV.getK (PV.setK kvs k d) k2 = if k = k2 then some d else PV.getK kvs k2 := by
  unfold PV.setK
  split
  · next h =>
    by_cases e : k = k2
    · subst e
      rw [if_pos rfl, getK_in h]
    · rw [if_neg e, getK_other e]
  · next h =>
    rw [getK_snoc]
    by_cases e : k = k2
    · subst e
      rw [getK_none h]
    · rw [if_neg e, if_neg e]
      cases PV.getK kvs k2 with
      | none => rfl
      | some x => rfl
theorem setK_len {kvs : List (Key × PyData)} {k : Key} {d : PyData} : (PV.setK kvs k d).length ≤ kvs.length + 1 := by
  unfold PV.setK
  split <;> simp
theorem bor_pp {x y : Nat} : Builtin.bitOr (x : Int) (y : Int) = ((x ||| y : Nat) : Int) := by
  rw [PyProof.Rows.bitOr_and, PyProof.Rows.bitAnd_pp (by omega) (by omega), Int.toNat_natCast, Int.toNat_natCast]
  have := PyProof.Rows.nat_or_add_and x y
  omega
theorem band_pp {x y : Nat} : Builtin.bitAnd (x : Int) (y : Int) = ((x &&& y : Nat) : Int) := by
  rw [PyProof.Rows.bitAnd_pp (by omega) (by omega), Int.toNat_natCast, Int.toNat_natCast]
/-- one bit more -/
theorem val_more (f : Nat → Bool) (n : Nat) : val n f ||| 2 ^ n = val (n + 1) fun c => if c = n then true else f c := by
  have h : val (n + 1) (fun c => if c = n then true else f c) = val n f + 2 ^ n := by
    rw [val, if_pos (if_pos rfl)]
    rw [val_congr (g := f) fun c hc => if_neg (by omega)]
  rw [h]
  refine Nat.eq_of_testBit_eq fun c => ?_
  rw [← h, val_bit, Nat.testBit_or, val_bit, Nat.testBit_two_pow]
  by_cases e : c = n
  · subst e
    simp
  · rw [if_neg e, show decide (n = c) = false from decide_eq_false (fun z => e z.symm), Bool.or_false]
    by_cases h2 : c < n
    · rw [decide_eq_true h2, decide_eq_true (by omega)]
    · rw [decide_eq_false h2, decide_eq_false (by omega)]
theorem getR_set {kvs : List (Key × PyData)} {x y : Int} {d : PyData} {z : PV.Rs} : PV.getR (PV.setK kvs (.inl x) d) (.inl y) z = if x = y then .v .dat d else PV.getR kvs (.inl y) z := by
  unfold PV.getR
  rw [getK_set]
  by_cases e : x = y
  · rw [if_pos e, if_pos (by rw [e])]
  · rw [if_neg e, if_neg (fun q => e (by injection q))]
theorem pow2I (n : Nat) : (1 : Int) * 2 ^ n = ((2 ^ n : Nat) : Int) := by
  rw [Int.one_mul, Int.natCast_pow]
  rfl
theorem val_true (n : Nat) : val n (fun _ => true) = 2 ^ n - 1 := by
  induction n with
  | zero => rfl
  | succ n ih =>
    rw [val, ih, if_pos rfl, Nat.pow_succ]
    have := Nat.two_pow_pos n
    omega
theorem rowN_0 (a b : List Int) : rowN a b 0 = 2 ^ a.length - 1 := by
  unfold rowN
  rw [← val_true]
  exact val_congr fun c _ => vb_0 a b c
theorem zip_zero (b : List Int) : PV.zipD (b.map PyData.int) (List.replicate b.length (.int 0)) = b.map fun x => .tuple [.int x, .int 0] := by
  unfold PV.zipD
  induction b with
  | nil => rfl
  | cons x b ih =>
    rw [List.map_cons, List.length_cons, List.replicate_succ, List.zipWith_cons_cons, ih]
    rfl
def rowsTo (a b : List Int) (n : Nat) : List Int := (List.range n).map fun r => (rowN a b r : Int)
theorem rowsTo_s (a b : List Int) (n : Nat) : rowsTo a b (n + 1) = rowsTo a b n ++ [(rowN a b n : Int)] := by simp [rowsTo, List.range_succ]
theorem rowsTo_len (a b : List Int) (n : Nat) : (rowsTo a b n).length = n := by simp [rowsTo]
/-- one more row, with integers -/
theorem row_stepI {a b : List Int} {r : Nat} : ∃ c : Nat, Builtin.bitOr (Builtin.bitAnd ((rowN a b r : Int) + ((rowN a b r &&& val a.length (mb a b r) : Nat) : Int) + 0) ((1 : Int) * 2 ^ a.length - 1)) ((rowN a b r : Int) - ((rowN a b r &&& val a.length (mb a b r) : Nat) : Int)) = (rowN a b (r + 1) : Int) := by
  obtain ⟨c, h1, h2⟩ := row_step a b r
  refine ⟨c, ?_⟩
  have hle : rowN a b r &&& val a.length (mb a b r) ≤ rowN a b r := Nat.and_le_left
  generalize hF : rowN a b r &&& val a.length (mb a b r) = Fn at *
  generalize rowN a b r = R at *
  have hp := Nat.two_pow_pos a.length
  rw [pow2I, show (R : Int) + (Fn : Int) + 0 = ((R + Fn : Nat) : Int) by omega, show ((R : Int) - (Fn : Int)) = ((R - Fn : Nat) : Int) by omega, show (((2 ^ a.length : Nat) : Int) - 1) = ((2 ^ a.length - 1 : Nat) : Int) by omega, band_pp, Nat.and_two_pow_sub_one_eq_mod, bor_pp, h2]
def rowsI (a b : List Int) : List Int := rowsTo a b (b.length + 1)
def pGRows : PV.PSp := fun as _ Q => match as with
  | [.v _ (.list bs), .v _ (.list ns), .v _ (.list cs)] => PV.isInts bs ∧ PV.isInts ns ∧ bs.length ≤ 1024 ∧ ns.length ≤ 10000 ∧ cs = List.replicate ns.length (.int 0) ∧
    ∀ car : List Int, Q (.v .dat (.tuple [.list ((rowsI (PV.intsOf bs) (PV.intsOf ns)).map .int), .list (car.map .int)]))
  | _ => False
theorem ok__gain_rows (T : Txt K mg) : Ok P w K mg base CX0 1 "_gain_rows" ["block", "new", "carries"] (PV.spP K [] (PV.sg 3 pGRows)) := by
  refine PV.pv_def T.d__gain_rows sc__gain_rows (fun as PX PQ h => h.1) fun f cdv A outer s H E hr => ?_
  have nd := sc__gain_rows.nd
  refine ⟨_, _, (pss_cons (ps_set (i := 3) nd rfl (Or.inl rfl) pe_dnewK)
      (pss_cons (ps_for PassesOwn.never rfl (pi_enum (by rfl) T.n_enumerate (pa_cons (pv 0) pa_nil)) (pg_tup rfl (pgs_cons (pg_name (i := 4) nd rfl (Or.inl rfl)) (pgs_cons (pg_name (i := 5) nd rfl (Or.inl rfl)) pgs_nil)))
        (pss_one (ps_dput (hu_of hr) (pv 3) (pv 5) (pe_op op_or (pe_dget2 (hu_of hr) (pv 3) (pv 5) pe_int ⟨rfl, rfl, rfl, rfl⟩) (pe_op op_shl pe_int (pv 4))) rfl)))
      (pss_cons (ps_set (i := 6) nd rfl (Or.inl rfl) (pe_op op_sub (pe_op op_shl pe_int (pe_callB call_len_seq (by rfl) T.n_len PySem.boot_len (pa_cons (pv 0) pa_nil))) pe_int))
      (pss_cons (ps_set (i := 7) nd rfl (Or.inl rfl) (pv 6))
      (pss_cons (ps_set (i := 8) nd rfl (Or.inl rfl) (pe_lst (pa_cons (pv 7) pa_nil)))
      (pss_cons (ps_set (i := 9) nd rfl (Or.inl rfl) (pe_lst pa_nil))
      (pss_cons (ps_for PassesOwn.never rfl (pi_zip (by rfl) T.n_zip (pa_cons (pv 1) (pa_cons (pv 2) pa_nil))) (pg_tup rfl (pgs_cons (pg_name (i := 5) nd rfl (Or.inl rfl)) (pgs_cons (pg_name (i := 10) nd rfl (Or.inl rfl)) pgs_nil)))
        (pss_cons (ps_set (i := 11) nd rfl (Or.inl rfl) (pe_op op_and (pv 7) (pe_dget2 (hu_of hr) (pv 3) (pv 5) pe_int ⟨rfl, rfl, rfl, rfl⟩)))
        (pss_cons (ps_set (i := 12) nd rfl (Or.inl rfl) (pe_op op_add (pe_op op_add (pv 7) (pv 11)) (pv 10)))
        (pss_cons (ps_expr (pe_bm PySem.F.plainAttrs_list PySem.F.slot_list_append PySem.F.type_list_append mt_append (pv 9) (pa_cons (pe_op op_shr (pv 12) (pe_callB call_len_seq (by rfl) T.n_len PySem.boot_len (pa_cons (pv 0) pa_nil))) pa_nil)))
        (pss_cons (ps_set (i := 7) nd rfl (Or.inl rfl) (pe_op op_or (pe_op op_and (pv 12) (pv 6)) (pe_op op_sub (pv 7) (pv 11))))
        (pss_one (ps_expr (pe_bm PySem.F.plainAttrs_list PySem.F.slot_list_append PySem.F.type_list_append mt_append (pv 8) (pa_cons (pv 7) pa_nil)))))))))
      (pss_one (ps_ret (pe_tup (pa_cons (pv 8) (pa_cons (pv 9) pa_nil)))))))))))),
    open PV in (ls_seq ls_dnew
      (ls_seq (ls_for (li_enum (la_cons le_var la_nil)) (lg_tgt (.tup (.cons (.name 4) (.cons (.name 5) .nil))))
      (ls_dput le_var (le_op lr_I0 (le_dget2 le_var le_c) (le_op lr_I le_c le_var))))
      (ls_seq (ls_asg (le_op lr_I0 (le_op lr_I le_c (le_cb lc_len (la_cons le_var la_nil))) le_c) (lg_name (b := false)))
      (ls_seq (ls_asg le_var (lg_name (b := false)))
      (ls_seq (ls_asg (le_lst (la_cons le_var la_nil)) (lg_name (b := true)))
      (ls_seq (ls_asg (le_lst la_nil) (lg_name (b := true)))
      (ls_seq (ls_for (li_zip (la_cons le_var (la_cons le_var la_nil))) (lg_tgt (.tup (.cons (.name 5) (.cons (.name 10) .nil))))
      (ls_seq (ls_asg (le_op lr_I0 le_var (le_dget2 le_var le_c)) (lg_name (b := false)))
      (ls_seq (ls_asg (le_op lr_I0 (le_op lr_I0 le_var le_var) le_var) (lg_name (b := false)))
      (ls_seq (ls_bm lm_append (la_cons (le_op lr_I le_var (le_cb lc_len (la_cons le_var la_nil))) la_nil))
      (ls_seq (ls_asg (le_op lr_I0 (le_op lr_I0 le_var le_var) (le_op lr_I0 le_var le_var)) (lg_name (b := false)))
      (ls_bm lm_append (la_cons le_var la_nil)))))))
      (ls_retD (le_tup (la_cons le_var (la_cons le_var la_nil))))))))))), fun as PX PQ h => ?_⟩
  replace h := h.2
  unfold pGRows at h
  split at h
  · next t bs t2 es t3 cs =>
    obtain ⟨hi, hi2, hl, hl2, hcs, kQ⟩ := h
    unfold PV.isInts at hi hi2
    generalize PV.intsOf bs = a at *
    generalize PV.intsOf es = b at *
    subst hi
    subst hi2
    subst hcs
    rw [List.length_map] at hl hl2
    simp only [PV.pDivMod, PV.ownsOf_dic, PV.pDNew, PV.pDPut, PV.pDGet2, PV.pDGet, PV.pDIn, PV.pLenD, PV.keyD, PV.pSlScr, PV.pZipT, PV.pRngC, PV.pRngV, PV.pSt1, PV.pM0, PV.pZipS, PV.pM1, PV.pJoin, PV.pFmt, PV.pJoined, PV.pJs, PV.pBMV, PV.pCount, PV.pIndex, PV.pSetIx2, PV.pRetT, PV.pLcF, PV.mapL_inj, PV.pVar, PV.pC, PV.pOp, PV.pUn, PV.pII, PV.pII0, PV.pNeg, PV.pSS, PV.pSS0, PV.eqF_int, PV.eqF_str, PV.eqF_bool, PV.eqF_ni, PV.eqF_in, PV.eqF_nn, PV.eqF_si, PV.eqF_is, PV.eqF_sn, PV.eqF_ns, PV.pEq, PV.pEqD, PV.isN, PV.pIsN, PV.Tg.d, PV.Tg.it, PV.Tg.itD, PV.Tg.ok, PV.pCat, PV.pRep, PV.pCatT, PV.pIn, PV.pNil, PV.pCons, PV.Tg.items, PV.pStar, PV.allD, PV.allS, PV.pTup, PV.pLst, PV.pNoPart, PV.pPart, PV.pSlL, PV.pSlT, PV.pCB, PV.pLen, PV.pLenS, PV.pI1, PV.pI10, PV.pI2, PV.pInt1, PV.pBool1, PV.pS1, PV.pListOf, PV.pTupOf, PV.tyD, PV.pIsi, PV.bD, PV.pAndV, PV.pOrV, PV.pNotV, PV.pIfE, PV.pT, PV.pAnd, PV.pOr, PV.pNot, PV.truD, PV.pTru, PV.pNotT, PV.pChain, PV.pThree, PV.Rs.arg, PV.lend, PV.pCall, PV.pCall0, PV.pIt, PV.pItT, PV.pRg1, PV.pRg2, PV.pRg3, PV.pEnum, PV.pZip, PV.pRev, PV.pStr, PV.setR, PV.pName, PV.pTgt, PV.pTgts, PV.pTg, PV.pNext, PV.pBreak, PV.pCont, PV.pSeq, PV.pShr, PV.pShrI, PV.shI, PV.pFgt, PV.fgt, PV.pAsg, PV.pExpr, PV.Rs.ret, PV.pRet, PV.pRetN, PV.pIf, PV.pFld, PV.pAug, PV.pPar, PV.pBM, PV.pBM0, PV.pAppend, PV.pExtend, PV.pExtT, PV.pClear, PV.pReverse, PV.pSetIx, PV.pFor, PV.wipeG, PV.pLc, PV.gG, PV.pGen, PV.pYes, PV.pSum, PV.pRaise, PV.pRaise1, PV.slA, PV.startG, PV.ends, PV.pRevL, PV.pSlS, PV.pSign, PV.pProp, PV.pMake, PV.pMake0, PV.pTry, PV.pRetD, PV.Rs.asD, PV.sg, PV.Sl.r, PV.dV, PV.flatD, PV.owns, PV.ownsOf_no, PV.ownsOf_dat, PV.ownsOf_obj, PV.ownsOf_own, PV.ownsOf_tab, PV.shr, PV.Sl.sh, PV.intsOf_map, PV.intsOf_app, PV.intsOf_nil, PV.intsOf_int, PV.isInts_map, PV.isInts_nil, PV.isInts_int, PV.isInts_mapL, PV.scr_key, PV.isiQ_s, PV.kit_int_int, PV.kit_int_bool, PV.kit_int_str, PV.kit_int_list, PV.kit_int_tuple, PV.kit_bool_int, PV.kit_bool_bool, PV.kit_bool_str, PV.kit_bool_list, PV.kit_bool_tuple, PV.kit_str_int, PV.kit_str_bool, PV.kit_str_str, PV.kit_str_list, PV.kit_str_tuple, PV.kit_list_int, PV.kit_list_bool, PV.kit_list_str, PV.kit_list_list, PV.kit_list_tuple, PV.kit_tuple_int, PV.kit_tuple_bool, PV.kit_tuple_str, PV.kit_tuple_list, PV.kit_tuple_tuple, PV.kit_NoneType_int, PV.kit_NoneType_bool, PV.kit_NoneType_str, PV.kit_NoneType_list, PV.kit_NoneType_tuple, PV.cutD_map, PV.allD_map, PV.allD_mapA, PV.allS_map, PV.allS_mapA, List.getElem?_cons_zero, List.getElem?_cons_succ, List.getElem?_nil, List.set_cons_zero, List.set_cons_succ, List.map_cons, List.map_nil, List.cons_append, List.nil_append, List.append_nil, List.length_cons, List.length_nil, List.length_map, List.length_append, List.length_replicate, PV.flat_rep, Nat.mul_one, Nat.one_mul, PV.rep_none, List.replicate_zero, List.all_cons, List.all_nil, cond_true, cond_false, Bool.and_true, Bool.true_and, Bool.and_false, Bool.false_and, Bool.not_true, Bool.not_false, Bool.not_not, if_true, if_false, ite_true, ite_false, true_and, and_true, true_implies, false_implies, reduceCtorEq, Nat.reduceAdd, Nat.reduceSub, Nat.reduceLT, Nat.reduceLeDiff, Bool.false_eq_true, decide_eq_true_eq, decide_eq_false_iff_not, Bool.not_eq_true, Bool.not_eq_false, Bool.not_eq_true', Bool.not_eq_false', Bool.true_eq_false, Option.map_some, Option.map_none, decide_true, decide_false, not_true_eq_false, not_false_eq_true, implies_true, forall_const, eq_self, Nat.reduceEqDiff, beq_self_eq_true, ne_eq, Int.reduceEq, Int.reduceNe, Int.reduceLT, Int.reduceLE, Int.reduceGT, Int.reduceGE, Int.reduceToNat, Int.reduceAdd, Int.reduceNeg, Nat.reduceLT, Nat.reduceLeDiff, Nat.reduceAdd, Nat.reduceMul, false_and, and_false, and_self, true_and, and_true, false_implies, PV.at0, PV.at1, PV.at2, PV.at3, PV.at4, PV.at5, Option.some.injEq, exists_eq_left', exists_eq_left]
    refine fun p => PV.loop_en a (fun i g => ∃ kvs o4 o5, (kvs.length ≤ i ∧ ∀ x, PV.getR kvs (.inl x) (.v .dat (.int 0)) = .v .dat (.int (val i fun c => decide (a.getD c 0 = x)))) ∧ (PV.ownsOf o4 = [] ∧ PV.ownsOf o5 = []) ∧
      g = [some (.dat (.list (a.map .int))), some (.dat (.list (b.map .int))), some (.dat (.list (List.replicate b.length (.int 0)))), some (.dic p kvs), o4, o5, none, none, none, none, none, none, none]) ⟨[], none, none, ⟨Nat.le_refl _, fun x => rfl⟩, ⟨rfl, rfl⟩, rfl⟩ ?_ ?_
    · rintro i x g hx ⟨kvs, o4, o5, ⟨h1, h2⟩, ⟨ho4, ho5⟩, rfl⟩ N hN
      have hi := (List.getElem?_eq_some_iff.mp hx).1
      have hxa : a.getD i 0 = x := by rw [List.getD_eq_getElem?_getD, hx]; rfl
      simp only [PV.pDivMod, PV.ownsOf_dic, PV.pDNew, PV.pDPut, PV.pDGet2, PV.pDGet, PV.pDIn, PV.pLenD, PV.keyD, PV.pSlScr, PV.pZipT, PV.pRngC, PV.pRngV, PV.pSt1, PV.pM0, PV.pZipS, PV.pM1, PV.pJoin, PV.pFmt, PV.pJoined, PV.pJs, PV.pBMV, PV.pCount, PV.pIndex, PV.pSetIx2, PV.pRetT, PV.pLcF, PV.mapL_inj, PV.pVar, PV.pC, PV.pOp, PV.pUn, PV.pII, PV.pII0, PV.pNeg, PV.pSS, PV.pSS0, PV.eqF_int, PV.eqF_str, PV.eqF_bool, PV.eqF_ni, PV.eqF_in, PV.eqF_nn, PV.eqF_si, PV.eqF_is, PV.eqF_sn, PV.eqF_ns, PV.pEq, PV.pEqD, PV.isN, PV.pIsN, PV.Tg.d, PV.Tg.it, PV.Tg.itD, PV.Tg.ok, PV.pCat, PV.pRep, PV.pCatT, PV.pIn, PV.pNil, PV.pCons, PV.Tg.items, PV.pStar, PV.allD, PV.allS, PV.pTup, PV.pLst, PV.pNoPart, PV.pPart, PV.pSlL, PV.pSlT, PV.pCB, PV.pLen, PV.pLenS, PV.pI1, PV.pI10, PV.pI2, PV.pInt1, PV.pBool1, PV.pS1, PV.pListOf, PV.pTupOf, PV.tyD, PV.pIsi, PV.bD, PV.pAndV, PV.pOrV, PV.pNotV, PV.pIfE, PV.pT, PV.pAnd, PV.pOr, PV.pNot, PV.truD, PV.pTru, PV.pNotT, PV.pChain, PV.pThree, PV.Rs.arg, PV.lend, PV.pCall, PV.pCall0, PV.pIt, PV.pItT, PV.pRg1, PV.pRg2, PV.pRg3, PV.pEnum, PV.pZip, PV.pRev, PV.pStr, PV.setR, PV.pName, PV.pTgt, PV.pTgts, PV.pTg, PV.pNext, PV.pBreak, PV.pCont, PV.pSeq, PV.pShr, PV.pShrI, PV.shI, PV.pFgt, PV.fgt, PV.pAsg, PV.pExpr, PV.Rs.ret, PV.pRet, PV.pRetN, PV.pIf, PV.pFld, PV.pAug, PV.pPar, PV.pBM, PV.pBM0, PV.pAppend, PV.pExtend, PV.pExtT, PV.pClear, PV.pReverse, PV.pSetIx, PV.pFor, PV.wipeG, PV.pLc, PV.gG, PV.pGen, PV.pYes, PV.pSum, PV.pRaise, PV.pRaise1, PV.slA, PV.startG, PV.ends, PV.pRevL, PV.pSlS, PV.pSign, PV.pProp, PV.pMake, PV.pMake0, PV.pTry, PV.pRetD, PV.Rs.asD, PV.sg, PV.Sl.r, PV.dV, PV.flatD, PV.owns, PV.ownsOf_no, PV.ownsOf_dat, PV.ownsOf_obj, PV.ownsOf_own, PV.ownsOf_tab, PV.shr, PV.Sl.sh, PV.intsOf_map, PV.intsOf_app, PV.intsOf_nil, PV.intsOf_int, PV.isInts_map, PV.isInts_nil, PV.isInts_int, PV.isInts_mapL, PV.scr_key, PV.isiQ_s, PV.kit_int_int, PV.kit_int_bool, PV.kit_int_str, PV.kit_int_list, PV.kit_int_tuple, PV.kit_bool_int, PV.kit_bool_bool, PV.kit_bool_str, PV.kit_bool_list, PV.kit_bool_tuple, PV.kit_str_int, PV.kit_str_bool, PV.kit_str_str, PV.kit_str_list, PV.kit_str_tuple, PV.kit_list_int, PV.kit_list_bool, PV.kit_list_str, PV.kit_list_list, PV.kit_list_tuple, PV.kit_tuple_int, PV.kit_tuple_bool, PV.kit_tuple_str, PV.kit_tuple_list, PV.kit_tuple_tuple, PV.kit_NoneType_int, PV.kit_NoneType_bool, PV.kit_NoneType_str, PV.kit_NoneType_list, PV.kit_NoneType_tuple, PV.cutD_map, PV.allD_map, PV.allD_mapA, PV.allS_map, PV.allS_mapA, List.getElem?_cons_zero, List.getElem?_cons_succ, List.getElem?_nil, List.set_cons_zero, List.set_cons_succ, List.map_cons, List.map_nil, List.cons_append, List.nil_append, List.append_nil, List.length_cons, List.length_nil, List.length_map, List.length_append, List.length_replicate, PV.flat_rep, Nat.mul_one, Nat.one_mul, PV.rep_none, List.replicate_zero, List.all_cons, List.all_nil, cond_true, cond_false, Bool.and_true, Bool.true_and, Bool.and_false, Bool.false_and, Bool.not_true, Bool.not_false, Bool.not_not, if_true, if_false, ite_true, ite_false, true_and, and_true, true_implies, false_implies, reduceCtorEq, Nat.reduceAdd, Nat.reduceSub, Nat.reduceLT, Nat.reduceLeDiff, Bool.false_eq_true, decide_eq_true_eq, decide_eq_false_iff_not, Bool.not_eq_true, Bool.not_eq_false, Bool.not_eq_true', Bool.not_eq_false', Bool.true_eq_false, Option.map_some, Option.map_none, decide_true, decide_false, not_true_eq_false, not_false_eq_true, implies_true, forall_const, eq_self, Nat.reduceEqDiff, beq_self_eq_true, ne_eq, Int.reduceEq, Int.reduceNe, Int.reduceLT, Int.reduceLE, Int.reduceGT, Int.reduceGE, Int.reduceToNat, Int.reduceAdd, Int.reduceNeg, Nat.reduceLT, Nat.reduceLeDiff, Nat.reduceAdd, Nat.reduceMul, false_and, and_false, and_self, true_and, and_true, false_implies, PV.at0, PV.at1, PV.at2, PV.at3, PV.at4, PV.at5, Option.some.injEq, exists_eq_left', exists_eq_left, h2]
      refine ⟨⟨by omega, by omega, by decide⟩, small (by omega), hN _ ⟨_, _, _, ⟨Nat.le_trans setK_len (by omega), fun y => ?_⟩, ⟨rfl, rfl⟩, rfl⟩⟩
      rw [getR_set, Int.toNat_natCast, pow2I, bor_pp, val_more]
      by_cases e : x = y
      · subst e
        rw [if_pos rfl]
        refine congrArg (fun v : Nat => PV.Rs.v .dat (.int (v : Int))) (val_congr fun c hc => ?_)
        by_cases hci : c = i
        · subst hci
          rw [if_pos rfl, decide_eq_true hxa]
        · rw [if_neg hci]
      · rw [if_neg e, h2]
        refine congrArg (fun v : Nat => PV.Rs.v .dat (.int (v : Int))) ?_
        rw [val, decide_eq_false (fun z => e (hxa.symm.trans z)), if_neg (by decide), Nat.add_zero]
    · rintro _ ⟨kvs, o4, o5, ⟨h1, h2⟩, ⟨ho4, ho5⟩, rfl⟩
      simp only [PV.pDivMod, PV.ownsOf_dic, PV.pDNew, PV.pDPut, PV.pDGet2, PV.pDGet, PV.pDIn, PV.pLenD, PV.keyD, PV.pSlScr, PV.pZipT, PV.pRngC, PV.pRngV, PV.pSt1, PV.pM0, PV.pZipS, PV.pM1, PV.pJoin, PV.pFmt, PV.pJoined, PV.pJs, PV.pBMV, PV.pCount, PV.pIndex, PV.pSetIx2, PV.pRetT, PV.pLcF, PV.mapL_inj, PV.pVar, PV.pC, PV.pOp, PV.pUn, PV.pII, PV.pII0, PV.pNeg, PV.pSS, PV.pSS0, PV.eqF_int, PV.eqF_str, PV.eqF_bool, PV.eqF_ni, PV.eqF_in, PV.eqF_nn, PV.eqF_si, PV.eqF_is, PV.eqF_sn, PV.eqF_ns, PV.pEq, PV.pEqD, PV.isN, PV.pIsN, PV.Tg.d, PV.Tg.it, PV.Tg.itD, PV.Tg.ok, PV.pCat, PV.pRep, PV.pCatT, PV.pIn, PV.pNil, PV.pCons, PV.Tg.items, PV.pStar, PV.allD, PV.allS, PV.pTup, PV.pLst, PV.pNoPart, PV.pPart, PV.pSlL, PV.pSlT, PV.pCB, PV.pLen, PV.pLenS, PV.pI1, PV.pI10, PV.pI2, PV.pInt1, PV.pBool1, PV.pS1, PV.pListOf, PV.pTupOf, PV.tyD, PV.pIsi, PV.bD, PV.pAndV, PV.pOrV, PV.pNotV, PV.pIfE, PV.pT, PV.pAnd, PV.pOr, PV.pNot, PV.truD, PV.pTru, PV.pNotT, PV.pChain, PV.pThree, PV.Rs.arg, PV.lend, PV.pCall, PV.pCall0, PV.pIt, PV.pItT, PV.pRg1, PV.pRg2, PV.pRg3, PV.pEnum, PV.pZip, PV.pRev, PV.pStr, PV.setR, PV.pName, PV.pTgt, PV.pTgts, PV.pTg, PV.pNext, PV.pBreak, PV.pCont, PV.pSeq, PV.pShr, PV.pShrI, PV.shI, PV.pFgt, PV.fgt, PV.pAsg, PV.pExpr, PV.Rs.ret, PV.pRet, PV.pRetN, PV.pIf, PV.pFld, PV.pAug, PV.pPar, PV.pBM, PV.pBM0, PV.pAppend, PV.pExtend, PV.pExtT, PV.pClear, PV.pReverse, PV.pSetIx, PV.pFor, PV.wipeG, PV.pLc, PV.gG, PV.pGen, PV.pYes, PV.pSum, PV.pRaise, PV.pRaise1, PV.slA, PV.startG, PV.ends, PV.pRevL, PV.pSlS, PV.pSign, PV.pProp, PV.pMake, PV.pMake0, PV.pTry, PV.pRetD, PV.Rs.asD, PV.sg, PV.Sl.r, PV.dV, PV.flatD, PV.owns, PV.ownsOf_no, PV.ownsOf_dat, PV.ownsOf_obj, PV.ownsOf_own, PV.ownsOf_tab, PV.shr, PV.Sl.sh, PV.intsOf_map, PV.intsOf_app, PV.intsOf_nil, PV.intsOf_int, PV.isInts_map, PV.isInts_nil, PV.isInts_int, PV.isInts_mapL, PV.scr_key, PV.isiQ_s, PV.kit_int_int, PV.kit_int_bool, PV.kit_int_str, PV.kit_int_list, PV.kit_int_tuple, PV.kit_bool_int, PV.kit_bool_bool, PV.kit_bool_str, PV.kit_bool_list, PV.kit_bool_tuple, PV.kit_str_int, PV.kit_str_bool, PV.kit_str_str, PV.kit_str_list, PV.kit_str_tuple, PV.kit_list_int, PV.kit_list_bool, PV.kit_list_str, PV.kit_list_list, PV.kit_list_tuple, PV.kit_tuple_int, PV.kit_tuple_bool, PV.kit_tuple_str, PV.kit_tuple_list, PV.kit_tuple_tuple, PV.kit_NoneType_int, PV.kit_NoneType_bool, PV.kit_NoneType_str, PV.kit_NoneType_list, PV.kit_NoneType_tuple, PV.cutD_map, PV.allD_map, PV.allD_mapA, PV.allS_map, PV.allS_mapA, List.getElem?_cons_zero, List.getElem?_cons_succ, List.getElem?_nil, List.set_cons_zero, List.set_cons_succ, List.map_cons, List.map_nil, List.cons_append, List.nil_append, List.append_nil, List.length_cons, List.length_nil, List.length_map, List.length_append, List.length_replicate, PV.flat_rep, Nat.mul_one, Nat.one_mul, PV.rep_none, List.replicate_zero, List.all_cons, List.all_nil, cond_true, cond_false, Bool.and_true, Bool.true_and, Bool.and_false, Bool.false_and, Bool.not_true, Bool.not_false, Bool.not_not, if_true, if_false, ite_true, ite_false, true_and, and_true, true_implies, false_implies, reduceCtorEq, Nat.reduceAdd, Nat.reduceSub, Nat.reduceLT, Nat.reduceLeDiff, Bool.false_eq_true, decide_eq_true_eq, decide_eq_false_iff_not, Bool.not_eq_true, Bool.not_eq_false, Bool.not_eq_true', Bool.not_eq_false', Bool.true_eq_false, Option.map_some, Option.map_none, decide_true, decide_false, not_true_eq_false, not_false_eq_true, implies_true, forall_const, eq_self, Nat.reduceEqDiff, beq_self_eq_true, ne_eq, Int.reduceEq, Int.reduceNe, Int.reduceLT, Int.reduceLE, Int.reduceGT, Int.reduceGE, Int.reduceToNat, Int.reduceAdd, Int.reduceNeg, Nat.reduceLT, Nat.reduceLeDiff, Nat.reduceAdd, Nat.reduceMul, false_and, and_false, and_self, true_and, and_true, false_implies, PV.at0, PV.at1, PV.at2, PV.at3, PV.at4, PV.at5, Option.some.injEq, exists_eq_left', exists_eq_left, ho4, ho5]
      refine ⟨⟨by omega, by omega, by decide⟩, by decide, fun p1 => ⟨by decide, fun p2 => ?_⟩⟩
      rw [zip_zero, Int.toNat_natCast]
      have hfull : (1 : Int) * 2 ^ a.length - 1 = (rowN a b 0 : Int) := by
        rw [rowN_0, pow2I]
        have := Nat.two_pow_pos a.length
        omega
      refine PV.loop_ix (inj := fun x => PyData.tuple [.int x, .int 0]) b (fun r g => ∃ (car : List Int) (o4 o5 o10 o11 o12 : Option PV.Sl), (car.length ≤ r) ∧ (PV.ownsOf o4 = [] ∧ PV.ownsOf o5 = [] ∧ PV.ownsOf o10 = [] ∧ PV.ownsOf o11 = [] ∧ PV.ownsOf o12 = []) ∧
        g = [some (.dat (.list (a.map .int))), some (.dat (.list (b.map .int))), some (.dat (.list (List.replicate b.length (.int 0)))), some (.dic p kvs), o4, o5, some (.dat (.int ((1 : Int) * 2 ^ a.length - 1))), some (.dat (.int (rowN a b r : Int))), some (.own p1 ((rowsTo a b (r + 1)).map .int)), some (.own p2 (car.map .int)), o10, o11, o12]) ⟨[], o4, o5, none, none, none, Nat.le_refl _, ⟨ho4, ho5, rfl, rfl, rfl⟩, by rw [hfull]; rfl⟩ ?_ ?_
      · rintro r x g hx ⟨car, o4, o5, o10, o11, o12, hc, ⟨ho4, ho5, ho10, ho11, ho12⟩, rfl⟩ N hN
        have hr := (List.getElem?_eq_some_iff.mp hx).1
        have hxb : b.getD r 0 = x := by rw [List.getD_eq_getElem?_getD, hx]; rfl
        have hmb : (fun c => decide (a.getD c 0 = x)) = mb a b r := funext fun c => by unfold mb; rw [hxb]
        have h2x := h2 x
        rw [hmb] at h2x
        obtain ⟨_, hst⟩ := row_stepI (a := a) (b := b) (r := r)
        simp only [PV.pDivMod, PV.ownsOf_dic, PV.pDNew, PV.pDPut, PV.pDGet2, PV.pDGet, PV.pDIn, PV.pLenD, PV.keyD, PV.pSlScr, PV.pZipT, PV.pRngC, PV.pRngV, PV.pSt1, PV.pM0, PV.pZipS, PV.pM1, PV.pJoin, PV.pFmt, PV.pJoined, PV.pJs, PV.pBMV, PV.pCount, PV.pIndex, PV.pSetIx2, PV.pRetT, PV.pLcF, PV.mapL_inj, PV.pVar, PV.pC, PV.pOp, PV.pUn, PV.pII, PV.pII0, PV.pNeg, PV.pSS, PV.pSS0, PV.eqF_int, PV.eqF_str, PV.eqF_bool, PV.eqF_ni, PV.eqF_in, PV.eqF_nn, PV.eqF_si, PV.eqF_is, PV.eqF_sn, PV.eqF_ns, PV.pEq, PV.pEqD, PV.isN, PV.pIsN, PV.Tg.d, PV.Tg.it, PV.Tg.itD, PV.Tg.ok, PV.pCat, PV.pRep, PV.pCatT, PV.pIn, PV.pNil, PV.pCons, PV.Tg.items, PV.pStar, PV.allD, PV.allS, PV.pTup, PV.pLst, PV.pNoPart, PV.pPart, PV.pSlL, PV.pSlT, PV.pCB, PV.pLen, PV.pLenS, PV.pI1, PV.pI10, PV.pI2, PV.pInt1, PV.pBool1, PV.pS1, PV.pListOf, PV.pTupOf, PV.tyD, PV.pIsi, PV.bD, PV.pAndV, PV.pOrV, PV.pNotV, PV.pIfE, PV.pT, PV.pAnd, PV.pOr, PV.pNot, PV.truD, PV.pTru, PV.pNotT, PV.pChain, PV.pThree, PV.Rs.arg, PV.lend, PV.pCall, PV.pCall0, PV.pIt, PV.pItT, PV.pRg1, PV.pRg2, PV.pRg3, PV.pEnum, PV.pZip, PV.pRev, PV.pStr, PV.setR, PV.pName, PV.pTgt, PV.pTgts, PV.pTg, PV.pNext, PV.pBreak, PV.pCont, PV.pSeq, PV.pShr, PV.pShrI, PV.shI, PV.pFgt, PV.fgt, PV.pAsg, PV.pExpr, PV.Rs.ret, PV.pRet, PV.pRetN, PV.pIf, PV.pFld, PV.pAug, PV.pPar, PV.pBM, PV.pBM0, PV.pAppend, PV.pExtend, PV.pExtT, PV.pClear, PV.pReverse, PV.pSetIx, PV.pFor, PV.wipeG, PV.pLc, PV.gG, PV.pGen, PV.pYes, PV.pSum, PV.pRaise, PV.pRaise1, PV.slA, PV.startG, PV.ends, PV.pRevL, PV.pSlS, PV.pSign, PV.pProp, PV.pMake, PV.pMake0, PV.pTry, PV.pRetD, PV.Rs.asD, PV.sg, PV.Sl.r, PV.dV, PV.flatD, PV.owns, PV.ownsOf_no, PV.ownsOf_dat, PV.ownsOf_obj, PV.ownsOf_own, PV.ownsOf_tab, PV.shr, PV.Sl.sh, PV.intsOf_map, PV.intsOf_app, PV.intsOf_nil, PV.intsOf_int, PV.isInts_map, PV.isInts_nil, PV.isInts_int, PV.isInts_mapL, PV.scr_key, PV.isiQ_s, PV.kit_int_int, PV.kit_int_bool, PV.kit_int_str, PV.kit_int_list, PV.kit_int_tuple, PV.kit_bool_int, PV.kit_bool_bool, PV.kit_bool_str, PV.kit_bool_list, PV.kit_bool_tuple, PV.kit_str_int, PV.kit_str_bool, PV.kit_str_str, PV.kit_str_list, PV.kit_str_tuple, PV.kit_list_int, PV.kit_list_bool, PV.kit_list_str, PV.kit_list_list, PV.kit_list_tuple, PV.kit_tuple_int, PV.kit_tuple_bool, PV.kit_tuple_str, PV.kit_tuple_list, PV.kit_tuple_tuple, PV.kit_NoneType_int, PV.kit_NoneType_bool, PV.kit_NoneType_str, PV.kit_NoneType_list, PV.kit_NoneType_tuple, PV.cutD_map, PV.allD_map, PV.allD_mapA, PV.allS_map, PV.allS_mapA, List.getElem?_cons_zero, List.getElem?_cons_succ, List.getElem?_nil, List.set_cons_zero, List.set_cons_succ, List.map_cons, List.map_nil, List.cons_append, List.nil_append, List.append_nil, List.length_cons, List.length_nil, List.length_map, List.length_append, List.length_replicate, PV.flat_rep, Nat.mul_one, Nat.one_mul, PV.rep_none, List.replicate_zero, List.all_cons, List.all_nil, cond_true, cond_false, Bool.and_true, Bool.true_and, Bool.and_false, Bool.false_and, Bool.not_true, Bool.not_false, Bool.not_not, if_true, if_false, ite_true, ite_false, true_and, and_true, true_implies, false_implies, reduceCtorEq, Nat.reduceAdd, Nat.reduceSub, Nat.reduceLT, Nat.reduceLeDiff, Bool.false_eq_true, decide_eq_true_eq, decide_eq_false_iff_not, Bool.not_eq_true, Bool.not_eq_false, Bool.not_eq_true', Bool.not_eq_false', Bool.true_eq_false, Option.map_some, Option.map_none, decide_true, decide_false, not_true_eq_false, not_false_eq_true, implies_true, forall_const, eq_self, Nat.reduceEqDiff, beq_self_eq_true, ne_eq, Int.reduceEq, Int.reduceNe, Int.reduceLT, Int.reduceLE, Int.reduceGT, Int.reduceGE, Int.reduceToNat, Int.reduceAdd, Int.reduceNeg, Nat.reduceLT, Nat.reduceLeDiff, Nat.reduceAdd, Nat.reduceMul, false_and, and_false, and_self, true_and, and_true, false_implies, PV.at0, PV.at1, PV.at2, PV.at3, PV.at4, PV.at5, Option.some.injEq, exists_eq_left', exists_eq_left, h2x, band_pp, hst]
        rw [rowsTo_len]
        have fin : ∀ z1 z2 z3 : Int, N [some (.dat (.list (a.map .int))), some (.dat (.list (b.map .int))), some (.dat (.list (List.replicate b.length (.int 0)))), some (.dic p kvs), o4, some (.dat (.int x)), some (.dat (.int ((1 : Int) * 2 ^ a.length - 1))), some (.dat (.int (rowN a b (r + 1) : Int))), some (.own p1 ((rowsTo a b (r + 1)).map .int ++ [.int (rowN a b (r + 1) : Int)])), some (.own p2 (car.map .int ++ [.int z1])), some (.dat (.int 0)), some (.dat (.int z2)), some (.dat (.int z3))] := fun z1 z2 z3 => by
          refine hN _ ⟨car ++ [z1], o4, some (.dat (.int x)), some (.dat (.int 0)), some (.dat (.int z2)), some (.dat (.int z3)), ?_, ⟨ho4, rfl, rfl, rfl, rfl⟩, ?_⟩
          · rw [List.length_append]
            exact Nat.add_le_add hc (Nat.le_refl 1)
          · rw [rowsTo_s a b (r + 1), List.map_append, List.map_append]
            rfl
        exact ⟨by omega, small (by omega), small (by omega), fin _ _ _⟩
      · rintro _ ⟨car, o4, o5, o10, o11, o12, hc, ⟨ho4, ho5, ho10, ho11, ho12⟩, rfl⟩
        simp only [PV.pDivMod, PV.ownsOf_dic, PV.pDNew, PV.pDPut, PV.pDGet2, PV.pDGet, PV.pDIn, PV.pLenD, PV.keyD, PV.pSlScr, PV.pZipT, PV.pRngC, PV.pRngV, PV.pSt1, PV.pM0, PV.pZipS, PV.pM1, PV.pJoin, PV.pFmt, PV.pJoined, PV.pJs, PV.pBMV, PV.pCount, PV.pIndex, PV.pSetIx2, PV.pRetT, PV.pLcF, PV.mapL_inj, PV.pVar, PV.pC, PV.pOp, PV.pUn, PV.pII, PV.pII0, PV.pNeg, PV.pSS, PV.pSS0, PV.eqF_int, PV.eqF_str, PV.eqF_bool, PV.eqF_ni, PV.eqF_in, PV.eqF_nn, PV.eqF_si, PV.eqF_is, PV.eqF_sn, PV.eqF_ns, PV.pEq, PV.pEqD, PV.isN, PV.pIsN, PV.Tg.d, PV.Tg.it, PV.Tg.itD, PV.Tg.ok, PV.pCat, PV.pRep, PV.pCatT, PV.pIn, PV.pNil, PV.pCons, PV.Tg.items, PV.pStar, PV.allD, PV.allS, PV.pTup, PV.pLst, PV.pNoPart, PV.pPart, PV.pSlL, PV.pSlT, PV.pCB, PV.pLen, PV.pLenS, PV.pI1, PV.pI10, PV.pI2, PV.pInt1, PV.pBool1, PV.pS1, PV.pListOf, PV.pTupOf, PV.tyD, PV.pIsi, PV.bD, PV.pAndV, PV.pOrV, PV.pNotV, PV.pIfE, PV.pT, PV.pAnd, PV.pOr, PV.pNot, PV.truD, PV.pTru, PV.pNotT, PV.pChain, PV.pThree, PV.Rs.arg, PV.lend, PV.pCall, PV.pCall0, PV.pIt, PV.pItT, PV.pRg1, PV.pRg2, PV.pRg3, PV.pEnum, PV.pZip, PV.pRev, PV.pStr, PV.setR, PV.pName, PV.pTgt, PV.pTgts, PV.pTg, PV.pNext, PV.pBreak, PV.pCont, PV.pSeq, PV.pShr, PV.pShrI, PV.shI, PV.pFgt, PV.fgt, PV.pAsg, PV.pExpr, PV.Rs.ret, PV.pRet, PV.pRetN, PV.pIf, PV.pFld, PV.pAug, PV.pPar, PV.pBM, PV.pBM0, PV.pAppend, PV.pExtend, PV.pExtT, PV.pClear, PV.pReverse, PV.pSetIx, PV.pFor, PV.wipeG, PV.pLc, PV.gG, PV.pGen, PV.pYes, PV.pSum, PV.pRaise, PV.pRaise1, PV.slA, PV.startG, PV.ends, PV.pRevL, PV.pSlS, PV.pSign, PV.pProp, PV.pMake, PV.pMake0, PV.pTry, PV.pRetD, PV.Rs.asD, PV.sg, PV.Sl.r, PV.dV, PV.flatD, PV.owns, PV.ownsOf_no, PV.ownsOf_dat, PV.ownsOf_obj, PV.ownsOf_own, PV.ownsOf_tab, PV.shr, PV.Sl.sh, PV.intsOf_map, PV.intsOf_app, PV.intsOf_nil, PV.intsOf_int, PV.isInts_map, PV.isInts_nil, PV.isInts_int, PV.isInts_mapL, PV.scr_key, PV.isiQ_s, PV.kit_int_int, PV.kit_int_bool, PV.kit_int_str, PV.kit_int_list, PV.kit_int_tuple, PV.kit_bool_int, PV.kit_bool_bool, PV.kit_bool_str, PV.kit_bool_list, PV.kit_bool_tuple, PV.kit_str_int, PV.kit_str_bool, PV.kit_str_str, PV.kit_str_list, PV.kit_str_tuple, PV.kit_list_int, PV.kit_list_bool, PV.kit_list_str, PV.kit_list_list, PV.kit_list_tuple, PV.kit_tuple_int, PV.kit_tuple_bool, PV.kit_tuple_str, PV.kit_tuple_list, PV.kit_tuple_tuple, PV.kit_NoneType_int, PV.kit_NoneType_bool, PV.kit_NoneType_str, PV.kit_NoneType_list, PV.kit_NoneType_tuple, PV.cutD_map, PV.allD_map, PV.allD_mapA, PV.allS_map, PV.allS_mapA, List.getElem?_cons_zero, List.getElem?_cons_succ, List.getElem?_nil, List.set_cons_zero, List.set_cons_succ, List.map_cons, List.map_nil, List.cons_append, List.nil_append, List.append_nil, List.length_cons, List.length_nil, List.length_map, List.length_append, List.length_replicate, PV.flat_rep, Nat.mul_one, Nat.one_mul, PV.rep_none, List.replicate_zero, List.all_cons, List.all_nil, cond_true, cond_false, Bool.and_true, Bool.true_and, Bool.and_false, Bool.false_and, Bool.not_true, Bool.not_false, Bool.not_not, if_true, if_false, ite_true, ite_false, true_and, and_true, true_implies, false_implies, reduceCtorEq, Nat.reduceAdd, Nat.reduceSub, Nat.reduceLT, Nat.reduceLeDiff, Bool.false_eq_true, decide_eq_true_eq, decide_eq_false_iff_not, Bool.not_eq_true, Bool.not_eq_false, Bool.not_eq_true', Bool.not_eq_false', Bool.true_eq_false, Option.map_some, Option.map_none, decide_true, decide_false, not_true_eq_false, not_false_eq_true, implies_true, forall_const, eq_self, Nat.reduceEqDiff, beq_self_eq_true, ne_eq, Int.reduceEq, Int.reduceNe, Int.reduceLT, Int.reduceLE, Int.reduceGT, Int.reduceGE, Int.reduceToNat, Int.reduceAdd, Int.reduceNeg, Nat.reduceLT, Nat.reduceLeDiff, Nat.reduceAdd, Nat.reduceMul, false_and, and_false, and_self, true_and, and_true, false_implies, PV.at0, PV.at1, PV.at2, PV.at3, PV.at4, PV.at5, Option.some.injEq, exists_eq_left', exists_eq_left, ho4, ho5, ho10, ho11, ho12]
        exact ⟨by decide, kQ car⟩
  · exact h.elim
def pGBlocks : PV.PSp := fun as _ Q => match as with
  | [.v _ (.list bs), .v _ (.list ns)] => PV.isInts bs ∧ PV.isInts ns ∧ bs.length ≤ 1024 ∧ ns.length ≤ 10000 ∧
    Q (.v .dat (.list (if bs.length = 0 then [] else [.list ((rowsI (PV.intsOf bs) (PV.intsOf ns)).map .int)])))
  | _ => False
theorem ok__gain_blocks (T : Txt K mg) : Ok P w K mg base CX0 2 "_gain_blocks" ["old", "new"] (PV.spP K [] (PV.sg 2 pGBlocks)) := by
  have G__gain_rows := ok__gain_rows (P := P) (w := w) (base := base) T
  refine PV.pv_def T.d__gain_blocks sc__gain_blocks (fun as PX PQ h => h.1) fun f cdv A outer s H E hr => ?_
  have nd := sc__gain_blocks.nd
  refine ⟨_, _, (pss_cons (ps_set (i := 2) nd rfl (Or.inl rfl) (pe_lst pa_nil))
      (pss_cons (ps_set (i := 3) nd rfl (Or.inl rfl) (pe_op op_rep (pe_lst (pa_cons pe_int pa_nil)) (pe_callB call_len_seq (by rfl) T.n_len PySem.boot_len (pa_cons (pv 1) pa_nil))))
      (pss_cons (ps_for PassesOwn.never rfl (pi_range3 rfl T.n_range (pa_cons pe_int (pa_cons (pe_callB call_len_seq (by rfl) T.n_len PySem.boot_len (pa_cons (pv 0) pa_nil)) (pa_cons (pe_globC rfl T.c_BLOCK) pa_nil)))) (pg_name (i := 4) nd rfl (Or.inl rfl))
        (pss_cons (ps_asg (pe_callO G__gain_rows (hr.mono (by decide)) pass0 (pa_cons (pe_slice sl_list (pv 0) (po_some (pv 4)) (po_some (pe_op op_add (pv 4) (pe_globC rfl T.c_BLOCK)))) (pa_cons (pv 1) (pa_cons (pv 3) pa_nil)))) (pg_tup rfl (pgs_cons (pg_name (i := 5) nd rfl (Or.inl rfl)) (pgs_cons (pg_name (i := 3) nd rfl (Or.inl rfl)) pgs_nil))))
        (pss_one (ps_expr (pe_bm PySem.F.plainAttrs_list PySem.F.slot_list_append PySem.F.type_list_append mt_append (pv 2) (pa_cons (pv 5) pa_nil))))))
      (pss_one (ps_ret (pv 2)))))),
    open PV in (ls_seq (ls_asg (le_lst la_nil) (lg_name (b := true)))
      (ls_seq (ls_asg (le_op lr_rep (le_lst (la_cons le_c la_nil)) (le_cb lc_len (la_cons le_var la_nil))) (lg_name (b := false)))
      (ls_seq (ls_for (li_rg3 (la_cons le_c (la_cons (le_cb lc_len (la_cons le_var la_nil)) (la_cons le_c la_nil)))) (lg_tgt (.name 4))
      (ls_seq (ls_asg (le_call0 spok (la_cons (le_slL le_var (lo_some le_var) (lo_some (le_op lr_I0 le_var le_c))) (la_cons le_var (la_cons le_var la_nil)))) (lg_tgt (.tup (.cons (.name 5) (.cons (.name 3) .nil)))))
      (ls_bm lm_append (la_cons le_var la_nil))))
      (ls_retD le_var)))), fun as PX PQ h => ?_⟩
  replace h := h.2
  unfold pGBlocks at h
  split at h
  · next t bs t2 es =>
    obtain ⟨hi, hi2, hl, hl2, kQ⟩ := h
    unfold PV.isInts at hi hi2
    generalize PV.intsOf bs = a at *
    generalize PV.intsOf es = b at *
    subst hi
    subst hi2
    rw [List.length_map] at hl hl2
    rw [List.length_map] at kQ
    simp only [PV.pDivMod, PV.ownsOf_dic, PV.pDNew, PV.pDPut, PV.pDGet2, PV.pDGet, PV.pDIn, PV.pLenD, PV.keyD, PV.pSlScr, PV.pZipT, PV.pRngC, PV.pRngV, PV.pSt1, PV.pM0, PV.pZipS, PV.pM1, PV.pJoin, PV.pFmt, PV.pJoined, PV.pJs, PV.pBMV, PV.pCount, PV.pIndex, PV.pSetIx2, PV.pRetT, PV.pLcF, PV.mapL_inj, PV.pVar, PV.pC, PV.pOp, PV.pUn, PV.pII, PV.pII0, PV.pNeg, PV.pSS, PV.pSS0, PV.eqF_int, PV.eqF_str, PV.eqF_bool, PV.eqF_ni, PV.eqF_in, PV.eqF_nn, PV.eqF_si, PV.eqF_is, PV.eqF_sn, PV.eqF_ns, PV.pEq, PV.pEqD, PV.isN, PV.pIsN, PV.Tg.d, PV.Tg.it, PV.Tg.itD, PV.Tg.ok, PV.pCat, PV.pRep, PV.pCatT, PV.pIn, PV.pNil, PV.pCons, PV.Tg.items, PV.pStar, PV.allD, PV.allS, PV.pTup, PV.pLst, PV.pNoPart, PV.pPart, PV.pSlL, PV.pSlT, PV.pCB, PV.pLen, PV.pLenS, PV.pI1, PV.pI10, PV.pI2, PV.pInt1, PV.pBool1, PV.pS1, PV.pListOf, PV.pTupOf, PV.tyD, PV.pIsi, PV.bD, PV.pAndV, PV.pOrV, PV.pNotV, PV.pIfE, PV.pT, PV.pAnd, PV.pOr, PV.pNot, PV.truD, PV.pTru, PV.pNotT, PV.pChain, PV.pThree, PV.Rs.arg, PV.lend, PV.pCall, PV.pCall0, PV.pIt, PV.pItT, PV.pRg1, PV.pRg2, PV.pRg3, PV.pEnum, PV.pZip, PV.pRev, PV.pStr, PV.setR, PV.pName, PV.pTgt, PV.pTgts, PV.pTg, PV.pNext, PV.pBreak, PV.pCont, PV.pSeq, PV.pShr, PV.pShrI, PV.shI, PV.pFgt, PV.fgt, PV.pAsg, PV.pExpr, PV.Rs.ret, PV.pRet, PV.pRetN, PV.pIf, PV.pFld, PV.pAug, PV.pPar, PV.pBM, PV.pBM0, PV.pAppend, PV.pExtend, PV.pExtT, PV.pClear, PV.pReverse, PV.pSetIx, PV.pFor, PV.wipeG, PV.pLc, PV.gG, PV.pGen, PV.pYes, PV.pSum, PV.pRaise, PV.pRaise1, PV.slA, PV.startG, PV.ends, PV.pRevL, PV.pSlS, PV.pSign, PV.pProp, PV.pMake, PV.pMake0, PV.pTry, PV.pRetD, PV.Rs.asD, PV.sg, PV.Sl.r, PV.dV, PV.flatD, PV.owns, PV.ownsOf_no, PV.ownsOf_dat, PV.ownsOf_obj, PV.ownsOf_own, PV.ownsOf_tab, PV.shr, PV.Sl.sh, PV.intsOf_map, PV.intsOf_app, PV.intsOf_nil, PV.intsOf_int, PV.isInts_map, PV.isInts_nil, PV.isInts_int, PV.isInts_mapL, PV.scr_key, PV.isiQ_s, PV.kit_int_int, PV.kit_int_bool, PV.kit_int_str, PV.kit_int_list, PV.kit_int_tuple, PV.kit_bool_int, PV.kit_bool_bool, PV.kit_bool_str, PV.kit_bool_list, PV.kit_bool_tuple, PV.kit_str_int, PV.kit_str_bool, PV.kit_str_str, PV.kit_str_list, PV.kit_str_tuple, PV.kit_list_int, PV.kit_list_bool, PV.kit_list_str, PV.kit_list_list, PV.kit_list_tuple, PV.kit_tuple_int, PV.kit_tuple_bool, PV.kit_tuple_str, PV.kit_tuple_list, PV.kit_tuple_tuple, PV.kit_NoneType_int, PV.kit_NoneType_bool, PV.kit_NoneType_str, PV.kit_NoneType_list, PV.kit_NoneType_tuple, PV.cutD_map, PV.allD_map, PV.allD_mapA, PV.allS_map, PV.allS_mapA, List.getElem?_cons_zero, List.getElem?_cons_succ, List.getElem?_nil, List.set_cons_zero, List.set_cons_succ, List.map_cons, List.map_nil, List.cons_append, List.nil_append, List.append_nil, List.length_cons, List.length_nil, List.length_map, List.length_append, List.length_replicate, PV.flat_rep, Nat.mul_one, Nat.one_mul, PV.rep_none, List.replicate_zero, List.all_cons, List.all_nil, cond_true, cond_false, Bool.and_true, Bool.true_and, Bool.and_false, Bool.false_and, Bool.not_true, Bool.not_false, Bool.not_not, if_true, if_false, ite_true, ite_false, true_and, and_true, true_implies, false_implies, reduceCtorEq, Nat.reduceAdd, Nat.reduceSub, Nat.reduceLT, Nat.reduceLeDiff, Bool.false_eq_true, decide_eq_true_eq, decide_eq_false_iff_not, Bool.not_eq_true, Bool.not_eq_false, Bool.not_eq_true', Bool.not_eq_false', Bool.true_eq_false, Option.map_some, Option.map_none, decide_true, decide_false, not_true_eq_false, not_false_eq_true, implies_true, forall_const, eq_self, Nat.reduceEqDiff, beq_self_eq_true, ne_eq, Int.reduceEq, Int.reduceNe, Int.reduceLT, Int.reduceLE, Int.reduceGT, Int.reduceGE, Int.reduceToNat, Int.reduceAdd, Int.reduceNeg, Nat.reduceLT, Nat.reduceLeDiff, Nat.reduceAdd, Nat.reduceMul, false_and, and_false, and_self, true_and, and_true, false_implies, PV.at0, PV.at1, PV.at2, PV.at3, PV.at4, PV.at5, Option.some.injEq, exists_eq_left', exists_eq_left]
    rw [Int.toNat_natCast]
    refine ⟨by decide, fun p => ⟨by decide, by omega, by omega, smallE (by omega), ?_⟩⟩
    by_cases h0 : a.length = 0
    · refine ⟨0, PV.rgc_up (by decide) (by decide) (by decide) (by decide) (by omega) (by omega) (by omega) (by split <;> omega), PV.loop_inv (inj := PyData.int) [] (fun _ g => g = [some (.dat (.list (a.map .int))), some (.dat (.list (b.map .int))), some (.own p []), some (.dat (.list (List.replicate b.length (.int 0)))), none, none]) rfl (fun pre x post g e => by simp at e) ?_⟩
      rintro _ rfl
      simp only [PV.pDivMod, PV.ownsOf_dic, PV.pDNew, PV.pDPut, PV.pDGet2, PV.pDGet, PV.pDIn, PV.pLenD, PV.keyD, PV.pSlScr, PV.pZipT, PV.pRngC, PV.pRngV, PV.pSt1, PV.pM0, PV.pZipS, PV.pM1, PV.pJoin, PV.pFmt, PV.pJoined, PV.pJs, PV.pBMV, PV.pCount, PV.pIndex, PV.pSetIx2, PV.pRetT, PV.pLcF, PV.mapL_inj, PV.pVar, PV.pC, PV.pOp, PV.pUn, PV.pII, PV.pII0, PV.pNeg, PV.pSS, PV.pSS0, PV.eqF_int, PV.eqF_str, PV.eqF_bool, PV.eqF_ni, PV.eqF_in, PV.eqF_nn, PV.eqF_si, PV.eqF_is, PV.eqF_sn, PV.eqF_ns, PV.pEq, PV.pEqD, PV.isN, PV.pIsN, PV.Tg.d, PV.Tg.it, PV.Tg.itD, PV.Tg.ok, PV.pCat, PV.pRep, PV.pCatT, PV.pIn, PV.pNil, PV.pCons, PV.Tg.items, PV.pStar, PV.allD, PV.allS, PV.pTup, PV.pLst, PV.pNoPart, PV.pPart, PV.pSlL, PV.pSlT, PV.pCB, PV.pLen, PV.pLenS, PV.pI1, PV.pI10, PV.pI2, PV.pInt1, PV.pBool1, PV.pS1, PV.pListOf, PV.pTupOf, PV.tyD, PV.pIsi, PV.bD, PV.pAndV, PV.pOrV, PV.pNotV, PV.pIfE, PV.pT, PV.pAnd, PV.pOr, PV.pNot, PV.truD, PV.pTru, PV.pNotT, PV.pChain, PV.pThree, PV.Rs.arg, PV.lend, PV.pCall, PV.pCall0, PV.pIt, PV.pItT, PV.pRg1, PV.pRg2, PV.pRg3, PV.pEnum, PV.pZip, PV.pRev, PV.pStr, PV.setR, PV.pName, PV.pTgt, PV.pTgts, PV.pTg, PV.pNext, PV.pBreak, PV.pCont, PV.pSeq, PV.pShr, PV.pShrI, PV.shI, PV.pFgt, PV.fgt, PV.pAsg, PV.pExpr, PV.Rs.ret, PV.pRet, PV.pRetN, PV.pIf, PV.pFld, PV.pAug, PV.pPar, PV.pBM, PV.pBM0, PV.pAppend, PV.pExtend, PV.pExtT, PV.pClear, PV.pReverse, PV.pSetIx, PV.pFor, PV.wipeG, PV.pLc, PV.gG, PV.pGen, PV.pYes, PV.pSum, PV.pRaise, PV.pRaise1, PV.slA, PV.startG, PV.ends, PV.pRevL, PV.pSlS, PV.pSign, PV.pProp, PV.pMake, PV.pMake0, PV.pTry, PV.pRetD, PV.Rs.asD, PV.sg, PV.Sl.r, PV.dV, PV.flatD, PV.owns, PV.ownsOf_no, PV.ownsOf_dat, PV.ownsOf_obj, PV.ownsOf_own, PV.ownsOf_tab, PV.shr, PV.Sl.sh, PV.intsOf_map, PV.intsOf_app, PV.intsOf_nil, PV.intsOf_int, PV.isInts_map, PV.isInts_nil, PV.isInts_int, PV.isInts_mapL, PV.scr_key, PV.isiQ_s, PV.kit_int_int, PV.kit_int_bool, PV.kit_int_str, PV.kit_int_list, PV.kit_int_tuple, PV.kit_bool_int, PV.kit_bool_bool, PV.kit_bool_str, PV.kit_bool_list, PV.kit_bool_tuple, PV.kit_str_int, PV.kit_str_bool, PV.kit_str_str, PV.kit_str_list, PV.kit_str_tuple, PV.kit_list_int, PV.kit_list_bool, PV.kit_list_str, PV.kit_list_list, PV.kit_list_tuple, PV.kit_tuple_int, PV.kit_tuple_bool, PV.kit_tuple_str, PV.kit_tuple_list, PV.kit_tuple_tuple, PV.kit_NoneType_int, PV.kit_NoneType_bool, PV.kit_NoneType_str, PV.kit_NoneType_list, PV.kit_NoneType_tuple, PV.cutD_map, PV.allD_map, PV.allD_mapA, PV.allS_map, PV.allS_mapA, List.getElem?_cons_zero, List.getElem?_cons_succ, List.getElem?_nil, List.set_cons_zero, List.set_cons_succ, List.map_cons, List.map_nil, List.cons_append, List.nil_append, List.append_nil, List.length_cons, List.length_nil, List.length_map, List.length_append, List.length_replicate, PV.flat_rep, Nat.mul_one, Nat.one_mul, PV.rep_none, List.replicate_zero, List.all_cons, List.all_nil, cond_true, cond_false, Bool.and_true, Bool.true_and, Bool.and_false, Bool.false_and, Bool.not_true, Bool.not_false, Bool.not_not, if_true, if_false, ite_true, ite_false, true_and, and_true, true_implies, false_implies, reduceCtorEq, Nat.reduceAdd, Nat.reduceSub, Nat.reduceLT, Nat.reduceLeDiff, Bool.false_eq_true, decide_eq_true_eq, decide_eq_false_iff_not, Bool.not_eq_true, Bool.not_eq_false, Bool.not_eq_true', Bool.not_eq_false', Bool.true_eq_false, Option.map_some, Option.map_none, decide_true, decide_false, not_true_eq_false, not_false_eq_true, implies_true, forall_const, eq_self, Nat.reduceEqDiff, beq_self_eq_true, ne_eq, Int.reduceEq, Int.reduceNe, Int.reduceLT, Int.reduceLE, Int.reduceGT, Int.reduceGE, Int.reduceToNat, Int.reduceAdd, Int.reduceNeg, Nat.reduceLT, Nat.reduceLeDiff, Nat.reduceAdd, Nat.reduceMul, false_and, and_false, and_self, true_and, and_true, false_implies, PV.at0, PV.at1, PV.at2, PV.at3, PV.at4, PV.at5, Option.some.injEq, exists_eq_left', exists_eq_left]
      rw [if_pos h0] at kQ
      exact kQ
    · refine ⟨1, PV.rgc_up (by decide) (by decide) (by decide) (by decide) (by omega) (by omega) (by omega) (by split <;> omega), PV.loop_inv (inj := PyData.int) [0] (fun pre g => ∃ o3 o4 o5, (PV.ownsOf o3 = [] ∧ PV.ownsOf o4 = [] ∧ PV.ownsOf o5 = []) ∧ (pre = [] → o3 = some (.dat (.list (List.replicate b.length (.int 0))))) ∧ g = [some (.dat (.list (a.map .int))), some (.dat (.list (b.map .int))), some (.own p (pre.map fun _ => .list ((rowsI a b).map .int))), o3, o4, o5]) ⟨_, none, none, ⟨rfl, rfl, rfl⟩, fun _ => rfl, rfl⟩ ?_ ?_⟩
      · rintro pre x post _ e ⟨o3, o4, o5, ⟨ho3, ho4, ho5⟩, h3, rfl⟩ N hN
        have hpx : pre = [] ∧ x = 0 := by
          cases pre with
          | nil =>
            simp at e
            exact ⟨rfl, e.1.symm⟩
          | cons y pre =>
            have := congrArg List.length e
            simp at this
        obtain ⟨rfl, rfl⟩ := hpx
        have h3 := h3 rfl
        subst h3
        have hcut : PV.cutL a (some 0) (some 1024) = a := by
          rw [PV.cutL_mid (by decide) (by decide)]
          show (a.drop 0).take 1024 = a
          rw [List.drop_zero, List.take_of_length_le hl]
        simp only [PV.pDivMod, PV.ownsOf_dic, PV.pDNew, PV.pDPut, PV.pDGet2, PV.pDGet, PV.pDIn, PV.pLenD, PV.keyD, PV.pSlScr, PV.pZipT, PV.pRngC, PV.pRngV, PV.pSt1, PV.pM0, PV.pZipS, PV.pM1, PV.pJoin, PV.pFmt, PV.pJoined, PV.pJs, PV.pBMV, PV.pCount, PV.pIndex, PV.pSetIx2, PV.pRetT, PV.pLcF, PV.mapL_inj, PV.pVar, PV.pC, PV.pOp, PV.pUn, PV.pII, PV.pII0, PV.pNeg, PV.pSS, PV.pSS0, PV.eqF_int, PV.eqF_str, PV.eqF_bool, PV.eqF_ni, PV.eqF_in, PV.eqF_nn, PV.eqF_si, PV.eqF_is, PV.eqF_sn, PV.eqF_ns, PV.pEq, PV.pEqD, PV.isN, PV.pIsN, PV.Tg.d, PV.Tg.it, PV.Tg.itD, PV.Tg.ok, PV.pCat, PV.pRep, PV.pCatT, PV.pIn, PV.pNil, PV.pCons, PV.Tg.items, PV.pStar, PV.allD, PV.allS, PV.pTup, PV.pLst, PV.pNoPart, PV.pPart, PV.pSlL, PV.pSlT, PV.pCB, PV.pLen, PV.pLenS, PV.pI1, PV.pI10, PV.pI2, PV.pInt1, PV.pBool1, PV.pS1, PV.pListOf, PV.pTupOf, PV.tyD, PV.pIsi, PV.bD, PV.pAndV, PV.pOrV, PV.pNotV, PV.pIfE, PV.pT, PV.pAnd, PV.pOr, PV.pNot, PV.truD, PV.pTru, PV.pNotT, PV.pChain, PV.pThree, PV.Rs.arg, PV.lend, PV.pCall, PV.pCall0, PV.pIt, PV.pItT, PV.pRg1, PV.pRg2, PV.pRg3, PV.pEnum, PV.pZip, PV.pRev, PV.pStr, PV.setR, PV.pName, PV.pTgt, PV.pTgts, PV.pTg, PV.pNext, PV.pBreak, PV.pCont, PV.pSeq, PV.pShr, PV.pShrI, PV.shI, PV.pFgt, PV.fgt, PV.pAsg, PV.pExpr, PV.Rs.ret, PV.pRet, PV.pRetN, PV.pIf, PV.pFld, PV.pAug, PV.pPar, PV.pBM, PV.pBM0, PV.pAppend, PV.pExtend, PV.pExtT, PV.pClear, PV.pReverse, PV.pSetIx, PV.pFor, PV.wipeG, PV.pLc, PV.gG, PV.pGen, PV.pYes, PV.pSum, PV.pRaise, PV.pRaise1, PV.slA, PV.startG, PV.ends, PV.pRevL, PV.pSlS, PV.pSign, PV.pProp, PV.pMake, PV.pMake0, PV.pTry, PV.pRetD, PV.Rs.asD, PV.sg, PV.Sl.r, PV.dV, PV.flatD, PV.owns, PV.ownsOf_no, PV.ownsOf_dat, PV.ownsOf_obj, PV.ownsOf_own, PV.ownsOf_tab, PV.shr, PV.Sl.sh, PV.intsOf_map, PV.intsOf_app, PV.intsOf_nil, PV.intsOf_int, PV.isInts_map, PV.isInts_nil, PV.isInts_int, PV.isInts_mapL, PV.scr_key, PV.isiQ_s, PV.kit_int_int, PV.kit_int_bool, PV.kit_int_str, PV.kit_int_list, PV.kit_int_tuple, PV.kit_bool_int, PV.kit_bool_bool, PV.kit_bool_str, PV.kit_bool_list, PV.kit_bool_tuple, PV.kit_str_int, PV.kit_str_bool, PV.kit_str_str, PV.kit_str_list, PV.kit_str_tuple, PV.kit_list_int, PV.kit_list_bool, PV.kit_list_str, PV.kit_list_list, PV.kit_list_tuple, PV.kit_tuple_int, PV.kit_tuple_bool, PV.kit_tuple_str, PV.kit_tuple_list, PV.kit_tuple_tuple, PV.kit_NoneType_int, PV.kit_NoneType_bool, PV.kit_NoneType_str, PV.kit_NoneType_list, PV.kit_NoneType_tuple, PV.cutD_map, PV.allD_map, PV.allD_mapA, PV.allS_map, PV.allS_mapA, List.getElem?_cons_zero, List.getElem?_cons_succ, List.getElem?_nil, List.set_cons_zero, List.set_cons_succ, List.map_cons, List.map_nil, List.cons_append, List.nil_append, List.append_nil, List.length_cons, List.length_nil, List.length_map, List.length_append, List.length_replicate, PV.flat_rep, Nat.mul_one, Nat.one_mul, PV.rep_none, List.replicate_zero, List.all_cons, List.all_nil, cond_true, cond_false, Bool.and_true, Bool.true_and, Bool.and_false, Bool.false_and, Bool.not_true, Bool.not_false, Bool.not_not, if_true, if_false, ite_true, ite_false, true_and, and_true, true_implies, false_implies, reduceCtorEq, Nat.reduceAdd, Nat.reduceSub, Nat.reduceLT, Nat.reduceLeDiff, Bool.false_eq_true, decide_eq_true_eq, decide_eq_false_iff_not, Bool.not_eq_true, Bool.not_eq_false, Bool.not_eq_true', Bool.not_eq_false', Bool.true_eq_false, Option.map_some, Option.map_none, decide_true, decide_false, not_true_eq_false, not_false_eq_true, implies_true, forall_const, eq_self, Nat.reduceEqDiff, beq_self_eq_true, ne_eq, Int.reduceEq, Int.reduceNe, Int.reduceLT, Int.reduceLE, Int.reduceGT, Int.reduceGE, Int.reduceToNat, Int.reduceAdd, Int.reduceNeg, Nat.reduceLT, Nat.reduceLeDiff, Nat.reduceAdd, Nat.reduceMul, false_and, and_false, and_self, true_and, and_true, false_implies, PV.at0, PV.at1, PV.at2, PV.at3, PV.at4, PV.at5, Option.some.injEq, exists_eq_left', exists_eq_left, pGRows, ho4, ho5, PV.cutD_map]
        rw [hcut]
        exact ⟨hl, hl2, fun car => ⟨by decide, hN _ ⟨_, _, _, ⟨rfl, rfl, rfl⟩, fun z => by simp at z, rfl⟩⟩⟩
      · rintro _ ⟨o3, o4, o5, ⟨ho3, ho4, ho5⟩, h3, rfl⟩
        simp only [PV.pDivMod, PV.ownsOf_dic, PV.pDNew, PV.pDPut, PV.pDGet2, PV.pDGet, PV.pDIn, PV.pLenD, PV.keyD, PV.pSlScr, PV.pZipT, PV.pRngC, PV.pRngV, PV.pSt1, PV.pM0, PV.pZipS, PV.pM1, PV.pJoin, PV.pFmt, PV.pJoined, PV.pJs, PV.pBMV, PV.pCount, PV.pIndex, PV.pSetIx2, PV.pRetT, PV.pLcF, PV.mapL_inj, PV.pVar, PV.pC, PV.pOp, PV.pUn, PV.pII, PV.pII0, PV.pNeg, PV.pSS, PV.pSS0, PV.eqF_int, PV.eqF_str, PV.eqF_bool, PV.eqF_ni, PV.eqF_in, PV.eqF_nn, PV.eqF_si, PV.eqF_is, PV.eqF_sn, PV.eqF_ns, PV.pEq, PV.pEqD, PV.isN, PV.pIsN, PV.Tg.d, PV.Tg.it, PV.Tg.itD, PV.Tg.ok, PV.pCat, PV.pRep, PV.pCatT, PV.pIn, PV.pNil, PV.pCons, PV.Tg.items, PV.pStar, PV.allD, PV.allS, PV.pTup, PV.pLst, PV.pNoPart, PV.pPart, PV.pSlL, PV.pSlT, PV.pCB, PV.pLen, PV.pLenS, PV.pI1, PV.pI10, PV.pI2, PV.pInt1, PV.pBool1, PV.pS1, PV.pListOf, PV.pTupOf, PV.tyD, PV.pIsi, PV.bD, PV.pAndV, PV.pOrV, PV.pNotV, PV.pIfE, PV.pT, PV.pAnd, PV.pOr, PV.pNot, PV.truD, PV.pTru, PV.pNotT, PV.pChain, PV.pThree, PV.Rs.arg, PV.lend, PV.pCall, PV.pCall0, PV.pIt, PV.pItT, PV.pRg1, PV.pRg2, PV.pRg3, PV.pEnum, PV.pZip, PV.pRev, PV.pStr, PV.setR, PV.pName, PV.pTgt, PV.pTgts, PV.pTg, PV.pNext, PV.pBreak, PV.pCont, PV.pSeq, PV.pShr, PV.pShrI, PV.shI, PV.pFgt, PV.fgt, PV.pAsg, PV.pExpr, PV.Rs.ret, PV.pRet, PV.pRetN, PV.pIf, PV.pFld, PV.pAug, PV.pPar, PV.pBM, PV.pBM0, PV.pAppend, PV.pExtend, PV.pExtT, PV.pClear, PV.pReverse, PV.pSetIx, PV.pFor, PV.wipeG, PV.pLc, PV.gG, PV.pGen, PV.pYes, PV.pSum, PV.pRaise, PV.pRaise1, PV.slA, PV.startG, PV.ends, PV.pRevL, PV.pSlS, PV.pSign, PV.pProp, PV.pMake, PV.pMake0, PV.pTry, PV.pRetD, PV.Rs.asD, PV.sg, PV.Sl.r, PV.dV, PV.flatD, PV.owns, PV.ownsOf_no, PV.ownsOf_dat, PV.ownsOf_obj, PV.ownsOf_own, PV.ownsOf_tab, PV.shr, PV.Sl.sh, PV.intsOf_map, PV.intsOf_app, PV.intsOf_nil, PV.intsOf_int, PV.isInts_map, PV.isInts_nil, PV.isInts_int, PV.isInts_mapL, PV.scr_key, PV.isiQ_s, PV.kit_int_int, PV.kit_int_bool, PV.kit_int_str, PV.kit_int_list, PV.kit_int_tuple, PV.kit_bool_int, PV.kit_bool_bool, PV.kit_bool_str, PV.kit_bool_list, PV.kit_bool_tuple, PV.kit_str_int, PV.kit_str_bool, PV.kit_str_str, PV.kit_str_list, PV.kit_str_tuple, PV.kit_list_int, PV.kit_list_bool, PV.kit_list_str, PV.kit_list_list, PV.kit_list_tuple, PV.kit_tuple_int, PV.kit_tuple_bool, PV.kit_tuple_str, PV.kit_tuple_list, PV.kit_tuple_tuple, PV.kit_NoneType_int, PV.kit_NoneType_bool, PV.kit_NoneType_str, PV.kit_NoneType_list, PV.kit_NoneType_tuple, PV.cutD_map, PV.allD_map, PV.allD_mapA, PV.allS_map, PV.allS_mapA, List.getElem?_cons_zero, List.getElem?_cons_succ, List.getElem?_nil, List.set_cons_zero, List.set_cons_succ, List.map_cons, List.map_nil, List.cons_append, List.nil_append, List.append_nil, List.length_cons, List.length_nil, List.length_map, List.length_append, List.length_replicate, PV.flat_rep, Nat.mul_one, Nat.one_mul, PV.rep_none, List.replicate_zero, List.all_cons, List.all_nil, cond_true, cond_false, Bool.and_true, Bool.true_and, Bool.and_false, Bool.false_and, Bool.not_true, Bool.not_false, Bool.not_not, if_true, if_false, ite_true, ite_false, true_and, and_true, true_implies, false_implies, reduceCtorEq, Nat.reduceAdd, Nat.reduceSub, Nat.reduceLT, Nat.reduceLeDiff, Bool.false_eq_true, decide_eq_true_eq, decide_eq_false_iff_not, Bool.not_eq_true, Bool.not_eq_false, Bool.not_eq_true', Bool.not_eq_false', Bool.true_eq_false, Option.map_some, Option.map_none, decide_true, decide_false, not_true_eq_false, not_false_eq_true, implies_true, forall_const, eq_self, Nat.reduceEqDiff, beq_self_eq_true, ne_eq, Int.reduceEq, Int.reduceNe, Int.reduceLT, Int.reduceLE, Int.reduceGT, Int.reduceGE, Int.reduceToNat, Int.reduceAdd, Int.reduceNeg, Nat.reduceLT, Nat.reduceLeDiff, Nat.reduceAdd, Nat.reduceMul, false_and, and_false, and_self, true_and, and_true, false_implies, PV.at0, PV.at1, PV.at2, PV.at3, PV.at4, PV.at5, Option.some.injEq, exists_eq_left', exists_eq_left, ho3, ho4, ho5]
        rw [if_neg h0] at kQ
        exact kQ
  · exact h.elim
def pIsGain : PV.PSp := fun as _ Q => match as with
  | [.v _ (.list ds), .v _ (.int r), .v _ (.int c)] => ∃ a b : List Int, ds = (if a.length = 0 then [] else [.list ((rowsI a b).map .int)]) ∧ a.length ≤ 1024 ∧ b.length ≤ 10000 ∧ (0 ≤ r ∧ r ≤ b.length) ∧ (1 ≤ c ∧ c ≤ a.length) ∧ Q (.v .dat (.bool (!vb a b r.toNat (c.toNat - 1))))
  | _ => False
theorem ok__is_gain (T : Txt K mg) : Ok P w K mg base CX0 1 "_is_gain" ["blocks", "row", "column"] (PV.spP K [] (PV.sg 3 pIsGain)) := by
  refine PV.pv_def T.d__is_gain sc__is_gain (fun as PX PQ h => h.1) fun f cdv A outer s H E hr => ?_
  have nd := sc__is_gain.nd
  refine ⟨_, _, (pss_cons (ps_asg (pe_callB call_divmod (by rfl) T.n_divmod (by decide +kernel) (pa_cons (pe_op op_sub (pv 2) pe_int) (pa_cons (pe_globC rfl T.c_BLOCK) pa_nil))) (pg_tup rfl (pgs_cons (pg_name (i := 3) nd rfl (Or.inl rfl)) (pgs_cons (pg_name (i := 4) nd rfl (Or.inl rfl)) pgs_nil))))
      (pss_one (ps_ret (pe_cmpR op_eq (pe_op op_and (pe_op op_shr (pe_ix ix_list (pe_ix ix_list (pv 0) (pv 3) (fun _ _ => rfl)) (pv 1) (fun _ _ => rfl)) (pv 4)) pe_int) pe_int (nomark _))))),
    open PV in (ls_seq (ls_asg (le_cb lc_divmod (la_cons (le_op lr_I0 le_var le_c) (la_cons le_c la_nil))) (lg_tgt (.tup (.cons (.name 3) (.cons (.name 4) .nil)))))
      (ls_retD (le_op lr_eq (le_op lr_I0 (le_op lr_I (le_op lr_ixL (le_op lr_ixL le_var le_var) le_var) le_var) le_c) le_c))), fun as PX PQ h => ?_⟩
  replace h := h.2
  unfold pIsGain at h
  split at h
  · next t ds t2 r t3 c =>
    obtain ⟨a, b, rfl, hl, hl2, hr, hc, kQ⟩ := h
    rw [if_neg (by omega)]
    have hat : atI ((rowsI a b).map PyData.int) r = some (.int (rowN a b r.toNat : Int)) := by
      refine PV.at_map (j := r.toNat) (by omega) ?_
      unfold rowsI rowsTo
      rw [List.getElem?_map, List.getElem?_range (by omega)]
      rfl
    have hd : (c - 1) / 1024 = 0 := by omega
    have hm : (c - 1) % 1024 = ((c.toNat - 1 : Nat) : Int) := by omega
    simp only [PV.pDivMod, PV.ownsOf_dic, PV.pDNew, PV.pDPut, PV.pDGet2, PV.pDGet, PV.pDIn, PV.pLenD, PV.keyD, PV.pSlScr, PV.pZipT, PV.pRngC, PV.pRngV, PV.pSt1, PV.pM0, PV.pZipS, PV.pM1, PV.pJoin, PV.pFmt, PV.pJoined, PV.pJs, PV.pBMV, PV.pCount, PV.pIndex, PV.pSetIx2, PV.pRetT, PV.pLcF, PV.mapL_inj, PV.pVar, PV.pC, PV.pOp, PV.pUn, PV.pII, PV.pII0, PV.pNeg, PV.pSS, PV.pSS0, PV.eqF_int, PV.eqF_str, PV.eqF_bool, PV.eqF_ni, PV.eqF_in, PV.eqF_nn, PV.eqF_si, PV.eqF_is, PV.eqF_sn, PV.eqF_ns, PV.pEq, PV.pEqD, PV.isN, PV.pIsN, PV.Tg.d, PV.Tg.it, PV.Tg.itD, PV.Tg.ok, PV.pCat, PV.pRep, PV.pCatT, PV.pIn, PV.pNil, PV.pCons, PV.Tg.items, PV.pStar, PV.allD, PV.allS, PV.pTup, PV.pLst, PV.pNoPart, PV.pPart, PV.pSlL, PV.pSlT, PV.pCB, PV.pLen, PV.pLenS, PV.pI1, PV.pI10, PV.pI2, PV.pInt1, PV.pBool1, PV.pS1, PV.pListOf, PV.pTupOf, PV.tyD, PV.pIsi, PV.bD, PV.pAndV, PV.pOrV, PV.pNotV, PV.pIfE, PV.pT, PV.pAnd, PV.pOr, PV.pNot, PV.truD, PV.pTru, PV.pNotT, PV.pChain, PV.pThree, PV.Rs.arg, PV.lend, PV.pCall, PV.pCall0, PV.pIt, PV.pItT, PV.pRg1, PV.pRg2, PV.pRg3, PV.pEnum, PV.pZip, PV.pRev, PV.pStr, PV.setR, PV.pName, PV.pTgt, PV.pTgts, PV.pTg, PV.pNext, PV.pBreak, PV.pCont, PV.pSeq, PV.pShr, PV.pShrI, PV.shI, PV.pFgt, PV.fgt, PV.pAsg, PV.pExpr, PV.Rs.ret, PV.pRet, PV.pRetN, PV.pIf, PV.pFld, PV.pAug, PV.pPar, PV.pBM, PV.pBM0, PV.pAppend, PV.pExtend, PV.pExtT, PV.pClear, PV.pReverse, PV.pSetIx, PV.pFor, PV.wipeG, PV.pLc, PV.gG, PV.pGen, PV.pYes, PV.pSum, PV.pRaise, PV.pRaise1, PV.slA, PV.startG, PV.ends, PV.pRevL, PV.pSlS, PV.pSign, PV.pProp, PV.pMake, PV.pMake0, PV.pTry, PV.pRetD, PV.Rs.asD, PV.sg, PV.Sl.r, PV.dV, PV.flatD, PV.owns, PV.ownsOf_no, PV.ownsOf_dat, PV.ownsOf_obj, PV.ownsOf_own, PV.ownsOf_tab, PV.shr, PV.Sl.sh, PV.intsOf_map, PV.intsOf_app, PV.intsOf_nil, PV.intsOf_int, PV.isInts_map, PV.isInts_nil, PV.isInts_int, PV.isInts_mapL, PV.scr_key, PV.isiQ_s, PV.kit_int_int, PV.kit_int_bool, PV.kit_int_str, PV.kit_int_list, PV.kit_int_tuple, PV.kit_bool_int, PV.kit_bool_bool, PV.kit_bool_str, PV.kit_bool_list, PV.kit_bool_tuple, PV.kit_str_int, PV.kit_str_bool, PV.kit_str_str, PV.kit_str_list, PV.kit_str_tuple, PV.kit_list_int, PV.kit_list_bool, PV.kit_list_str, PV.kit_list_list, PV.kit_list_tuple, PV.kit_tuple_int, PV.kit_tuple_bool, PV.kit_tuple_str, PV.kit_tuple_list, PV.kit_tuple_tuple, PV.kit_NoneType_int, PV.kit_NoneType_bool, PV.kit_NoneType_str, PV.kit_NoneType_list, PV.kit_NoneType_tuple, PV.cutD_map, PV.allD_map, PV.allD_mapA, PV.allS_map, PV.allS_mapA, List.getElem?_cons_zero, List.getElem?_cons_succ, List.getElem?_nil, List.set_cons_zero, List.set_cons_succ, List.map_cons, List.map_nil, List.cons_append, List.nil_append, List.append_nil, List.length_cons, List.length_nil, List.length_map, List.length_append, List.length_replicate, PV.flat_rep, Nat.mul_one, Nat.one_mul, PV.rep_none, List.replicate_zero, List.all_cons, List.all_nil, cond_true, cond_false, Bool.and_true, Bool.true_and, Bool.and_false, Bool.false_and, Bool.not_true, Bool.not_false, Bool.not_not, if_true, if_false, ite_true, ite_false, true_and, and_true, true_implies, false_implies, reduceCtorEq, Nat.reduceAdd, Nat.reduceSub, Nat.reduceLT, Nat.reduceLeDiff, Bool.false_eq_true, decide_eq_true_eq, decide_eq_false_iff_not, Bool.not_eq_true, Bool.not_eq_false, Bool.not_eq_true', Bool.not_eq_false', Bool.true_eq_false, Option.map_some, Option.map_none, decide_true, decide_false, not_true_eq_false, not_false_eq_true, implies_true, forall_const, eq_self, Nat.reduceEqDiff, beq_self_eq_true, ne_eq, Int.reduceEq, Int.reduceNe, Int.reduceLT, Int.reduceLE, Int.reduceGT, Int.reduceGE, Int.reduceToNat, Int.reduceAdd, Int.reduceNeg, Nat.reduceLT, Nat.reduceLeDiff, Nat.reduceAdd, Nat.reduceMul, false_and, and_false, and_self, true_and, and_true, false_implies, PV.at0, PV.at1, PV.at2, PV.at3, PV.at4, PV.at5, Option.some.injEq, exists_eq_left', exists_eq_left, hat, hd, hm]
    rw [Int.toNat_natCast]
    refine ⟨⟨by decide, by decide⟩, by omega, ?_⟩
    have e : Builtin.bitAnd ((rowN a b r.toNat : Int) / 2 ^ (c.toNat - 1)) 1 = if vb a b r.toNat (c.toNat - 1) then 1 else 0 := by
      have e1 : (rowN a b r.toNat : Int) / 2 ^ (c.toNat - 1) = ((rowN a b r.toNat / 2 ^ (c.toNat - 1) : Nat) : Int) := by
        rw [Int.natCast_ediv, Int.natCast_pow]
        rfl
      have e2 := val_bit (vb a b r.toNat) a.length (c.toNat - 1)
      rw [decide_eq_true (by omega), Bool.true_and, Nat.testBit_eq_decide_div_mod_eq] at e2
      rw [e1, show (1 : Int) = ((1 : Nat) : Int) from rfl, band_pp, Nat.and_one_is_mod]
      unfold rowN
      rw [← e2]
      have := Nat.mod_two_eq_zero_or_one (val a.length (vb a b r.toNat) / 2 ^ (c.toNat - 1))
      rcases this with z | z <;> rw [z] <;> rfl
    rw [e]
    cases hv : vb a b r.toNat (c.toNat - 1) <;> rw [hv] at kQ <;> exact kQ
  · exact h.elim
/-- the number of the first items in which two lists are equal -/
def eqn : List Int → List Int → Nat
  | x :: a, y :: b => if x = y then eqn a b + 1 else 0
  | _, _ => 0
def pEqn : PV.PSp := fun as _ Q => match as with
  | [.v _ (.list xs), .v _ (.list ys)] => PV.isInts xs ∧ PV.isInts ys ∧ Q (.v .dat (.int (eqn (PV.intsOf xs) (PV.intsOf ys))))
  | _ => False
theorem ok__equal_items (T : Txt K mg) : Ok P w K mg base CX0 1 "_equal_items" ["first", "second"] (PV.spP K [] (PV.sg 2 pEqn)) := by
  refine PV.pv_def T.d__equal_items sc__equal_items (fun as PX PQ h => h.1) fun f cdv A outer s H E hr => ?_
  have nd := sc__equal_items.nd
  refine ⟨_, _, (pss_cons (ps_set (i := 2) nd rfl (Or.inl rfl) pe_int)
      (pss_cons (ps_for PassesOwn.never rfl (pi_zip (by rfl) T.n_zip (pa_cons (pv 0) (pa_cons (pv 1) pa_nil))) (pg_tup rfl (pgs_cons (pg_name (i := 3) nd rfl (Or.inl rfl)) (pgs_cons (pg_name (i := 4) nd rfl (Or.inl rfl)) pgs_nil)))
        (pss_cons (ps_if (pt_cmpR op_ne (pv 3) (pv 4) (nomark _))
          (pss_one ps_break) pss_nil)
        (pss_one (ps_aug (i := 2) nd rfl (Or.inl rfl) pe_int ip_add))))
      (pss_one (ps_ret (pv 2))))),
    open PV in (ls_seq (ls_asg le_c (lg_name (b := false)))
      (ls_seq (ls_for (li_zip (la_cons le_var (la_cons le_var la_nil))) (lg_tgt (.tup (.cons (.name 3) (.cons (.name 4) .nil))))
      (ls_seq (ls_if (lt_test (le_op lr_ne le_var le_var))
      ls_break
      ls_next)
      (ls_aug le_c)))
      (ls_retD le_var))), fun as PX PQ h => ?_⟩
  replace h := h.2
  unfold pEqn at h
  split at h
  · next t xs t2 ys =>
    obtain ⟨hi, hi2, kQ⟩ := h
    unfold PV.isInts at hi hi2
    generalize PV.intsOf xs = a at *
    generalize PV.intsOf ys = b at *
    subst hi
    subst hi2
    simp only [PV.pDivMod, PV.ownsOf_dic, PV.pDNew, PV.pDPut, PV.pDGet2, PV.pDGet, PV.pDIn, PV.pLenD, PV.keyD, PV.pSlScr, PV.pZipT, PV.pRngC, PV.pRngV, PV.pSt1, PV.pM0, PV.pZipS, PV.pM1, PV.pJoin, PV.pFmt, PV.pJoined, PV.pJs, PV.pBMV, PV.pCount, PV.pIndex, PV.pSetIx2, PV.pRetT, PV.pLcF, PV.mapL_inj, PV.pVar, PV.pC, PV.pOp, PV.pUn, PV.pII, PV.pII0, PV.pNeg, PV.pSS, PV.pSS0, PV.eqF_int, PV.eqF_str, PV.eqF_bool, PV.eqF_ni, PV.eqF_in, PV.eqF_nn, PV.eqF_si, PV.eqF_is, PV.eqF_sn, PV.eqF_ns, PV.pEq, PV.pEqD, PV.isN, PV.pIsN, PV.Tg.d, PV.Tg.it, PV.Tg.itD, PV.Tg.ok, PV.pCat, PV.pRep, PV.pCatT, PV.pIn, PV.pNil, PV.pCons, PV.Tg.items, PV.pStar, PV.allD, PV.allS, PV.pTup, PV.pLst, PV.pNoPart, PV.pPart, PV.pSlL, PV.pSlT, PV.pCB, PV.pLen, PV.pLenS, PV.pI1, PV.pI10, PV.pI2, PV.pInt1, PV.pBool1, PV.pS1, PV.pListOf, PV.pTupOf, PV.tyD, PV.pIsi, PV.bD, PV.pAndV, PV.pOrV, PV.pNotV, PV.pIfE, PV.pT, PV.pAnd, PV.pOr, PV.pNot, PV.truD, PV.pTru, PV.pNotT, PV.pChain, PV.pThree, PV.Rs.arg, PV.lend, PV.pCall, PV.pCall0, PV.pIt, PV.pItT, PV.pRg1, PV.pRg2, PV.pRg3, PV.pEnum, PV.pZip, PV.pRev, PV.pStr, PV.setR, PV.pName, PV.pTgt, PV.pTgts, PV.pTg, PV.pNext, PV.pBreak, PV.pCont, PV.pSeq, PV.pShr, PV.pShrI, PV.shI, PV.pFgt, PV.fgt, PV.pAsg, PV.pExpr, PV.Rs.ret, PV.pRet, PV.pRetN, PV.pIf, PV.pFld, PV.pAug, PV.pPar, PV.pBM, PV.pBM0, PV.pAppend, PV.pExtend, PV.pExtT, PV.pClear, PV.pReverse, PV.pSetIx, PV.pFor, PV.wipeG, PV.pLc, PV.gG, PV.pGen, PV.pYes, PV.pSum, PV.pRaise, PV.pRaise1, PV.slA, PV.startG, PV.ends, PV.pRevL, PV.pSlS, PV.pSign, PV.pProp, PV.pMake, PV.pMake0, PV.pTry, PV.pRetD, PV.Rs.asD, PV.sg, PV.Sl.r, PV.dV, PV.flatD, PV.owns, PV.ownsOf_no, PV.ownsOf_dat, PV.ownsOf_obj, PV.ownsOf_own, PV.ownsOf_tab, PV.shr, PV.Sl.sh, PV.intsOf_map, PV.intsOf_app, PV.intsOf_nil, PV.intsOf_int, PV.isInts_map, PV.isInts_nil, PV.isInts_int, PV.isInts_mapL, PV.scr_key, PV.isiQ_s, PV.kit_int_int, PV.kit_int_bool, PV.kit_int_str, PV.kit_int_list, PV.kit_int_tuple, PV.kit_bool_int, PV.kit_bool_bool, PV.kit_bool_str, PV.kit_bool_list, PV.kit_bool_tuple, PV.kit_str_int, PV.kit_str_bool, PV.kit_str_str, PV.kit_str_list, PV.kit_str_tuple, PV.kit_list_int, PV.kit_list_bool, PV.kit_list_str, PV.kit_list_list, PV.kit_list_tuple, PV.kit_tuple_int, PV.kit_tuple_bool, PV.kit_tuple_str, PV.kit_tuple_list, PV.kit_tuple_tuple, PV.kit_NoneType_int, PV.kit_NoneType_bool, PV.kit_NoneType_str, PV.kit_NoneType_list, PV.kit_NoneType_tuple, PV.cutD_map, PV.allD_map, PV.allD_mapA, PV.allS_map, PV.allS_mapA, List.getElem?_cons_zero, List.getElem?_cons_succ, List.getElem?_nil, List.set_cons_zero, List.set_cons_succ, List.map_cons, List.map_nil, List.cons_append, List.nil_append, List.append_nil, List.length_cons, List.length_nil, List.length_map, List.length_append, List.length_replicate, PV.flat_rep, Nat.mul_one, Nat.one_mul, PV.rep_none, List.replicate_zero, List.all_cons, List.all_nil, cond_true, cond_false, Bool.and_true, Bool.true_and, Bool.and_false, Bool.false_and, Bool.not_true, Bool.not_false, Bool.not_not, if_true, if_false, ite_true, ite_false, true_and, and_true, true_implies, false_implies, reduceCtorEq, Nat.reduceAdd, Nat.reduceSub, Nat.reduceLT, Nat.reduceLeDiff, Bool.false_eq_true, decide_eq_true_eq, decide_eq_false_iff_not, Bool.not_eq_true, Bool.not_eq_false, Bool.not_eq_true', Bool.not_eq_false', Bool.true_eq_false, Option.map_some, Option.map_none, decide_true, decide_false, not_true_eq_false, not_false_eq_true, implies_true, forall_const, eq_self, Nat.reduceEqDiff, beq_self_eq_true, ne_eq, Int.reduceEq, Int.reduceNe, Int.reduceLT, Int.reduceLE, Int.reduceGT, Int.reduceGE, Int.reduceToNat, Int.reduceAdd, Int.reduceNeg, Nat.reduceLT, Nat.reduceLeDiff, Nat.reduceAdd, Nat.reduceMul, false_and, and_false, and_self, true_and, and_true, false_implies, PV.at0, PV.at1, PV.at2, PV.at3, PV.at4, PV.at5, Option.some.injEq, exists_eq_left', exists_eq_left]
    rw [PV.zipD_map]
    refine PV.loop_ix (inj := fun p : Int × Int => PyData.tuple [.int p.1, .int p.2]) (a.zip b) (fun k g => ∃ o3 o4, (eqn a b = k + eqn (a.drop k) (b.drop k)) ∧ (PV.ownsOf o3 = [] ∧ PV.ownsOf o4 = []) ∧ g = [some (.dat (.list (a.map .int))), some (.dat (.list (b.map .int))), some (.dat (.int (k : Int))), o3, o4]) ⟨none, none, by rw [List.drop_zero, List.drop_zero, Nat.zero_add], ⟨rfl, rfl⟩, rfl⟩ ?_ ?_
    · rintro k ⟨x, y⟩ g hx ⟨o3, o4, hk, ⟨ho3, ho4⟩, rfl⟩ N hN
      have hxa : a[k]? = some x ∧ b[k]? = some y := by
        rw [List.getElem?_zip_eq_some] at hx
        exact hx
      obtain ⟨hka, eka⟩ := List.getElem?_eq_some_iff.mp hxa.1
      obtain ⟨hkb, ekb⟩ := List.getElem?_eq_some_iff.mp hxa.2
      rw [List.drop_eq_getElem_cons hka, List.drop_eq_getElem_cons hkb, eka, ekb] at hk
      simp only [PV.pDivMod, PV.ownsOf_dic, PV.pDNew, PV.pDPut, PV.pDGet2, PV.pDGet, PV.pDIn, PV.pLenD, PV.keyD, PV.pSlScr, PV.pZipT, PV.pRngC, PV.pRngV, PV.pSt1, PV.pM0, PV.pZipS, PV.pM1, PV.pJoin, PV.pFmt, PV.pJoined, PV.pJs, PV.pBMV, PV.pCount, PV.pIndex, PV.pSetIx2, PV.pRetT, PV.pLcF, PV.mapL_inj, PV.pVar, PV.pC, PV.pOp, PV.pUn, PV.pII, PV.pII0, PV.pNeg, PV.pSS, PV.pSS0, PV.eqF_int, PV.eqF_str, PV.eqF_bool, PV.eqF_ni, PV.eqF_in, PV.eqF_nn, PV.eqF_si, PV.eqF_is, PV.eqF_sn, PV.eqF_ns, PV.pEq, PV.pEqD, PV.isN, PV.pIsN, PV.Tg.d, PV.Tg.it, PV.Tg.itD, PV.Tg.ok, PV.pCat, PV.pRep, PV.pCatT, PV.pIn, PV.pNil, PV.pCons, PV.Tg.items, PV.pStar, PV.allD, PV.allS, PV.pTup, PV.pLst, PV.pNoPart, PV.pPart, PV.pSlL, PV.pSlT, PV.pCB, PV.pLen, PV.pLenS, PV.pI1, PV.pI10, PV.pI2, PV.pInt1, PV.pBool1, PV.pS1, PV.pListOf, PV.pTupOf, PV.tyD, PV.pIsi, PV.bD, PV.pAndV, PV.pOrV, PV.pNotV, PV.pIfE, PV.pT, PV.pAnd, PV.pOr, PV.pNot, PV.truD, PV.pTru, PV.pNotT, PV.pChain, PV.pThree, PV.Rs.arg, PV.lend, PV.pCall, PV.pCall0, PV.pIt, PV.pItT, PV.pRg1, PV.pRg2, PV.pRg3, PV.pEnum, PV.pZip, PV.pRev, PV.pStr, PV.setR, PV.pName, PV.pTgt, PV.pTgts, PV.pTg, PV.pNext, PV.pBreak, PV.pCont, PV.pSeq, PV.pShr, PV.pShrI, PV.shI, PV.pFgt, PV.fgt, PV.pAsg, PV.pExpr, PV.Rs.ret, PV.pRet, PV.pRetN, PV.pIf, PV.pFld, PV.pAug, PV.pPar, PV.pBM, PV.pBM0, PV.pAppend, PV.pExtend, PV.pExtT, PV.pClear, PV.pReverse, PV.pSetIx, PV.pFor, PV.wipeG, PV.pLc, PV.gG, PV.pGen, PV.pYes, PV.pSum, PV.pRaise, PV.pRaise1, PV.slA, PV.startG, PV.ends, PV.pRevL, PV.pSlS, PV.pSign, PV.pProp, PV.pMake, PV.pMake0, PV.pTry, PV.pRetD, PV.Rs.asD, PV.sg, PV.Sl.r, PV.dV, PV.flatD, PV.owns, PV.ownsOf_no, PV.ownsOf_dat, PV.ownsOf_obj, PV.ownsOf_own, PV.ownsOf_tab, PV.shr, PV.Sl.sh, PV.intsOf_map, PV.intsOf_app, PV.intsOf_nil, PV.intsOf_int, PV.isInts_map, PV.isInts_nil, PV.isInts_int, PV.isInts_mapL, PV.scr_key, PV.isiQ_s, PV.kit_int_int, PV.kit_int_bool, PV.kit_int_str, PV.kit_int_list, PV.kit_int_tuple, PV.kit_bool_int, PV.kit_bool_bool, PV.kit_bool_str, PV.kit_bool_list, PV.kit_bool_tuple, PV.kit_str_int, PV.kit_str_bool, PV.kit_str_str, PV.kit_str_list, PV.kit_str_tuple, PV.kit_list_int, PV.kit_list_bool, PV.kit_list_str, PV.kit_list_list, PV.kit_list_tuple, PV.kit_tuple_int, PV.kit_tuple_bool, PV.kit_tuple_str, PV.kit_tuple_list, PV.kit_tuple_tuple, PV.kit_NoneType_int, PV.kit_NoneType_bool, PV.kit_NoneType_str, PV.kit_NoneType_list, PV.kit_NoneType_tuple, PV.cutD_map, PV.allD_map, PV.allD_mapA, PV.allS_map, PV.allS_mapA, List.getElem?_cons_zero, List.getElem?_cons_succ, List.getElem?_nil, List.set_cons_zero, List.set_cons_succ, List.map_cons, List.map_nil, List.cons_append, List.nil_append, List.append_nil, List.length_cons, List.length_nil, List.length_map, List.length_append, List.length_replicate, PV.flat_rep, Nat.mul_one, Nat.one_mul, PV.rep_none, List.replicate_zero, List.all_cons, List.all_nil, cond_true, cond_false, Bool.and_true, Bool.true_and, Bool.and_false, Bool.false_and, Bool.not_true, Bool.not_false, Bool.not_not, if_true, if_false, ite_true, ite_false, true_and, and_true, true_implies, false_implies, reduceCtorEq, Nat.reduceAdd, Nat.reduceSub, Nat.reduceLT, Nat.reduceLeDiff, Bool.false_eq_true, decide_eq_true_eq, decide_eq_false_iff_not, Bool.not_eq_true, Bool.not_eq_false, Bool.not_eq_true', Bool.not_eq_false', Bool.true_eq_false, Option.map_some, Option.map_none, decide_true, decide_false, not_true_eq_false, not_false_eq_true, implies_true, forall_const, eq_self, Nat.reduceEqDiff, beq_self_eq_true, ne_eq, Int.reduceEq, Int.reduceNe, Int.reduceLT, Int.reduceLE, Int.reduceGT, Int.reduceGE, Int.reduceToNat, Int.reduceAdd, Int.reduceNeg, Nat.reduceLT, Nat.reduceLeDiff, Nat.reduceAdd, Nat.reduceMul, false_and, and_false, and_self, true_and, and_true, false_implies, PV.at0, PV.at1, PV.at2, PV.at3, PV.at4, PV.at5, Option.some.injEq, exists_eq_left', exists_eq_left, ho3, ho4]
      refine ⟨fun z => ?_, fun z => hN _ ⟨some (.dat (.int x)), some (.dat (.int y)), ?_, ⟨rfl, rfl⟩, rfl⟩⟩
      · rw [eqn, if_neg z, Nat.add_zero] at hk
        rw [← hk]
        exact kQ
      · rw [eqn, if_pos z] at hk
        omega
    · rintro _ ⟨o3, o4, hk, ⟨ho3, ho4⟩, rfl⟩
      simp only [PV.pDivMod, PV.ownsOf_dic, PV.pDNew, PV.pDPut, PV.pDGet2, PV.pDGet, PV.pDIn, PV.pLenD, PV.keyD, PV.pSlScr, PV.pZipT, PV.pRngC, PV.pRngV, PV.pSt1, PV.pM0, PV.pZipS, PV.pM1, PV.pJoin, PV.pFmt, PV.pJoined, PV.pJs, PV.pBMV, PV.pCount, PV.pIndex, PV.pSetIx2, PV.pRetT, PV.pLcF, PV.mapL_inj, PV.pVar, PV.pC, PV.pOp, PV.pUn, PV.pII, PV.pII0, PV.pNeg, PV.pSS, PV.pSS0, PV.eqF_int, PV.eqF_str, PV.eqF_bool, PV.eqF_ni, PV.eqF_in, PV.eqF_nn, PV.eqF_si, PV.eqF_is, PV.eqF_sn, PV.eqF_ns, PV.pEq, PV.pEqD, PV.isN, PV.pIsN, PV.Tg.d, PV.Tg.it, PV.Tg.itD, PV.Tg.ok, PV.pCat, PV.pRep, PV.pCatT, PV.pIn, PV.pNil, PV.pCons, PV.Tg.items, PV.pStar, PV.allD, PV.allS, PV.pTup, PV.pLst, PV.pNoPart, PV.pPart, PV.pSlL, PV.pSlT, PV.pCB, PV.pLen, PV.pLenS, PV.pI1, PV.pI10, PV.pI2, PV.pInt1, PV.pBool1, PV.pS1, PV.pListOf, PV.pTupOf, PV.tyD, PV.pIsi, PV.bD, PV.pAndV, PV.pOrV, PV.pNotV, PV.pIfE, PV.pT, PV.pAnd, PV.pOr, PV.pNot, PV.truD, PV.pTru, PV.pNotT, PV.pChain, PV.pThree, PV.Rs.arg, PV.lend, PV.pCall, PV.pCall0, PV.pIt, PV.pItT, PV.pRg1, PV.pRg2, PV.pRg3, PV.pEnum, PV.pZip, PV.pRev, PV.pStr, PV.setR, PV.pName, PV.pTgt, PV.pTgts, PV.pTg, PV.pNext, PV.pBreak, PV.pCont, PV.pSeq, PV.pShr, PV.pShrI, PV.shI, PV.pFgt, PV.fgt, PV.pAsg, PV.pExpr, PV.Rs.ret, PV.pRet, PV.pRetN, PV.pIf, PV.pFld, PV.pAug, PV.pPar, PV.pBM, PV.pBM0, PV.pAppend, PV.pExtend, PV.pExtT, PV.pClear, PV.pReverse, PV.pSetIx, PV.pFor, PV.wipeG, PV.pLc, PV.gG, PV.pGen, PV.pYes, PV.pSum, PV.pRaise, PV.pRaise1, PV.slA, PV.startG, PV.ends, PV.pRevL, PV.pSlS, PV.pSign, PV.pProp, PV.pMake, PV.pMake0, PV.pTry, PV.pRetD, PV.Rs.asD, PV.sg, PV.Sl.r, PV.dV, PV.flatD, PV.owns, PV.ownsOf_no, PV.ownsOf_dat, PV.ownsOf_obj, PV.ownsOf_own, PV.ownsOf_tab, PV.shr, PV.Sl.sh, PV.intsOf_map, PV.intsOf_app, PV.intsOf_nil, PV.intsOf_int, PV.isInts_map, PV.isInts_nil, PV.isInts_int, PV.isInts_mapL, PV.scr_key, PV.isiQ_s, PV.kit_int_int, PV.kit_int_bool, PV.kit_int_str, PV.kit_int_list, PV.kit_int_tuple, PV.kit_bool_int, PV.kit_bool_bool, PV.kit_bool_str, PV.kit_bool_list, PV.kit_bool_tuple, PV.kit_str_int, PV.kit_str_bool, PV.kit_str_str, PV.kit_str_list, PV.kit_str_tuple, PV.kit_list_int, PV.kit_list_bool, PV.kit_list_str, PV.kit_list_list, PV.kit_list_tuple, PV.kit_tuple_int, PV.kit_tuple_bool, PV.kit_tuple_str, PV.kit_tuple_list, PV.kit_tuple_tuple, PV.kit_NoneType_int, PV.kit_NoneType_bool, PV.kit_NoneType_str, PV.kit_NoneType_list, PV.kit_NoneType_tuple, PV.cutD_map, PV.allD_map, PV.allD_mapA, PV.allS_map, PV.allS_mapA, List.getElem?_cons_zero, List.getElem?_cons_succ, List.getElem?_nil, List.set_cons_zero, List.set_cons_succ, List.map_cons, List.map_nil, List.cons_append, List.nil_append, List.append_nil, List.length_cons, List.length_nil, List.length_map, List.length_append, List.length_replicate, PV.flat_rep, Nat.mul_one, Nat.one_mul, PV.rep_none, List.replicate_zero, List.all_cons, List.all_nil, cond_true, cond_false, Bool.and_true, Bool.true_and, Bool.and_false, Bool.false_and, Bool.not_true, Bool.not_false, Bool.not_not, if_true, if_false, ite_true, ite_false, true_and, and_true, true_implies, false_implies, reduceCtorEq, Nat.reduceAdd, Nat.reduceSub, Nat.reduceLT, Nat.reduceLeDiff, Bool.false_eq_true, decide_eq_true_eq, decide_eq_false_iff_not, Bool.not_eq_true, Bool.not_eq_false, Bool.not_eq_true', Bool.not_eq_false', Bool.true_eq_false, Option.map_some, Option.map_none, decide_true, decide_false, not_true_eq_false, not_false_eq_true, implies_true, forall_const, eq_self, Nat.reduceEqDiff, beq_self_eq_true, ne_eq, Int.reduceEq, Int.reduceNe, Int.reduceLT, Int.reduceLE, Int.reduceGT, Int.reduceGE, Int.reduceToNat, Int.reduceAdd, Int.reduceNeg, Nat.reduceLT, Nat.reduceLeDiff, Nat.reduceAdd, Nat.reduceMul, false_and, and_false, and_self, true_and, and_true, false_implies, PV.at0, PV.at1, PV.at2, PV.at3, PV.at4, PV.at5, Option.some.injEq, exists_eq_left', exists_eq_left, ho3, ho4]
      have e0 : eqn (a.drop (a.zip b).length) (b.drop (a.zip b).length) = 0 := by
        rw [List.length_zip]
        by_cases h : a.length ≤ b.length
        · rw [Nat.min_eq_left h, List.drop_length]
          rfl
        · rw [Nat.min_eq_right (by omega), List.drop_length]
          cases a.drop b.length <;> rfl
      rw [e0, Nat.add_zero] at hk
      rw [← hk]
      exact kQ
  · exact h.elim
def kept : List Step → Nat
  | [] => 0
  | .keep n :: r => n + kept r
  | _ :: r => kept r
/-- the way back through the rows -/
def bt (a b : List Int) (i j : Nat) : List Step :=
  if 0 < i ∧ vb a b j (i - 1) = true then bt a b (i - 1) j ++ [.drop 1]
  else if 0 < j ∧ (i = 0 ∨ vb a b (j - 1) (i - 1) = false) then bt a b i (j - 1) ++ [.add [b.getD (j - 1) 0]]
  else if 0 < i ∧ 0 < j then bt a b (i - 1) (j - 1) ++ [.keep 1]
  else []
termination_by i + j
def btS (a b : List Int) : List Step := bt a b a.length b.length
theorem bt_drop {a b : List Int} {i j : Nat} (h : 0 < i ∧ vb a b j (i - 1) = true) : bt a b i j = bt a b (i - 1) j ++ [.drop 1] := by
  rw [bt, if_pos h]
theorem bt_add {a b : List Int} {i j : Nat} (h : ¬ (0 < i ∧ vb a b j (i - 1) = true)) (h2 : 0 < j ∧ (i = 0 ∨ vb a b (j - 1) (i - 1) = false)) : bt a b i j = bt a b i (j - 1) ++ [.add [b.getD (j - 1) 0]] := by
  rw [bt, if_neg h, if_pos h2]
theorem bt_keep {a b : List Int} {i j : Nat} (h : ¬ (0 < i ∧ vb a b j (i - 1) = true)) (h2 : ¬ (0 < j ∧ (i = 0 ∨ vb a b (j - 1) (i - 1) = false))) (h3 : 0 < i ∧ 0 < j) : bt a b i j = bt a b (i - 1) (j - 1) ++ [.keep 1] := by
  rw [bt, if_neg h, if_neg h2, if_pos h3]
theorem bt_0 {a b : List Int} : bt a b 0 0 = [] := by
  rw [bt, if_neg (fun z => absurd z.1 (Nat.lt_irrefl 0)), if_neg (fun z => absurd z.1 (Nat.lt_irrefl 0)), if_neg (fun z => absurd z.1 (Nat.lt_irrefl 0))]
/-- what is written already, from the end -/
structure ChO (a b : List Int) (i j : Nat) (acc : List Step) : Prop where
  hi : i ≤ a.length
  hj : j ≤ b.length
  hl : acc.length ≤ (a.length - i) + (b.length - j)
  hs : ∀ s ∈ acc, s.sz = 1
  hr : run (a.drop i) acc.reverse = b.drop j
  ht : taken acc.reverse = a.length - i
  hk : kept acc.reverse + LC a b i j = lcs a b
  hb : bt a b i j ++ acc.reverse = btS a b
def ChI (a b : List Int) (bl : List PyData) (p : Addr) (m : Nat) (g : PV.Gm) : Prop := ∃ i j acc, m = i + j ∧ ChO a b i j acc ∧
  g = [some (.dat (.list (a.map .int))), some (.dat (.list (b.map .int))), some (.dat (.list bl)), some (.own p (acc.map stepD)), some (.dat (.int (j : Int))), some (.dat (.int (i : Int)))]
theorem sz_snoc {acc : List Step} {s : Step} (h : ∀ s ∈ acc, s.sz = 1) (e : s.sz = 1) : ∀ t ∈ acc ++ [s], t.sz = 1 := fun t ht => by
  rcases List.mem_append.mp ht with z | z
  · exact h t z
  · rw [List.mem_singleton.mp z]
    exact e
theorem ch_drop {a b : List Int} {i j : Nat} {acc : List Step} (h : ChO a b i j acc) (hi : 0 < i) (hv : vb a b j (i - 1) = true) : ChO a b (i - 1) j (acc ++ [.drop 1]) := by
  have hbt := bt_drop ⟨hi, hv⟩
  obtain ⟨i, rfl⟩ : ∃ n, i = n + 1 := ⟨i - 1, by omega⟩
  have hv : LC a b (i + 1) j = LC a b i j := of_decide_eq_true hv
  have h1 := h.hi
  have h2 := h.hl
  refine ⟨by omega, h.hj, by rw [List.length_append]; show acc.length + 1 ≤ _; omega, sz_snoc h.hs rfl, ?_, ?_, ?_, ?_⟩
  · rw [List.reverse_append]
    show run (a.drop i) (.drop 1 :: acc.reverse) = _
    show [] ++ run ((a.drop i).drop 1) acc.reverse = _
    rw [List.drop_drop, List.nil_append]
    exact h.hr
  · rw [List.reverse_append]
    show 1 + taken acc.reverse = _
    rw [h.ht]
    show 1 + (a.length - (i + 1)) = a.length - i
    omega
  · rw [List.reverse_append]
    show kept acc.reverse + LC a b i j = _
    rw [← hv]
    exact h.hk
  · rw [List.reverse_append, ← h.hb, hbt, List.append_assoc]
    rfl
theorem ch_add {a b : List Int} {i j : Nat} {acc : List Step} (h : ChO a b i j acc) (hj : 0 < j) (hv : LC a b i (j - 1) = LC a b i j) (hbt : bt a b i j = bt a b i (j - 1) ++ [.add [b.getD (j - 1) 0]]) : ChO a b i (j - 1) (acc ++ [.add [b.getD (j - 1) 0]]) := by
  obtain ⟨j, rfl⟩ : ∃ n, j = n + 1 := ⟨j - 1, by omega⟩
  have hv : LC a b i j = LC a b i (j + 1) := hv
  have h1 := h.hj
  have h2 := h.hl
  have hlt : j < b.length := by omega
  refine ⟨h.hi, by omega, by rw [List.length_append]; show acc.length + 1 ≤ _; omega, sz_snoc h.hs rfl, ?_, ?_, ?_, ?_⟩
  · rw [List.reverse_append]
    show [b.getD j 0] ++ run ((a.drop i).drop 0) acc.reverse = b.drop j
    rw [List.drop_zero, h.hr, List.drop_eq_getElem_cons hlt, List.getD_eq_getElem?_getD, List.getElem?_eq_getElem hlt]
    rfl
  · rw [List.reverse_append]
    show 0 + taken acc.reverse = _
    rw [h.ht, Nat.zero_add]
  · rw [List.reverse_append]
    show kept acc.reverse + LC a b i j = _
    rw [hv]
    exact h.hk
  · rw [List.reverse_append, ← h.hb, hbt, List.append_assoc]
    rfl
theorem ch_keep {a b : List Int} {i j : Nat} {acc : List Step} (h : ChO a b i j acc) (hi : 0 < i) (hj : 0 < j) (he : a.getD (i - 1) 0 = b.getD (j - 1) 0) (hv : LC a b i j = LC a b (i - 1) (j - 1) + 1) (hbt : bt a b i j = bt a b (i - 1) (j - 1) ++ [.keep 1]) : ChO a b (i - 1) (j - 1) (acc ++ [.keep 1]) := by
  obtain ⟨i, rfl⟩ : ∃ n, i = n + 1 := ⟨i - 1, by omega⟩
  obtain ⟨j, rfl⟩ : ∃ n, j = n + 1 := ⟨j - 1, by omega⟩
  have he : a.getD i 0 = b.getD j 0 := he
  have hv : LC a b (i + 1) (j + 1) = LC a b i j + 1 := hv
  have h1 := h.hj
  have h1' := h.hi
  have h2 := h.hl
  have hlt : j < b.length := by omega
  have hlt' : i < a.length := by omega
  refine ⟨by omega, by omega, by rw [List.length_append]; show acc.length + 1 ≤ _; omega, sz_snoc h.hs rfl, ?_, ?_, ?_, ?_⟩
  · rw [List.reverse_append]
    show (a.drop i).take 1 ++ run ((a.drop i).drop 1) acc.reverse = b.drop j
    rw [List.drop_drop, h.hr, List.drop_eq_getElem_cons hlt, List.drop_eq_getElem_cons hlt']
    rw [List.getD_eq_getElem?_getD, List.getD_eq_getElem?_getD, List.getElem?_eq_getElem hlt, List.getElem?_eq_getElem hlt'] at he
    have he : a[i] = b[j] := he
    rw [he]
    rfl
  · rw [List.reverse_append]
    show 1 + taken acc.reverse = _
    rw [h.ht]
    show 1 + (a.length - (i + 1)) = a.length - i
    omega
  · rw [List.reverse_append]
    show 1 + kept acc.reverse + LC a b i j = _
    have := h.hk
    rw [hv] at this
    omega
  · rw [List.reverse_append, ← h.hb, hbt, List.append_assoc]
    rfl
/-- a gain, and the row before: where the last item of b is left out, and where both last items are one -/
theorem gain_add {a b : List Int} {i j : Nat} (hi : 0 < i) (hj : 0 < j) (h1 : vb a b j (i - 1) = false) (h2 : vb a b (j - 1) (i - 1) = false) : LC a b i (j - 1) = LC a b i j := by
  obtain ⟨i, rfl⟩ : ∃ n, i = n + 1 := ⟨i - 1, by omega⟩
  obtain ⟨j, rfl⟩ : ∃ n, j = n + 1 := ⟨j - 1, by omega⟩
  have h1 : ¬ LC a b (i + 1) (j + 1) = LC a b i (j + 1) := of_decide_eq_false h1
  have h2 : ¬ LC a b (i + 1) j = LC a b i j := of_decide_eq_false h2
  have u1 := LC_i a b i (j + 1)
  have u2 := LC_i a b i j
  have u3 := LC_j a b i j
  have u4 := LC_j a b (i + 1) j
  have e := LC_s a b i j
  show LC a b (i + 1) j = LC a b (i + 1) (j + 1)
  split at e <;> omega
theorem gain_keep {a b : List Int} {i j : Nat} (hi : 0 < i) (hj : 0 < j) (h1 : vb a b j (i - 1) = false) (h2 : vb a b (j - 1) (i - 1) = true) : a.getD (i - 1) 0 = b.getD (j - 1) 0 ∧ LC a b i j = LC a b (i - 1) (j - 1) + 1 := by
  obtain ⟨i, rfl⟩ : ∃ n, i = n + 1 := ⟨i - 1, by omega⟩
  obtain ⟨j, rfl⟩ : ∃ n, j = n + 1 := ⟨j - 1, by omega⟩
  have h1 : ¬ LC a b (i + 1) (j + 1) = LC a b i (j + 1) := of_decide_eq_false h1
  have h2 : LC a b (i + 1) j = LC a b i j := of_decide_eq_true h2
  have u1 := LC_i a b i (j + 1)
  have u2 := LC_i a b i j
  have u3 := LC_j a b i j
  have u4 := LC_j a b (i + 1) j
  have e := LC_s a b i j
  show a.getD i 0 = b.getD j 0 ∧ LC a b (i + 1) (j + 1) = LC a b i j + 1
  split at e
  · next z => exact ⟨z, e⟩
  · omega
theorem gain_row {a b : List Int} {i j : Nat} (hi : 0 < i) (h1 : vb a b j (i - 1) = false) : 0 < j := by
  cases j with
  | zero =>
    rw [vb_0] at h1
    cases h1
  | succ j => omega
def pChanges : PV.PSp := fun as _ Q => match as with
  | [.v _ (.list xs), .v _ (.list ys)] => PV.isInts xs ∧ PV.isInts ys ∧ xs.length ≤ 1024 ∧ ys.length ≤ 5000 ∧ ∀ ss : List Step, ss = btS (PV.intsOf xs) (PV.intsOf ys) → (ss.length ≤ xs.length + ys.length ∧ tot ss ≤ xs.length + ys.length ∧ ∀ s ∈ ss, 0 < s.sz) → run (PV.intsOf xs) ss = PV.intsOf ys → taken ss = xs.length → kept ss = lcs (PV.intsOf xs) (PV.intsOf ys) → Q (.v .dat (.list (ss.map stepD)))
  | _ => False
theorem ok__changes (T : Txt K mg) : Ok P w K mg base CX0 3 "_changes" ["old", "new"] (PV.spP K [] (PV.sg 2 pChanges)) := by
  have G__gain_blocks := ok__gain_blocks (P := P) (w := w) (base := base) T
  have G__is_gain := ok__is_gain (P := P) (w := w) (base := base) T
  refine PV.pv_def T.d__changes sc__changes (fun as PX PQ h => h.1) fun f cdv A outer s H E hr => ?_
  have nd := sc__changes.nd
  refine ⟨_, _, (pss_cons (ps_set (i := 2) nd rfl (Or.inl rfl) (pe_callO G__gain_blocks (hr.mono (by decide)) pass0 (pa_cons (pv 0) (pa_cons (pv 1) pa_nil))))
      (pss_cons (ps_set (i := 3) nd rfl (Or.inl rfl) (pe_lst pa_nil))
      (pss_cons (ps_set (i := 4) nd rfl (Or.inl rfl) (pe_callB call_len_seq (by rfl) T.n_len PySem.boot_len (pa_cons (pv 1) pa_nil)))
      (pss_cons (ps_set (i := 5) nd rfl (Or.inl rfl) (pe_callB call_len_seq (by rfl) T.n_len PySem.boot_len (pa_cons (pv 0) pa_nil)))
      (pss_cons (ps_while PassesOwn.never (PW.pt (pw_or (pt_cmpR op_gt (pv 4) pe_int (nomark _)) (pw_or1 (pt_cmpR op_gt (pv 5) pe_int (nomark _)))))
        (pss_one (ps_if (PW.pt (pw_and (pt_cmpR op_gt (pv 5) pe_int (nomark _)) (pw_and1 (pt_not (pt_val (pe_callO G__is_gain (hr.mono (by decide)) pass0 (pa_cons (pv 2) (pa_cons (pv 4) (pa_cons (pv 5) pa_nil)))))))))
          (pss_cons (ps_expr (pe_bm PySem.F.plainAttrs_list PySem.F.slot_list_append PySem.F.type_list_append mt_append (pv 3) (pa_cons (pe_tup (pa_cons pe_str (pa_cons pe_int pa_nil))) pa_nil)))
          (pss_one (ps_aug (i := 5) nd rfl (Or.inl rfl) pe_int ip_sub)))
          (pss_one (ps_if (PW.pt (pw_or (pt_cmpR op_eq (pv 5) pe_int (nomark _)) (pw_or1 (pt_val (pe_callO G__is_gain (hr.mono (by decide)) pass0 (pa_cons (pv 2) (pa_cons (pe_op op_sub (pv 4) pe_int) (pa_cons (pv 5) pa_nil))))))))
            (pss_cons (ps_aug (i := 4) nd rfl (Or.inl rfl) pe_int ip_sub)
            (pss_one (ps_expr (pe_bm PySem.F.plainAttrs_list PySem.F.slot_list_append PySem.F.type_list_append mt_append (pv 3) (pa_cons (pe_tup (pa_cons pe_str (pa_cons (pe_tup (pa_cons (pe_ix ix_list (pv 1) (pv 4) (fun _ _ => rfl)) pa_nil)) pa_nil))) pa_nil)))))
            (pss_cons (ps_expr (pe_bm PySem.F.plainAttrs_list PySem.F.slot_list_append PySem.F.type_list_append mt_append (pv 3) (pa_cons (pe_tup (pa_cons pe_str (pa_cons pe_int pa_nil))) pa_nil)))
            (pss_cons (ps_aug (i := 4) nd rfl (Or.inl rfl) pe_int ip_sub)
            (pss_one (ps_aug (i := 5) nd rfl (Or.inl rfl) pe_int ip_sub)))))))))
      (pss_one (ps_ret (pe_revL (pv 3))))))))),
    open PV in (ls_seq (ls_asg (le_call0 spok (la_cons le_var (la_cons le_var la_nil))) (lg_name (b := false)))
      (ls_seq (ls_asg (le_lst la_nil) (lg_name (b := true)))
      (ls_seq (ls_asg (le_cb lc_len (la_cons le_var la_nil)) (lg_name (b := false)))
      (ls_seq (ls_asg (le_cb lc_len (la_cons le_var la_nil)) (lg_name (b := false)))
      (ls_seq (ls_while (lt_or (lt_test (le_op lr_I0 le_var le_c)) (lt_test (le_op lr_I0 le_var le_c)))
      (ls_if (lt_and (lt_test (le_op lr_I0 le_var le_c)) (lt_not (lt_B (le_call0 spok (la_cons le_var (la_cons le_var (la_cons le_var la_nil)))))))
      (ls_seq (ls_bm lm_append (la_cons (le_tup (la_cons le_c (la_cons le_c la_nil))) la_nil))
      (ls_aug le_c))
      (ls_if (lt_or (lt_test (le_op lr_eq le_var le_c)) (lt_B (le_call0 spok (la_cons le_var (la_cons (le_op lr_I0 le_var le_c) (la_cons le_var la_nil))))))
      (ls_seq (ls_aug le_c)
      (ls_bm lm_append (la_cons (le_tup (la_cons le_c (la_cons (le_tup (la_cons (le_op lr_ixL le_var le_var) la_nil)) la_nil))) la_nil)))
      (ls_seq (ls_bm lm_append (la_cons (le_tup (la_cons le_c (la_cons le_c la_nil))) la_nil))
      (ls_seq (ls_aug le_c)
      (ls_aug le_c))))))
      (ls_retD (le_revL le_var))))))), fun as PX PQ h => ?_⟩
  replace h := h.2
  unfold pChanges at h
  split at h
  · next t xs t2 ys =>
    obtain ⟨hi, hi2, hl, hl2, kQ⟩ := h
    unfold PV.isInts at hi hi2
    generalize PV.intsOf xs = a at *
    generalize PV.intsOf ys = b at *
    subst hi
    subst hi2
    rw [List.length_map] at hl hl2
    rw [List.length_map, List.length_map] at kQ
    simp only [PV.pDivMod, PV.ownsOf_dic, PV.pDNew, PV.pDPut, PV.pDGet2, PV.pDGet, PV.pDIn, PV.pLenD, PV.keyD, PV.pSlScr, PV.pZipT, PV.pRngC, PV.pRngV, PV.pSt1, PV.pM0, PV.pZipS, PV.pM1, PV.pJoin, PV.pFmt, PV.pJoined, PV.pJs, PV.pBMV, PV.pCount, PV.pIndex, PV.pSetIx2, PV.pRetT, PV.pLcF, PV.mapL_inj, PV.pVar, PV.pC, PV.pOp, PV.pUn, PV.pII, PV.pII0, PV.pNeg, PV.pSS, PV.pSS0, PV.eqF_int, PV.eqF_str, PV.eqF_bool, PV.eqF_ni, PV.eqF_in, PV.eqF_nn, PV.eqF_si, PV.eqF_is, PV.eqF_sn, PV.eqF_ns, PV.pEq, PV.pEqD, PV.isN, PV.pIsN, PV.Tg.d, PV.Tg.it, PV.Tg.itD, PV.Tg.ok, PV.pCat, PV.pRep, PV.pCatT, PV.pIn, PV.pNil, PV.pCons, PV.Tg.items, PV.pStar, PV.allD, PV.allS, PV.pTup, PV.pLst, PV.pNoPart, PV.pPart, PV.pSlL, PV.pSlT, PV.pCB, PV.pLen, PV.pLenS, PV.pI1, PV.pI10, PV.pI2, PV.pInt1, PV.pBool1, PV.pS1, PV.pListOf, PV.pTupOf, PV.tyD, PV.pIsi, PV.bD, PV.pAndV, PV.pOrV, PV.pNotV, PV.pIfE, PV.pT, PV.pAnd, PV.pOr, PV.pNot, PV.truD, PV.pTru, PV.pNotT, PV.pChain, PV.pThree, PV.Rs.arg, PV.lend, PV.pCall, PV.pCall0, PV.pIt, PV.pItT, PV.pRg1, PV.pRg2, PV.pRg3, PV.pEnum, PV.pZip, PV.pRev, PV.pStr, PV.setR, PV.pName, PV.pTgt, PV.pTgts, PV.pTg, PV.pNext, PV.pBreak, PV.pCont, PV.pSeq, PV.pShr, PV.pShrI, PV.shI, PV.pFgt, PV.fgt, PV.pAsg, PV.pExpr, PV.Rs.ret, PV.pRet, PV.pRetN, PV.pIf, PV.pFld, PV.pAug, PV.pPar, PV.pBM, PV.pBM0, PV.pAppend, PV.pExtend, PV.pExtT, PV.pClear, PV.pReverse, PV.pSetIx, PV.pFor, PV.wipeG, PV.pLc, PV.gG, PV.pGen, PV.pYes, PV.pSum, PV.pRaise, PV.pRaise1, PV.slA, PV.startG, PV.ends, PV.pRevL, PV.pSlS, PV.pSign, PV.pProp, PV.pMake, PV.pMake0, PV.pTry, PV.pRetD, PV.Rs.asD, PV.sg, PV.Sl.r, PV.dV, PV.flatD, PV.owns, PV.ownsOf_no, PV.ownsOf_dat, PV.ownsOf_obj, PV.ownsOf_own, PV.ownsOf_tab, PV.shr, PV.Sl.sh, PV.intsOf_map, PV.intsOf_app, PV.intsOf_nil, PV.intsOf_int, PV.isInts_map, PV.isInts_nil, PV.isInts_int, PV.isInts_mapL, PV.scr_key, PV.isiQ_s, PV.kit_int_int, PV.kit_int_bool, PV.kit_int_str, PV.kit_int_list, PV.kit_int_tuple, PV.kit_bool_int, PV.kit_bool_bool, PV.kit_bool_str, PV.kit_bool_list, PV.kit_bool_tuple, PV.kit_str_int, PV.kit_str_bool, PV.kit_str_str, PV.kit_str_list, PV.kit_str_tuple, PV.kit_list_int, PV.kit_list_bool, PV.kit_list_str, PV.kit_list_list, PV.kit_list_tuple, PV.kit_tuple_int, PV.kit_tuple_bool, PV.kit_tuple_str, PV.kit_tuple_list, PV.kit_tuple_tuple, PV.kit_NoneType_int, PV.kit_NoneType_bool, PV.kit_NoneType_str, PV.kit_NoneType_list, PV.kit_NoneType_tuple, PV.cutD_map, PV.allD_map, PV.allD_mapA, PV.allS_map, PV.allS_mapA, List.getElem?_cons_zero, List.getElem?_cons_succ, List.getElem?_nil, List.set_cons_zero, List.set_cons_succ, List.map_cons, List.map_nil, List.cons_append, List.nil_append, List.append_nil, List.length_cons, List.length_nil, List.length_map, List.length_append, List.length_replicate, PV.flat_rep, Nat.mul_one, Nat.one_mul, PV.rep_none, List.replicate_zero, List.all_cons, List.all_nil, cond_true, cond_false, Bool.and_true, Bool.true_and, Bool.and_false, Bool.false_and, Bool.not_true, Bool.not_false, Bool.not_not, if_true, if_false, ite_true, ite_false, true_and, and_true, true_implies, false_implies, reduceCtorEq, Nat.reduceAdd, Nat.reduceSub, Nat.reduceLT, Nat.reduceLeDiff, Bool.false_eq_true, decide_eq_true_eq, decide_eq_false_iff_not, Bool.not_eq_true, Bool.not_eq_false, Bool.not_eq_true', Bool.not_eq_false', Bool.true_eq_false, Option.map_some, Option.map_none, decide_true, decide_false, not_true_eq_false, not_false_eq_true, implies_true, forall_const, eq_self, Nat.reduceEqDiff, beq_self_eq_true, ne_eq, Int.reduceEq, Int.reduceNe, Int.reduceLT, Int.reduceLE, Int.reduceGT, Int.reduceGE, Int.reduceToNat, Int.reduceAdd, Int.reduceNeg, Nat.reduceLT, Nat.reduceLeDiff, Nat.reduceAdd, Nat.reduceMul, false_and, and_false, and_self, true_and, and_true, false_implies, PV.at0, PV.at1, PV.at2, PV.at3, PV.at4, PV.at5, Option.some.injEq, exists_eq_left', exists_eq_left, pGBlocks]
    refine ⟨hl, by omega, by decide, fun p => ?_⟩
    generalize hbl : (if a.length = 0 then [] else [PyData.list ((rowsI a b).map PyData.int)]) = bl
    unfold PV.pWhile
    refine ⟨ChI a b bl p, ⟨_, a.length, b.length, [], rfl, ⟨Nat.le_refl _, Nat.le_refl _, by simp, (fun s hs => by cases hs), by simp [run], by simp [taken], by simp [kept, lcs], by simp [btS]⟩, rfl⟩, ?_⟩
    rintro m g ⟨i, j, acc, rfl, hO, rfl⟩
    have hal := hO.hl
    have hs : acc.length < sizeLine := small (by omega)
    have e1 : ∀ x : PyData, acc.map stepD ++ [PyData.tuple [.str (Str.ofString "add"), .tuple [x]]] = acc.map stepD ++ [PyData.tuple [.str (Str.ofString "add"), .tuple [x]]] := fun x => rfl
    have fin : ∀ (i2 j2 : Nat) (s : Step) (X : PyData) (u v : Int), ChO a b i2 j2 (acc ++ [s]) → i2 + j2 < i + j → X = stepD s → u = j2 → v = i2 → ∃ m', m' < i + j ∧ ChI a b bl p m' [some (.dat (.list (a.map .int))), some (.dat (.list (b.map .int))), some (.dat (.list bl)), some (.own p (acc.map stepD ++ [X])), some (.dat (.int u)), some (.dat (.int v))] := fun i2 j2 s X u v h hlt hX hu hv => by
      subst hX hu hv
      exact ⟨_, hlt, i2, j2, _, rfl, h, by rw [List.map_append]; rfl⟩
    simp only [PV.pDivMod, PV.ownsOf_dic, PV.pDNew, PV.pDPut, PV.pDGet2, PV.pDGet, PV.pDIn, PV.pLenD, PV.keyD, PV.pSlScr, PV.pZipT, PV.pRngC, PV.pRngV, PV.pSt1, PV.pM0, PV.pZipS, PV.pM1, PV.pJoin, PV.pFmt, PV.pJoined, PV.pJs, PV.pBMV, PV.pCount, PV.pIndex, PV.pSetIx2, PV.pRetT, PV.pLcF, PV.mapL_inj, PV.pVar, PV.pC, PV.pOp, PV.pUn, PV.pII, PV.pII0, PV.pNeg, PV.pSS, PV.pSS0, PV.eqF_int, PV.eqF_str, PV.eqF_bool, PV.eqF_ni, PV.eqF_in, PV.eqF_nn, PV.eqF_si, PV.eqF_is, PV.eqF_sn, PV.eqF_ns, PV.pEq, PV.pEqD, PV.isN, PV.pIsN, PV.Tg.d, PV.Tg.it, PV.Tg.itD, PV.Tg.ok, PV.pCat, PV.pRep, PV.pCatT, PV.pIn, PV.pNil, PV.pCons, PV.Tg.items, PV.pStar, PV.allD, PV.allS, PV.pTup, PV.pLst, PV.pNoPart, PV.pPart, PV.pSlL, PV.pSlT, PV.pCB, PV.pLen, PV.pLenS, PV.pI1, PV.pI10, PV.pI2, PV.pInt1, PV.pBool1, PV.pS1, PV.pListOf, PV.pTupOf, PV.tyD, PV.pIsi, PV.bD, PV.pAndV, PV.pOrV, PV.pNotV, PV.pIfE, PV.pT, PV.pAnd, PV.pOr, PV.pNot, PV.truD, PV.pTru, PV.pNotT, PV.pChain, PV.pThree, PV.Rs.arg, PV.lend, PV.pCall, PV.pCall0, PV.pIt, PV.pItT, PV.pRg1, PV.pRg2, PV.pRg3, PV.pEnum, PV.pZip, PV.pRev, PV.pStr, PV.setR, PV.pName, PV.pTgt, PV.pTgts, PV.pTg, PV.pNext, PV.pBreak, PV.pCont, PV.pSeq, PV.pShr, PV.pShrI, PV.shI, PV.pFgt, PV.fgt, PV.pAsg, PV.pExpr, PV.Rs.ret, PV.pRet, PV.pRetN, PV.pIf, PV.pFld, PV.pAug, PV.pPar, PV.pBM, PV.pBM0, PV.pAppend, PV.pExtend, PV.pExtT, PV.pClear, PV.pReverse, PV.pSetIx, PV.pFor, PV.wipeG, PV.pLc, PV.gG, PV.pGen, PV.pYes, PV.pSum, PV.pRaise, PV.pRaise1, PV.slA, PV.startG, PV.ends, PV.pRevL, PV.pSlS, PV.pSign, PV.pProp, PV.pMake, PV.pMake0, PV.pTry, PV.pRetD, PV.Rs.asD, PV.sg, PV.Sl.r, PV.dV, PV.flatD, PV.owns, PV.ownsOf_no, PV.ownsOf_dat, PV.ownsOf_obj, PV.ownsOf_own, PV.ownsOf_tab, PV.shr, PV.Sl.sh, PV.intsOf_map, PV.intsOf_app, PV.intsOf_nil, PV.intsOf_int, PV.isInts_map, PV.isInts_nil, PV.isInts_int, PV.isInts_mapL, PV.scr_key, PV.isiQ_s, PV.kit_int_int, PV.kit_int_bool, PV.kit_int_str, PV.kit_int_list, PV.kit_int_tuple, PV.kit_bool_int, PV.kit_bool_bool, PV.kit_bool_str, PV.kit_bool_list, PV.kit_bool_tuple, PV.kit_str_int, PV.kit_str_bool, PV.kit_str_str, PV.kit_str_list, PV.kit_str_tuple, PV.kit_list_int, PV.kit_list_bool, PV.kit_list_str, PV.kit_list_list, PV.kit_list_tuple, PV.kit_tuple_int, PV.kit_tuple_bool, PV.kit_tuple_str, PV.kit_tuple_list, PV.kit_tuple_tuple, PV.kit_NoneType_int, PV.kit_NoneType_bool, PV.kit_NoneType_str, PV.kit_NoneType_list, PV.kit_NoneType_tuple, PV.cutD_map, PV.allD_map, PV.allD_mapA, PV.allS_map, PV.allS_mapA, List.getElem?_cons_zero, List.getElem?_cons_succ, List.getElem?_nil, List.set_cons_zero, List.set_cons_succ, List.map_cons, List.map_nil, List.cons_append, List.nil_append, List.append_nil, List.length_cons, List.length_nil, List.length_map, List.length_append, List.length_replicate, PV.flat_rep, Nat.mul_one, Nat.one_mul, PV.rep_none, List.replicate_zero, List.all_cons, List.all_nil, cond_true, cond_false, Bool.and_true, Bool.true_and, Bool.and_false, Bool.false_and, Bool.not_true, Bool.not_false, Bool.not_not, if_true, if_false, ite_true, ite_false, true_and, and_true, true_implies, false_implies, reduceCtorEq, Nat.reduceAdd, Nat.reduceSub, Nat.reduceLT, Nat.reduceLeDiff, Bool.false_eq_true, decide_eq_true_eq, decide_eq_false_iff_not, Bool.not_eq_true, Bool.not_eq_false, Bool.not_eq_true', Bool.not_eq_false', Bool.true_eq_false, Option.map_some, Option.map_none, decide_true, decide_false, not_true_eq_false, not_false_eq_true, implies_true, forall_const, eq_self, Nat.reduceEqDiff, beq_self_eq_true, ne_eq, Int.reduceEq, Int.reduceNe, Int.reduceLT, Int.reduceLE, Int.reduceGT, Int.reduceGE, Int.reduceToNat, Int.reduceAdd, Int.reduceNeg, Nat.reduceLT, Nat.reduceLeDiff, Nat.reduceAdd, Nat.reduceMul, false_and, and_false, and_self, true_and, and_true, false_implies, PV.at0, PV.at1, PV.at2, PV.at3, PV.at4, PV.at5, Option.some.injEq, exists_eq_left', exists_eq_left, pIsGain]
    rw [Int.toNat_natCast, Int.toNat_natCast]
    have hadd : 0 < j → LC a b i (j - 1) = LC a b i j → ¬ (0 < i ∧ vb a b j (i - 1) = true) → (i = 0 ∨ vb a b (j - 1) (i - 1) = false) → ∃ d, atI (b.map PyData.int) ((j : Int) - 1) = some d ∧ 1 ≤ sizeLine ∧ 2 ≤ sizeLine ∧ acc.length < sizeLine ∧ ∃ m', m' < i + j ∧ ChI a b bl p m' [some (.dat (.list (a.map .int))), some (.dat (.list (b.map .int))), some (.dat (.list bl)), some (.own p (acc.map stepD ++ [.tuple [.str "add", .tuple [d]]])), some (.dat (.int ((j : Int) - 1))), some (.dat (.int (i : Int)))] := fun hj hv hb1 hb2 => by
      have hjb := hO.hj
      have hbt := bt_add hb1 ⟨hj, hb2⟩
      refine ⟨.int (b.getD (j - 1) 0), ?_, by decide, by decide, hs, fin _ _ _ _ _ _ (ch_add hO hj hv hbt) (by omega) rfl (by omega) rfl⟩
      rw [PV.at_ints (by omega) (by omega), show ((j : Int) - 1).toNat = j - 1 by omega]
    have hib := hO.hi
    have hjb := hO.hj
    have ej : ((j : Int) - 1).toNat = j - 1 := by omega
    have hdrop : 0 < i → vb a b j (i - 1) = true → 2 ≤ sizeLine ∧ acc.length < sizeLine ∧ ∃ m', m' < i + j ∧ ChI a b bl p m' [some (.dat (.list (a.map .int))), some (.dat (.list (b.map .int))), some (.dat (.list bl)), some (.own p (acc.map stepD ++ [.tuple [.str "drop", .int 1]])), some (.dat (.int (j : Int))), some (.dat (.int ((i : Int) - 1)))] := fun hi hv => ⟨by decide, hs, fin _ _ _ _ _ _ (ch_drop hO hi hv) (by omega) rfl rfl (by omega)⟩
    refine ⟨fun hj => ⟨fun hi => ⟨a, b, hbl.symm, hl, by omega, ⟨by omega, by omega⟩, ⟨by omega, by omega⟩, fun hv => hdrop (by omega) hv, fun hv => ⟨fun z => absurd z (by omega), fun _ => ⟨a, b, hbl.symm, hl, by omega, ⟨by omega, by omega⟩, ⟨by omega, by omega⟩, fun hv2 => ?_, fun hv2 => ?_⟩⟩⟩, fun hi => ⟨fun z => hadd (by omega) ?_ (fun y => absurd y.1 (by omega)) (.inl (by omega)), fun z => absurd (by omega) z⟩⟩, fun hj => ⟨fun hi => ⟨fun _ => ⟨a, b, hbl.symm, hl, by omega, ⟨by omega, by omega⟩, ⟨by omega, by omega⟩, fun hv => hdrop (by omega) hv, fun hv => absurd (gain_row (by omega) hv) (by omega)⟩, fun z => absurd hi z⟩, fun hi => ?_⟩⟩
    · rw [ej] at hv2
      exact hadd (by omega) (gain_add (by omega) (by omega) hv hv2) (fun z => by rw [hv] at z; cases z.2) (.inr hv2)
    · rw [ej] at hv2
      obtain ⟨g1, g2⟩ := gain_keep (by omega) (by omega) hv hv2
      have hbt := bt_keep (a := a) (b := b) (i := i) (j := j) (fun z => by rw [hv] at z; cases z.2) (fun z => z.2.elim (fun y => by omega) fun y => by rw [hv2] at y; cases y) ⟨by omega, by omega⟩
      exact ⟨by decide, hs, fin _ _ _ _ _ _ (ch_keep hO (by omega) (by omega) g1 g2 hbt) (by omega) rfl (by omega) (by omega)⟩
    · have hi0 : i = 0 := by omega
      rw [hi0, LC_0, LC_0]
    · have hi0 : i = 0 := by omega
      have hj0 : j = 0 := by omega
      subst hi0 hj0
      rw [← List.map_reverse]
      have hr := hO.hr
      have ht := hO.ht
      have hk := hO.hk
      rw [LC_0, Nat.add_zero] at hk
      have tl : ∀ l : List Step, (∀ s ∈ l, s.sz = 1) → tot l = l.length := fun l => by
        induction l with
        | nil => exact fun _ => rfl
        | cons s l ih =>
          intro h
          show s.sz + tot l = l.length + 1
          rw [h s List.mem_cons_self, ih fun t ht => h t (List.mem_cons_of_mem _ ht), Nat.add_comm]
      have hsr : ∀ s ∈ acc.reverse, s.sz = 1 := fun s hs => hO.hs s (List.mem_reverse.mp hs)
      have hbb := hO.hb
      rw [bt_0, List.nil_append] at hbb
      exact kQ acc.reverse hbb ⟨by rw [List.length_reverse]; omega, by rw [tl _ hsr, List.length_reverse]; omega, fun s hs => by rw [hsr s hs]; decide⟩ hr ht hk
  · exact h.elim
theorem eqn_ok : ∀ a b : List Int, a.take (eqn a b) = b.take (eqn a b) ∧ eqn a b ≤ a.length ∧ eqn a b ≤ b.length
  | [], b => by simp [eqn]
  | x :: a, [] => by simp [eqn]
  | x :: a, y :: b => by
    have ih := eqn_ok a b
    rw [eqn]
    split
    · next h =>
      subst h
      refine ⟨?_, by rw [List.length_cons]; omega, by rw [List.length_cons]; omega⟩
      rw [List.take_succ_cons, List.take_succ_cons, ih.1]
    · exact ⟨rfl, Nat.zero_le _, Nat.zero_le _⟩
theorem run_pre : ∀ (ss : List Step) (o q : List Int), taken ss ≤ o.length → run (o ++ q) ss = run o ss
  | [], o, q, _ => rfl
  | s :: ss, o, q, h => by
    have h : s.tk + taken ss ≤ o.length := h
    show piece (o ++ q) s ++ run ((o ++ q).drop s.tk) ss = piece o s ++ run (o.drop s.tk) ss
    rw [List.drop_append_of_le_length (by omega), run_pre ss _ q (by rw [List.length_drop]; omega)]
    cases s with
    | keep n =>
      have hn : n ≤ o.length := by
        have : (Step.keep n).tk = n := rfl
        omega
      show (o ++ q).take n ++ _ = o.take n ++ _
      rw [List.take_append_of_le_length hn]
    | drop n => rfl
    | add xs => rfl
theorem kept_app : ∀ x y : List Step, kept (x ++ y) = kept x + kept y
  | [], y => by simp [kept]
  | .keep n :: x, y => by
    show n + kept (x ++ y) = n + kept x + kept y
    rw [kept_app x y]
    omega
  | .drop n :: x, y => kept_app x y
  | .add n :: x, y => kept_app x y
def Step.kn : Step → Nat
  | .keep n => n
  | _ => 0
theorem kept_nf (ss : List Step) : kept (nf ss) = kept ss := by
  have := sum_nfS Step.kn kept rfl (fun s r => by cases s <;> simp [kept, Step.kn]) (fun _ _ => rfl) (fun _ _ => rfl) (fun a b => rfl) ss 0 0 []
  simpa [Step.kn, nf] using this
theorem nfS_end : ∀ (r : List Step) (k d : Nat) (xs : List Int), nfS k d xs (r ++ [.keep 0]) = nfS k d xs r
  | [], k, d, xs => by
    rcases gap_or d xs with g | ⟨rfl, rfl⟩
    · rw [List.nil_append, nfS_flush g]
      show blk k d xs ++ blk 0 0 [] = blk k d xs
      rw [show blk 0 0 [] = [] from rfl, List.append_nil]
    · rw [List.nil_append, nfS_keep]
      rfl
  | .drop n :: r, k, d, xs => nfS_end r k (d + n) xs
  | .add ys :: r, k, d, xs => nfS_end r k d (xs ++ ys)
  | .keep n :: r, k, d, xs => by
    rcases gap_or d xs with g | ⟨rfl, rfl⟩
    · rw [List.cons_append, nfS_flush g, nfS_flush g, nfS_end r]
    · rw [List.cons_append, nfS_keep, nfS_keep, nfS_end r]
/-- the whole script -/
theorem diff_ok {a b : List Int} {s e : Nat} (hs : s = eqn a b) (he : e = eqn (a.drop s).reverse (b.drop s).reverse) {ss : List Step} (h0 : ∀ t ∈ ss, 0 < t.sz) (hr : run ((a.drop s).take ((a.drop s).length - e)) ss = (b.drop s).take ((b.drop s).length - e))
    (ht : taken ss = ((a.drop s).take ((a.drop s).length - e)).length) (hk : kept ss = lcs ((a.drop s).take ((a.drop s).length - e)) ((b.drop s).take ((b.drop s).length - e))) :
    nfOk "" (nf (.keep s :: (ss ++ [.keep e]))) ∧ run a (nf (.keep s :: (ss ++ [.keep e]))) = b ∧ taken (nf (.keep s :: (ss ++ [.keep e]))) = a.length ∧ kept (nf (.keep s :: (ss ++ [.keep e]))) = lcs a b := by
  obtain ⟨p1, p2, p3⟩ := eqn_ok a b
  rw [← hs] at p1 p2 p3
  obtain ⟨q1, q2, q3⟩ := eqn_ok (a.drop s).reverse (b.drop s).reverse
  rw [← he] at q1 q2 q3
  rw [List.length_reverse] at q2 q3
  have q1 : (a.drop s).drop ((a.drop s).length - e) = (b.drop s).drop ((b.drop s).length - e) := by
    have := congrArg List.reverse q1
    rw [List.reverse_take, List.reverse_take, List.reverse_reverse, List.reverse_reverse, List.length_reverse, List.length_reverse] at this
    exact this
  have ea : a = a.take s ++ (a.drop s) := (List.take_append_drop s a).symm
  have eb : b = b.take s ++ (b.drop s) := (List.take_append_drop s b).symm
  have hla : (a.drop s).length = a.length - s := List.length_drop ..
  have hlb : (b.drop s).length = b.length - s := List.length_drop ..
  generalize hA : a.drop s = A at *
  generalize hB : b.drop s = B at *
  have eA : A = A.take (A.length - e) ++ A.drop (A.length - e) := (List.take_append_drop _ A).symm
  have eB : B = B.take (B.length - e) ++ B.drop (B.length - e) := (List.take_append_drop _ B).symm
  have hql : (A.drop (A.length - e)).length = e := by rw [List.length_drop]; omega
  have htl : (A.take (A.length - e)).length = A.length - e := by rw [List.length_take]; omega
  generalize hA2 : A.take (A.length - e) = A2 at *
  generalize hB2 : B.take (B.length - e) = B2 at *
  rw [← q1] at eB
  generalize hq : A.drop (A.length - e) = q at *
  refine ⟨?_, ?_, ?_, ?_⟩
  · -- the normal form
    have e1 : nf (.keep s :: (ss ++ [.keep e])) = nf (kp s ++ (ss ++ kp e)) := by
      have z1 : ∀ r, nf (.keep s :: r) = nf (kp s ++ r) := fun r => by
        by_cases h : 0 < s
        · rw [kpP h]
          rfl
        · rw [kp, if_neg h, show s = 0 by omega]
          exact nfS_keep
      rw [z1]
      by_cases h : 0 < e
      · rw [kpP h]
      · rw [show kp e = [] from if_neg h, show e = 0 by omega, List.append_nil, ← List.append_assoc]
        exact nfS_end _ _ _ _
    rw [e1]
    refine nf_ok fun n hn => ?_
    rcases List.mem_append.mp hn with z | z
    · unfold kp at z
      split at z
      · cases List.mem_singleton.mp z
        assumption
      · cases z
    · rcases List.mem_append.mp z with z | z
      · exact h0 _ z
      · unfold kp at z
        split at z
        · cases List.mem_singleton.mp z
          assumption
        · cases z
  · rw [run_nf]
    show a.take s ++ run (a.drop s) (ss ++ [.keep e]) = b
    rw [hA, run_app, eA, run_pre ss A2 q (by omega), hr, ht, List.drop_left]
    show a.take s ++ (B2 ++ (q.take e ++ [])) = b
    rw [List.append_nil, show q.take e = q from List.take_of_length_le (by omega), p1, ← eB, ← eb]
  · rw [taken_nf]
    show s + taken (ss ++ [.keep e]) = a.length
    rw [taken_snoc, ht]
    show s + (A2.length + e) = a.length
    omega
  · rw [kept_nf]
    show s + kept (ss ++ [.keep e]) = lcs a b
    rw [kept_app, hk]
    show s + (lcs A2 B2 + (e + 0)) = lcs a b
    rw [ea, eb, p1, lcs_pre, eA, eB, lcs_suf, List.length_take]
    omega
/-- the whole script, as a function -/
def dfS (a b : List Int) : List Step := nf (.keep (eqn a b) :: (btS ((a.drop (eqn a b)).take ((a.drop (eqn a b)).length - eqn (a.drop (eqn a b)).reverse (b.drop (eqn a b)).reverse)) ((b.drop (eqn a b)).take ((b.drop (eqn a b)).length - eqn (a.drop (eqn a b)).reverse (b.drop (eqn a b)).reverse)) ++ [.keep (eqn (a.drop (eqn a b)).reverse (b.drop (eqn a b)).reverse)]))
def pDiff : PV.PSp := fun as _ Q => match as with
  | [.v _ (.list xs), .v _ (.list ys)] => PV.isInts xs ∧ PV.isInts ys ∧ xs.length ≤ 1024 ∧ ys.length ≤ 2000 ∧ ∀ ss : List Step, ss = dfS (PV.intsOf xs) (PV.intsOf ys) → (nfOk "" ss ∧ ss.length ≤ 10000 ∧ tot ss ≤ 10000) → run (PV.intsOf xs) ss = PV.intsOf ys → taken ss = xs.length → kept ss = lcs (PV.intsOf xs) (PV.intsOf ys) → Q (.v .dat (.list (ss.map stepD)))
  | _ => False
theorem ok_diff (T : Txt K mg) : Ok P w K mg base CX0 4 "diff" ["old", "new"] (PV.spP K [] (PV.sg 2 pDiff)) := by
  have G__equal_items := ok__equal_items (P := P) (w := w) (base := base) T
  have G__changes := ok__changes (P := P) (w := w) (base := base) T
  have G_normalized := ok_normalized (P := P) (w := w) (base := base) T
  refine PV.pv_def T.d_diff sc_diff (fun as PX PQ h => h.1) fun f cdv A outer s H E hr => ?_
  have nd := sc_diff.nd
  refine ⟨_, _, (pss_cons (ps_set (i := 2) nd rfl (Or.inl rfl) (pe_callO G__equal_items (hr.mono (by decide)) pass0 (pa_cons (pv 0) (pa_cons (pv 1) pa_nil))))
      (pss_cons (ps_set (i := 3) nd rfl (Or.inl rfl) (pe_callO G__equal_items (hr.mono (by decide)) pass0 (pa_cons (pe_revL (pe_slice sl_list (pv 0) (po_some (pv 2)) po_none)) (pa_cons (pe_revL (pe_slice sl_list (pv 1) (po_some (pv 2)) po_none)) pa_nil))))
      (pss_cons (ps_set (i := 4) nd rfl (Or.inl rfl) (pe_callO G__changes (hr.mono (by decide)) pass0 (pa_cons (pe_slice sl_list (pv 0) (po_some (pv 2)) (po_some (pe_op op_sub (pe_callB call_len_seq (by rfl) T.n_len PySem.boot_len (pa_cons (pv 0) pa_nil)) (pv 3)))) (pa_cons (pe_slice sl_list (pv 1) (po_some (pv 2)) (po_some (pe_op op_sub (pe_callB call_len_seq (by rfl) T.n_len PySem.boot_len (pa_cons (pv 1) pa_nil)) (pv 3)))) pa_nil))))
      (pss_one (ps_ret (pe_callO G_normalized (hr.mono (by decide)) pass0 (pa_cons (pe_lst (pa_cons (pe_tup (pa_cons pe_str (pa_cons (pv 2) pa_nil))) (StX.pa_star (pv 4) (pa_cons (pe_tup (pa_cons pe_str (pa_cons (pv 3) pa_nil))) pa_nil)))) pa_nil))))))),
    open PV in (ls_seq (ls_asg (le_call0 spok (la_cons le_var (la_cons le_var la_nil))) (lg_name (b := false)))
      (ls_seq (ls_asg (le_call0 spok (la_cons (le_revL (le_slL le_var (lo_some le_var) lo_none)) (la_cons (le_revL (le_slL le_var (lo_some le_var) lo_none)) la_nil))) (lg_name (b := false)))
      (ls_seq (ls_asg (le_call0 spok (la_cons (le_slL le_var (lo_some le_var) (lo_some (le_op lr_I0 (le_cb lc_len (la_cons le_var la_nil)) le_var))) (la_cons (le_slL le_var (lo_some le_var) (lo_some (le_op lr_I0 (le_cb lc_len (la_cons le_var la_nil)) le_var))) la_nil))) (lg_name (b := false)))
      (ls_retD (le_call0 spok (la_cons (le_lst (la_cons (le_tup (la_cons le_c (la_cons le_var la_nil))) (la_star le_var (la_cons (le_tup (la_cons le_c (la_cons le_var la_nil))) la_nil)))) la_nil)))))), fun as PX PQ h => ?_⟩
  replace h := h.2
  unfold pDiff at h
  split at h
  · next t xs t2 ys =>
    obtain ⟨hi, hi2, hl, hl2, kQ⟩ := h
    unfold PV.isInts at hi hi2
    generalize PV.intsOf xs = a at *
    generalize PV.intsOf ys = b at *
    subst hi
    subst hi2
    rw [List.length_map] at hl hl2 kQ
    obtain ⟨p1, p2, p3⟩ := eqn_ok a b
    have hre : ∀ l : List Int, (l.map PyData.int).reverse = l.reverse.map PyData.int := fun l => (List.map_reverse ..).symm
    have c1 : PV.cutL a (some (eqn a b : Int)) none = a.drop (eqn a b) := by rw [PV.cutL_from (by omega), Int.toNat_natCast]
    have c2 : PV.cutL b (some (eqn a b : Int)) none = b.drop (eqn a b) := by rw [PV.cutL_from (by omega), Int.toNat_natCast]
    simp only [PV.pDivMod, PV.ownsOf_dic, PV.pDNew, PV.pDPut, PV.pDGet2, PV.pDGet, PV.pDIn, PV.pLenD, PV.keyD, PV.pSlScr, PV.pZipT, PV.pRngC, PV.pRngV, PV.pSt1, PV.pM0, PV.pZipS, PV.pM1, PV.pJoin, PV.pFmt, PV.pJoined, PV.pJs, PV.pBMV, PV.pCount, PV.pIndex, PV.pSetIx2, PV.pRetT, PV.pLcF, PV.mapL_inj, PV.pVar, PV.pC, PV.pOp, PV.pUn, PV.pII, PV.pII0, PV.pNeg, PV.pSS, PV.pSS0, PV.eqF_int, PV.eqF_str, PV.eqF_bool, PV.eqF_ni, PV.eqF_in, PV.eqF_nn, PV.eqF_si, PV.eqF_is, PV.eqF_sn, PV.eqF_ns, PV.pEq, PV.pEqD, PV.isN, PV.pIsN, PV.Tg.d, PV.Tg.it, PV.Tg.itD, PV.Tg.ok, PV.pCat, PV.pRep, PV.pCatT, PV.pIn, PV.pNil, PV.pCons, PV.Tg.items, PV.pStar, PV.allD, PV.allS, PV.pTup, PV.pLst, PV.pNoPart, PV.pPart, PV.pSlL, PV.pSlT, PV.pCB, PV.pLen, PV.pLenS, PV.pI1, PV.pI10, PV.pI2, PV.pInt1, PV.pBool1, PV.pS1, PV.pListOf, PV.pTupOf, PV.tyD, PV.pIsi, PV.bD, PV.pAndV, PV.pOrV, PV.pNotV, PV.pIfE, PV.pT, PV.pAnd, PV.pOr, PV.pNot, PV.truD, PV.pTru, PV.pNotT, PV.pChain, PV.pThree, PV.Rs.arg, PV.lend, PV.pCall, PV.pCall0, PV.pIt, PV.pItT, PV.pRg1, PV.pRg2, PV.pRg3, PV.pEnum, PV.pZip, PV.pRev, PV.pStr, PV.setR, PV.pName, PV.pTgt, PV.pTgts, PV.pTg, PV.pNext, PV.pBreak, PV.pCont, PV.pSeq, PV.pShr, PV.pShrI, PV.shI, PV.pFgt, PV.fgt, PV.pAsg, PV.pExpr, PV.Rs.ret, PV.pRet, PV.pRetN, PV.pIf, PV.pFld, PV.pAug, PV.pPar, PV.pBM, PV.pBM0, PV.pAppend, PV.pExtend, PV.pExtT, PV.pClear, PV.pReverse, PV.pSetIx, PV.pFor, PV.wipeG, PV.pLc, PV.gG, PV.pGen, PV.pYes, PV.pSum, PV.pRaise, PV.pRaise1, PV.slA, PV.startG, PV.ends, PV.pRevL, PV.pSlS, PV.pSign, PV.pProp, PV.pMake, PV.pMake0, PV.pTry, PV.pRetD, PV.Rs.asD, PV.sg, PV.Sl.r, PV.dV, PV.flatD, PV.owns, PV.ownsOf_no, PV.ownsOf_dat, PV.ownsOf_obj, PV.ownsOf_own, PV.ownsOf_tab, PV.shr, PV.Sl.sh, PV.intsOf_map, PV.intsOf_app, PV.intsOf_nil, PV.intsOf_int, PV.isInts_map, PV.isInts_nil, PV.isInts_int, PV.isInts_mapL, PV.scr_key, PV.isiQ_s, PV.kit_int_int, PV.kit_int_bool, PV.kit_int_str, PV.kit_int_list, PV.kit_int_tuple, PV.kit_bool_int, PV.kit_bool_bool, PV.kit_bool_str, PV.kit_bool_list, PV.kit_bool_tuple, PV.kit_str_int, PV.kit_str_bool, PV.kit_str_str, PV.kit_str_list, PV.kit_str_tuple, PV.kit_list_int, PV.kit_list_bool, PV.kit_list_str, PV.kit_list_list, PV.kit_list_tuple, PV.kit_tuple_int, PV.kit_tuple_bool, PV.kit_tuple_str, PV.kit_tuple_list, PV.kit_tuple_tuple, PV.kit_NoneType_int, PV.kit_NoneType_bool, PV.kit_NoneType_str, PV.kit_NoneType_list, PV.kit_NoneType_tuple, PV.cutD_map, PV.allD_map, PV.allD_mapA, PV.allS_map, PV.allS_mapA, List.getElem?_cons_zero, List.getElem?_cons_succ, List.getElem?_nil, List.set_cons_zero, List.set_cons_succ, List.map_cons, List.map_nil, List.cons_append, List.nil_append, List.append_nil, List.length_cons, List.length_nil, List.length_map, List.length_append, List.length_replicate, PV.flat_rep, Nat.mul_one, Nat.one_mul, PV.rep_none, List.replicate_zero, List.all_cons, List.all_nil, cond_true, cond_false, Bool.and_true, Bool.true_and, Bool.and_false, Bool.false_and, Bool.not_true, Bool.not_false, Bool.not_not, if_true, if_false, ite_true, ite_false, true_and, and_true, true_implies, false_implies, reduceCtorEq, Nat.reduceAdd, Nat.reduceSub, Nat.reduceLT, Nat.reduceLeDiff, Bool.false_eq_true, decide_eq_true_eq, decide_eq_false_iff_not, Bool.not_eq_true, Bool.not_eq_false, Bool.not_eq_true', Bool.not_eq_false', Bool.true_eq_false, Option.map_some, Option.map_none, decide_true, decide_false, not_true_eq_false, not_false_eq_true, implies_true, forall_const, eq_self, Nat.reduceEqDiff, beq_self_eq_true, ne_eq, Int.reduceEq, Int.reduceNe, Int.reduceLT, Int.reduceLE, Int.reduceGT, Int.reduceGE, Int.reduceToNat, Int.reduceAdd, Int.reduceNeg, Nat.reduceLT, Nat.reduceLeDiff, Nat.reduceAdd, Nat.reduceMul, false_and, and_false, and_self, true_and, and_true, false_implies, PV.at0, PV.at1, PV.at2, PV.at3, PV.at4, PV.at5, Option.some.injEq, exists_eq_left', exists_eq_left, pEqn, PV.cutD_map, hre, c1, c2]
    obtain ⟨q1, q2, q3⟩ := eqn_ok (a.drop (eqn a b)).reverse (b.drop (eqn a b)).reverse
    have hd := fun ss => diff_ok (a := a) (b := b) (s := eqn a b) (e := eqn (a.drop (eqn a b)).reverse (b.drop (eqn a b)).reverse) rfl rfl (ss := ss)
    rw [List.length_reverse, List.length_drop] at q2 q3
    have hdf : dfS a b = nf (.keep (eqn a b) :: (btS ((a.drop (eqn a b)).take ((a.drop (eqn a b)).length - eqn (a.drop (eqn a b)).reverse (b.drop (eqn a b)).reverse)) ((b.drop (eqn a b)).take ((b.drop (eqn a b)).length - eqn (a.drop (eqn a b)).reverse (b.drop (eqn a b)).reverse)) ++ [.keep (eqn (a.drop (eqn a b)).reverse (b.drop (eqn a b)).reverse)])) := rfl
    generalize eqn (a.drop (eqn a b)).reverse (b.drop (eqn a b)).reverse = e at *
    generalize eqn a b = s at *
    rw [PV.cutL_mid (by omega) (by omega), PV.cutL_mid (by omega) (by omega), Int.toNat_natCast, show ((a.length : Int) - (e : Int)).toNat - s = (a.drop s).length - e by rw [List.length_drop]; omega, show ((b.length : Int) - (e : Int)).toNat - s = (b.drop s).length - e by rw [List.length_drop]; omega]
    simp only [PV.pDivMod, PV.ownsOf_dic, PV.pDNew, PV.pDPut, PV.pDGet2, PV.pDGet, PV.pDIn, PV.pLenD, PV.keyD, PV.pSlScr, PV.pZipT, PV.pRngC, PV.pRngV, PV.pSt1, PV.pM0, PV.pZipS, PV.pM1, PV.pJoin, PV.pFmt, PV.pJoined, PV.pJs, PV.pBMV, PV.pCount, PV.pIndex, PV.pSetIx2, PV.pRetT, PV.pLcF, PV.mapL_inj, PV.pVar, PV.pC, PV.pOp, PV.pUn, PV.pII, PV.pII0, PV.pNeg, PV.pSS, PV.pSS0, PV.eqF_int, PV.eqF_str, PV.eqF_bool, PV.eqF_ni, PV.eqF_in, PV.eqF_nn, PV.eqF_si, PV.eqF_is, PV.eqF_sn, PV.eqF_ns, PV.pEq, PV.pEqD, PV.isN, PV.pIsN, PV.Tg.d, PV.Tg.it, PV.Tg.itD, PV.Tg.ok, PV.pCat, PV.pRep, PV.pCatT, PV.pIn, PV.pNil, PV.pCons, PV.Tg.items, PV.pStar, PV.allD, PV.allS, PV.pTup, PV.pLst, PV.pNoPart, PV.pPart, PV.pSlL, PV.pSlT, PV.pCB, PV.pLen, PV.pLenS, PV.pI1, PV.pI10, PV.pI2, PV.pInt1, PV.pBool1, PV.pS1, PV.pListOf, PV.pTupOf, PV.tyD, PV.pIsi, PV.bD, PV.pAndV, PV.pOrV, PV.pNotV, PV.pIfE, PV.pT, PV.pAnd, PV.pOr, PV.pNot, PV.truD, PV.pTru, PV.pNotT, PV.pChain, PV.pThree, PV.Rs.arg, PV.lend, PV.pCall, PV.pCall0, PV.pIt, PV.pItT, PV.pRg1, PV.pRg2, PV.pRg3, PV.pEnum, PV.pZip, PV.pRev, PV.pStr, PV.setR, PV.pName, PV.pTgt, PV.pTgts, PV.pTg, PV.pNext, PV.pBreak, PV.pCont, PV.pSeq, PV.pShr, PV.pShrI, PV.shI, PV.pFgt, PV.fgt, PV.pAsg, PV.pExpr, PV.Rs.ret, PV.pRet, PV.pRetN, PV.pIf, PV.pFld, PV.pAug, PV.pPar, PV.pBM, PV.pBM0, PV.pAppend, PV.pExtend, PV.pExtT, PV.pClear, PV.pReverse, PV.pSetIx, PV.pFor, PV.wipeG, PV.pLc, PV.gG, PV.pGen, PV.pYes, PV.pSum, PV.pRaise, PV.pRaise1, PV.slA, PV.startG, PV.ends, PV.pRevL, PV.pSlS, PV.pSign, PV.pProp, PV.pMake, PV.pMake0, PV.pTry, PV.pRetD, PV.Rs.asD, PV.sg, PV.Sl.r, PV.dV, PV.flatD, PV.owns, PV.ownsOf_no, PV.ownsOf_dat, PV.ownsOf_obj, PV.ownsOf_own, PV.ownsOf_tab, PV.shr, PV.Sl.sh, PV.intsOf_map, PV.intsOf_app, PV.intsOf_nil, PV.intsOf_int, PV.isInts_map, PV.isInts_nil, PV.isInts_int, PV.isInts_mapL, PV.scr_key, PV.isiQ_s, PV.kit_int_int, PV.kit_int_bool, PV.kit_int_str, PV.kit_int_list, PV.kit_int_tuple, PV.kit_bool_int, PV.kit_bool_bool, PV.kit_bool_str, PV.kit_bool_list, PV.kit_bool_tuple, PV.kit_str_int, PV.kit_str_bool, PV.kit_str_str, PV.kit_str_list, PV.kit_str_tuple, PV.kit_list_int, PV.kit_list_bool, PV.kit_list_str, PV.kit_list_list, PV.kit_list_tuple, PV.kit_tuple_int, PV.kit_tuple_bool, PV.kit_tuple_str, PV.kit_tuple_list, PV.kit_tuple_tuple, PV.kit_NoneType_int, PV.kit_NoneType_bool, PV.kit_NoneType_str, PV.kit_NoneType_list, PV.kit_NoneType_tuple, PV.cutD_map, PV.allD_map, PV.allD_mapA, PV.allS_map, PV.allS_mapA, List.getElem?_cons_zero, List.getElem?_cons_succ, List.getElem?_nil, List.set_cons_zero, List.set_cons_succ, List.map_cons, List.map_nil, List.cons_append, List.nil_append, List.append_nil, List.length_cons, List.length_nil, List.length_map, List.length_append, List.length_replicate, PV.flat_rep, Nat.mul_one, Nat.one_mul, PV.rep_none, List.replicate_zero, List.all_cons, List.all_nil, cond_true, cond_false, Bool.and_true, Bool.true_and, Bool.and_false, Bool.false_and, Bool.not_true, Bool.not_false, Bool.not_not, if_true, if_false, ite_true, ite_false, true_and, and_true, true_implies, false_implies, reduceCtorEq, Nat.reduceAdd, Nat.reduceSub, Nat.reduceLT, Nat.reduceLeDiff, Bool.false_eq_true, decide_eq_true_eq, decide_eq_false_iff_not, Bool.not_eq_true, Bool.not_eq_false, Bool.not_eq_true', Bool.not_eq_false', Bool.true_eq_false, Option.map_some, Option.map_none, decide_true, decide_false, not_true_eq_false, not_false_eq_true, implies_true, forall_const, eq_self, Nat.reduceEqDiff, beq_self_eq_true, ne_eq, Int.reduceEq, Int.reduceNe, Int.reduceLT, Int.reduceLE, Int.reduceGT, Int.reduceGE, Int.reduceToNat, Int.reduceAdd, Int.reduceNeg, Nat.reduceLT, Nat.reduceLeDiff, Nat.reduceAdd, Nat.reduceMul, false_and, and_false, and_self, true_and, and_true, false_implies, PV.at0, PV.at1, PV.at2, PV.at3, PV.at4, PV.at5, Option.some.injEq, exists_eq_left', exists_eq_left, pChanges]
    have la : (a.drop s).length = a.length - s := List.length_drop ..
    have lb : (b.drop s).length = b.length - s := List.length_drop ..
    have la2 : ((a.drop s).take ((a.drop s).length - e)).length = a.length - s - e := by rw [List.length_take]; omega
    have lb2 : ((b.drop s).take ((b.drop s).length - e)).length = b.length - s - e := by rw [List.length_take]; omega
    refine ⟨by omega, by omega, fun ss hss ⟨z1, z2, z3⟩ hr ht hk => ⟨by decide, by decide, smallE (by omega), ?_⟩⟩
    obtain ⟨g1, g2, g3, g4⟩ := hd ss z3 hr ht hk
    have hl3 : (Step.keep s :: (ss ++ [Step.keep e])).length ≤ 3026 := by
      rw [List.length_cons, List.length_append]
      show ss.length + 1 + 1 ≤ 3026
      omega
    have ht3 : tot (Step.keep s :: (ss ++ [Step.keep e])) ≤ 10000 := by
      show s + tot (ss ++ [Step.keep e]) ≤ 10000
      rw [tot_snoc]
      show s + (tot ss + e) ≤ 10000
      omega
    unfold pNorm
    refine ⟨Step.keep s :: (ss ++ [Step.keep e]), by rw [List.map_cons, List.map_append]; rfl, by omega, ht3, kQ _ (by rw [hdf, hss]) ⟨g1, ?_, ?_⟩ g2 g3 g4⟩
    · have := nfS_len (Step.keep s :: (ss ++ [Step.keep e])) 0 0 []
      show (nfS 0 0 [] _).length ≤ 10000
      omega
    · rw [tot_nf]
      exact ht3
  · exact h.elim
/-- the table of the law -/
def rowCT (a b : List Int) (i n : Nat) : List Int := (List.range n).map fun j => (LC a b i j : Int)
def rowC (a b : List Int) (i : Nat) : List Int := rowCT a b i (b.length + 1)
theorem rowCT_s (a b : List Int) (i n : Nat) : rowCT a b i (n + 1) = rowCT a b i n ++ [(LC a b i n : Int)] := by simp [rowCT, List.range_succ]
theorem rowCT_len (a b : List Int) (i n : Nat) : (rowCT a b i n).length = n := by simp [rowCT]
theorem rowCT_at {a b : List Int} {i n k : Nat} {z : Int} (e : z = (k : Int)) (h : k < n) : atI ((rowCT a b i n).map PyData.int) z = some (.int (LC a b i k : Int)) := by
  refine PV.at_map (j := k) e ?_
  unfold rowCT
  rw [List.getElem?_map, List.getElem?_range h]
  rfl
theorem rowC_0 (a b : List Int) : List.replicate (b.length + 1) (PyData.int 0) = (rowC a b 0).map .int := by
  unfold rowC rowCT
  rw [List.map_map]
  apply List.ext_getElem
  · simp
  · intro j h1 h2
    rw [List.getElem_replicate, List.getElem_map, List.getElem_range]
    show _ = PyData.int (LC a b 0 j : Int)
    rw [LC_0]
    rfl
def pCommon : PV.PSp := fun as _ Q => match as with
  | [.v _ (.list xs), .v _ (.list ys)] => PV.isInts xs ∧ PV.isInts ys ∧ xs.length ≤ 10000 ∧ ys.length ≤ 10000 ∧ Q (.v .dat (.int (lcs (PV.intsOf xs) (PV.intsOf ys))))
  | _ => False
theorem ok__law_common (T : Txt K mg) : Ok P w K mg base CX0 1 "_law_common" ["old", "new"] (PV.spP K [] (PV.sg 2 pCommon)) := by
  refine PV.pv_def T.d__law_common sc__law_common (fun as PX PQ h => h.1) fun f cdv A outer s H E hr => ?_
  have nd := sc__law_common.nd
  refine ⟨_, _, (pss_cons (ps_set (i := 2) nd rfl (Or.inl rfl) (pe_op op_rep (pe_lst (pa_cons pe_int pa_nil)) (pe_op op_add (pe_callB call_len_seq (by rfl) T.n_len PySem.boot_len (pa_cons (pv 1) pa_nil)) pe_int)))
      (pss_cons (ps_for PassesOwn.never rfl (pi_list (pv 0)) (pg_name (i := 3) nd rfl (Or.inl rfl))
        (pss_cons (ps_set (i := 4) nd rfl (Or.inl rfl) (pe_lst (pa_cons pe_int pa_nil)))
        (pss_cons (ps_for PassesOwn.never rfl (pi_range1 rfl T.n_range (pa_cons (pe_callB call_len_seq (by rfl) T.n_len PySem.boot_len (pa_cons (pv 1) pa_nil)) pa_nil)) (pg_name (i := 5) nd rfl (Or.inl rfl))
          (pss_one (ps_if (pt_cmpR op_eq (pe_ix ix_list (pv 1) (pv 5) (fun _ _ => rfl)) (pv 3) (nomark _))
            (pss_one (ps_expr (pe_bm PySem.F.plainAttrs_list PySem.F.slot_list_append PySem.F.type_list_append mt_append (pv 4) (pa_cons (pe_op op_add (pe_ix ix_list (pv 2) (pv 5) (fun _ _ => rfl)) pe_int) pa_nil))))
            (pss_one (ps_expr (pe_bm PySem.F.plainAttrs_list PySem.F.slot_list_append PySem.F.type_list_append mt_append (pv 4) (pa_cons (pe_callB (call_max2 rfl) (by rfl) T.n_max (by decide +kernel) (pa_cons (pe_ix ix_list (pv 4) (pv 5) (fun _ _ => rfl)) (pa_cons (pe_ix ix_list (pv 2) (pe_op op_add (pv 5) pe_int) (fun _ _ => rfl)) pa_nil))) pa_nil)))))))
        (pss_one (ps_set (i := 2) nd rfl (Or.inl rfl) (pv 4))))))
      (pss_one (ps_ret (pe_ix ix_list (pv 2) (pe_callB call_len_seq (by rfl) T.n_len PySem.boot_len (pa_cons (pv 1) pa_nil)) (fun _ _ => rfl)))))),
    open PV in (ls_seq (ls_asg (le_op lr_rep (le_lst (la_cons le_c la_nil)) (le_op lr_I0 (le_cb lc_len (la_cons le_var la_nil)) le_c)) (lg_name (b := false)))
      (ls_seq (ls_for (li_list le_var) (lg_tgt (.name 3))
      (ls_seq (ls_asg (le_lst (la_cons le_c la_nil)) (lg_name (b := true)))
      (ls_seq (ls_for (li_rg1 (la_cons (le_cb lc_len (la_cons le_var la_nil)) la_nil)) (lg_tgt (.name 5))
      (ls_if (lt_test (le_op lr_eq (le_op lr_ixL le_var le_var) le_var))
      (ls_bm lm_append (la_cons (le_op lr_I0 (le_op lr_ixL le_var le_var) le_c) la_nil))
      (ls_bm lm_append (la_cons (le_cb lc_I2 (la_cons (le_op lr_ixL le_var le_var) (la_cons (le_op lr_ixL le_var (le_op lr_I0 le_var le_c)) la_nil))) la_nil))))
      (ls_asg le_var (lg_name (b := false))))))
      (ls_retD (le_op lr_ixL le_var (le_cb lc_len (la_cons le_var la_nil)))))), fun as PX PQ h => ?_⟩
  replace h := h.2
  unfold pCommon at h
  split at h
  · next t xs t2 ys =>
    obtain ⟨hi, hi2, hl, hl2, kQ⟩ := h
    unfold PV.isInts at hi hi2
    generalize PV.intsOf xs = a at *
    generalize PV.intsOf ys = b at *
    subst hi
    subst hi2
    rw [List.length_map] at hl hl2
    simp only [PV.pDivMod, PV.ownsOf_dic, PV.pDNew, PV.pDPut, PV.pDGet2, PV.pDGet, PV.pDIn, PV.pLenD, PV.keyD, PV.pSlScr, PV.pZipT, PV.pRngC, PV.pRngV, PV.pSt1, PV.pM0, PV.pZipS, PV.pM1, PV.pJoin, PV.pFmt, PV.pJoined, PV.pJs, PV.pBMV, PV.pCount, PV.pIndex, PV.pSetIx2, PV.pRetT, PV.pLcF, PV.mapL_inj, PV.pVar, PV.pC, PV.pOp, PV.pUn, PV.pII, PV.pII0, PV.pNeg, PV.pSS, PV.pSS0, PV.eqF_int, PV.eqF_str, PV.eqF_bool, PV.eqF_ni, PV.eqF_in, PV.eqF_nn, PV.eqF_si, PV.eqF_is, PV.eqF_sn, PV.eqF_ns, PV.pEq, PV.pEqD, PV.isN, PV.pIsN, PV.Tg.d, PV.Tg.it, PV.Tg.itD, PV.Tg.ok, PV.pCat, PV.pRep, PV.pCatT, PV.pIn, PV.pNil, PV.pCons, PV.Tg.items, PV.pStar, PV.allD, PV.allS, PV.pTup, PV.pLst, PV.pNoPart, PV.pPart, PV.pSlL, PV.pSlT, PV.pCB, PV.pLen, PV.pLenS, PV.pI1, PV.pI10, PV.pI2, PV.pInt1, PV.pBool1, PV.pS1, PV.pListOf, PV.pTupOf, PV.tyD, PV.pIsi, PV.bD, PV.pAndV, PV.pOrV, PV.pNotV, PV.pIfE, PV.pT, PV.pAnd, PV.pOr, PV.pNot, PV.truD, PV.pTru, PV.pNotT, PV.pChain, PV.pThree, PV.Rs.arg, PV.lend, PV.pCall, PV.pCall0, PV.pIt, PV.pItT, PV.pRg1, PV.pRg2, PV.pRg3, PV.pEnum, PV.pZip, PV.pRev, PV.pStr, PV.setR, PV.pName, PV.pTgt, PV.pTgts, PV.pTg, PV.pNext, PV.pBreak, PV.pCont, PV.pSeq, PV.pShr, PV.pShrI, PV.shI, PV.pFgt, PV.fgt, PV.pAsg, PV.pExpr, PV.Rs.ret, PV.pRet, PV.pRetN, PV.pIf, PV.pFld, PV.pAug, PV.pPar, PV.pBM, PV.pBM0, PV.pAppend, PV.pExtend, PV.pExtT, PV.pClear, PV.pReverse, PV.pSetIx, PV.pFor, PV.wipeG, PV.pLc, PV.gG, PV.pGen, PV.pYes, PV.pSum, PV.pRaise, PV.pRaise1, PV.slA, PV.startG, PV.ends, PV.pRevL, PV.pSlS, PV.pSign, PV.pProp, PV.pMake, PV.pMake0, PV.pTry, PV.pRetD, PV.Rs.asD, PV.sg, PV.Sl.r, PV.dV, PV.flatD, PV.owns, PV.ownsOf_no, PV.ownsOf_dat, PV.ownsOf_obj, PV.ownsOf_own, PV.ownsOf_tab, PV.shr, PV.Sl.sh, PV.intsOf_map, PV.intsOf_app, PV.intsOf_nil, PV.intsOf_int, PV.isInts_map, PV.isInts_nil, PV.isInts_int, PV.isInts_mapL, PV.scr_key, PV.isiQ_s, PV.kit_int_int, PV.kit_int_bool, PV.kit_int_str, PV.kit_int_list, PV.kit_int_tuple, PV.kit_bool_int, PV.kit_bool_bool, PV.kit_bool_str, PV.kit_bool_list, PV.kit_bool_tuple, PV.kit_str_int, PV.kit_str_bool, PV.kit_str_str, PV.kit_str_list, PV.kit_str_tuple, PV.kit_list_int, PV.kit_list_bool, PV.kit_list_str, PV.kit_list_list, PV.kit_list_tuple, PV.kit_tuple_int, PV.kit_tuple_bool, PV.kit_tuple_str, PV.kit_tuple_list, PV.kit_tuple_tuple, PV.kit_NoneType_int, PV.kit_NoneType_bool, PV.kit_NoneType_str, PV.kit_NoneType_list, PV.kit_NoneType_tuple, PV.cutD_map, PV.allD_map, PV.allD_mapA, PV.allS_map, PV.allS_mapA, List.getElem?_cons_zero, List.getElem?_cons_succ, List.getElem?_nil, List.set_cons_zero, List.set_cons_succ, List.map_cons, List.map_nil, List.cons_append, List.nil_append, List.append_nil, List.length_cons, List.length_nil, List.length_map, List.length_append, List.length_replicate, PV.flat_rep, Nat.mul_one, Nat.one_mul, PV.rep_none, List.replicate_zero, List.all_cons, List.all_nil, cond_true, cond_false, Bool.and_true, Bool.true_and, Bool.and_false, Bool.false_and, Bool.not_true, Bool.not_false, Bool.not_not, if_true, if_false, ite_true, ite_false, true_and, and_true, true_implies, false_implies, reduceCtorEq, Nat.reduceAdd, Nat.reduceSub, Nat.reduceLT, Nat.reduceLeDiff, Bool.false_eq_true, decide_eq_true_eq, decide_eq_false_iff_not, Bool.not_eq_true, Bool.not_eq_false, Bool.not_eq_true', Bool.not_eq_false', Bool.true_eq_false, Option.map_some, Option.map_none, decide_true, decide_false, not_true_eq_false, not_false_eq_true, implies_true, forall_const, eq_self, Nat.reduceEqDiff, beq_self_eq_true, ne_eq, Int.reduceEq, Int.reduceNe, Int.reduceLT, Int.reduceLE, Int.reduceGT, Int.reduceGE, Int.reduceToNat, Int.reduceAdd, Int.reduceNeg, Nat.reduceLT, Nat.reduceLeDiff, Nat.reduceAdd, Nat.reduceMul, false_and, and_false, and_self, true_and, and_true, false_implies, PV.at0, PV.at1, PV.at2, PV.at3, PV.at4, PV.at5, Option.some.injEq, exists_eq_left', exists_eq_left]
    rw [show ((b.length : Int) + 1).toNat = b.length + 1 by omega, rowC_0 a b]
    refine ⟨by decide, by omega, by omega, smallE (by omega), PV.loop_ix a (fun i g => ∃ (o3 o4 o5 : Option PV.Sl), (PV.ownsOf o3 = [] ∧ PV.ownsOf o4 = [] ∧ PV.ownsOf o5 = []) ∧ g = [some (.dat (.list (a.map .int))), some (.dat (.list (b.map .int))), some (.dat (.list ((rowC a b i).map .int))), o3, o4, o5]) ⟨none, none, none, ⟨rfl, rfl, rfl⟩, rfl⟩ ?_ ?_⟩
    · rintro i x g hx ⟨o3, o4, o5, ⟨ho3, ho4, ho5⟩, rfl⟩ N hN
      have hxa : a.getD i 0 = x := by rw [List.getD_eq_getElem?_getD, hx]; rfl
      simp only [PV.pDivMod, PV.ownsOf_dic, PV.pDNew, PV.pDPut, PV.pDGet2, PV.pDGet, PV.pDIn, PV.pLenD, PV.keyD, PV.pSlScr, PV.pZipT, PV.pRngC, PV.pRngV, PV.pSt1, PV.pM0, PV.pZipS, PV.pM1, PV.pJoin, PV.pFmt, PV.pJoined, PV.pJs, PV.pBMV, PV.pCount, PV.pIndex, PV.pSetIx2, PV.pRetT, PV.pLcF, PV.mapL_inj, PV.pVar, PV.pC, PV.pOp, PV.pUn, PV.pII, PV.pII0, PV.pNeg, PV.pSS, PV.pSS0, PV.eqF_int, PV.eqF_str, PV.eqF_bool, PV.eqF_ni, PV.eqF_in, PV.eqF_nn, PV.eqF_si, PV.eqF_is, PV.eqF_sn, PV.eqF_ns, PV.pEq, PV.pEqD, PV.isN, PV.pIsN, PV.Tg.d, PV.Tg.it, PV.Tg.itD, PV.Tg.ok, PV.pCat, PV.pRep, PV.pCatT, PV.pIn, PV.pNil, PV.pCons, PV.Tg.items, PV.pStar, PV.allD, PV.allS, PV.pTup, PV.pLst, PV.pNoPart, PV.pPart, PV.pSlL, PV.pSlT, PV.pCB, PV.pLen, PV.pLenS, PV.pI1, PV.pI10, PV.pI2, PV.pInt1, PV.pBool1, PV.pS1, PV.pListOf, PV.pTupOf, PV.tyD, PV.pIsi, PV.bD, PV.pAndV, PV.pOrV, PV.pNotV, PV.pIfE, PV.pT, PV.pAnd, PV.pOr, PV.pNot, PV.truD, PV.pTru, PV.pNotT, PV.pChain, PV.pThree, PV.Rs.arg, PV.lend, PV.pCall, PV.pCall0, PV.pIt, PV.pItT, PV.pRg1, PV.pRg2, PV.pRg3, PV.pEnum, PV.pZip, PV.pRev, PV.pStr, PV.setR, PV.pName, PV.pTgt, PV.pTgts, PV.pTg, PV.pNext, PV.pBreak, PV.pCont, PV.pSeq, PV.pShr, PV.pShrI, PV.shI, PV.pFgt, PV.fgt, PV.pAsg, PV.pExpr, PV.Rs.ret, PV.pRet, PV.pRetN, PV.pIf, PV.pFld, PV.pAug, PV.pPar, PV.pBM, PV.pBM0, PV.pAppend, PV.pExtend, PV.pExtT, PV.pClear, PV.pReverse, PV.pSetIx, PV.pFor, PV.wipeG, PV.pLc, PV.gG, PV.pGen, PV.pYes, PV.pSum, PV.pRaise, PV.pRaise1, PV.slA, PV.startG, PV.ends, PV.pRevL, PV.pSlS, PV.pSign, PV.pProp, PV.pMake, PV.pMake0, PV.pTry, PV.pRetD, PV.Rs.asD, PV.sg, PV.Sl.r, PV.dV, PV.flatD, PV.owns, PV.ownsOf_no, PV.ownsOf_dat, PV.ownsOf_obj, PV.ownsOf_own, PV.ownsOf_tab, PV.shr, PV.Sl.sh, PV.intsOf_map, PV.intsOf_app, PV.intsOf_nil, PV.intsOf_int, PV.isInts_map, PV.isInts_nil, PV.isInts_int, PV.isInts_mapL, PV.scr_key, PV.isiQ_s, PV.kit_int_int, PV.kit_int_bool, PV.kit_int_str, PV.kit_int_list, PV.kit_int_tuple, PV.kit_bool_int, PV.kit_bool_bool, PV.kit_bool_str, PV.kit_bool_list, PV.kit_bool_tuple, PV.kit_str_int, PV.kit_str_bool, PV.kit_str_str, PV.kit_str_list, PV.kit_str_tuple, PV.kit_list_int, PV.kit_list_bool, PV.kit_list_str, PV.kit_list_list, PV.kit_list_tuple, PV.kit_tuple_int, PV.kit_tuple_bool, PV.kit_tuple_str, PV.kit_tuple_list, PV.kit_tuple_tuple, PV.kit_NoneType_int, PV.kit_NoneType_bool, PV.kit_NoneType_str, PV.kit_NoneType_list, PV.kit_NoneType_tuple, PV.cutD_map, PV.allD_map, PV.allD_mapA, PV.allS_map, PV.allS_mapA, List.getElem?_cons_zero, List.getElem?_cons_succ, List.getElem?_nil, List.set_cons_zero, List.set_cons_succ, List.map_cons, List.map_nil, List.cons_append, List.nil_append, List.append_nil, List.length_cons, List.length_nil, List.length_map, List.length_append, List.length_replicate, PV.flat_rep, Nat.mul_one, Nat.one_mul, PV.rep_none, List.replicate_zero, List.all_cons, List.all_nil, cond_true, cond_false, Bool.and_true, Bool.true_and, Bool.and_false, Bool.false_and, Bool.not_true, Bool.not_false, Bool.not_not, if_true, if_false, ite_true, ite_false, true_and, and_true, true_implies, false_implies, reduceCtorEq, Nat.reduceAdd, Nat.reduceSub, Nat.reduceLT, Nat.reduceLeDiff, Bool.false_eq_true, decide_eq_true_eq, decide_eq_false_iff_not, Bool.not_eq_true, Bool.not_eq_false, Bool.not_eq_true', Bool.not_eq_false', Bool.true_eq_false, Option.map_some, Option.map_none, decide_true, decide_false, not_true_eq_false, not_false_eq_true, implies_true, forall_const, eq_self, Nat.reduceEqDiff, beq_self_eq_true, ne_eq, Int.reduceEq, Int.reduceNe, Int.reduceLT, Int.reduceLE, Int.reduceGT, Int.reduceGE, Int.reduceToNat, Int.reduceAdd, Int.reduceNeg, Nat.reduceLT, Nat.reduceLeDiff, Nat.reduceAdd, Nat.reduceMul, false_and, and_false, and_self, true_and, and_true, false_implies, PV.at0, PV.at1, PV.at2, PV.at3, PV.at4, PV.at5, Option.some.injEq, exists_eq_left', exists_eq_left, ho5]
      rw [Int.toNat_natCast]
      refine ⟨by decide, fun p => ⟨by omega, by omega, PV.loop_rg (lo := 0) (n := b.length) (fun k g => ∃ (o5 : Option PV.Sl), PV.ownsOf o5 = [] ∧ g = [some (.dat (.list (a.map .int))), some (.dat (.list (b.map .int))), some (.dat (.list ((rowC a b i).map .int))), some (.dat (.int x)), some (.own p ((rowCT a b (i + 1) (k + 1)).map .int)), o5]) ⟨o5, ho5, by rw [rowCT_s, LC_0']; rfl⟩ ?_ ?_⟩⟩
      · rintro k g hk ⟨o5, ho5, rfl⟩ N2 hN2
        have h1 : atI (b.map PyData.int) (0 + (k : Int)) = some (.int (b.getD k 0)) := by rw [PV.at_ints (by omega) (by omega), show (0 + (k : Int)).toNat = k by omega]
        have h2 : atI ((rowC a b i).map PyData.int) (0 + (k : Int)) = some (.int (LC a b i k : Int)) := rowCT_at (by omega) (by omega)
        have h3 : atI ((rowC a b i).map PyData.int) (0 + (k : Int) + 1) = some (.int (LC a b i (k + 1) : Int)) := rowCT_at (by omega) (by omega)
        have h4 : atI ((rowCT a b (i + 1) (k + 1)).map PyData.int) (0 + (k : Int)) = some (.int (LC a b (i + 1) k : Int)) := rowCT_at (by omega) (by omega)
        have hls := LC_s a b i k
        rw [hxa] at hls
        have fin : ∀ v : Int, v = (LC a b (i + 1) (k + 1) : Int) → N2 [some (.dat (.list (a.map .int))), some (.dat (.list (b.map .int))), some (.dat (.list ((rowC a b i).map .int))), some (.dat (.int x)), some (.own p ((rowCT a b (i + 1) (k + 1)).map .int ++ [.int v])), some (.dat (.int (0 + (k : Int))))] := fun v hv => hN2 _ ⟨some (.dat (.int (0 + (k : Int)))), rfl, by subst hv; rw [rowCT_s a b (i + 1) (k + 1), List.map_append]; rfl⟩
        simp only [PV.pDivMod, PV.ownsOf_dic, PV.pDNew, PV.pDPut, PV.pDGet2, PV.pDGet, PV.pDIn, PV.pLenD, PV.keyD, PV.pSlScr, PV.pZipT, PV.pRngC, PV.pRngV, PV.pSt1, PV.pM0, PV.pZipS, PV.pM1, PV.pJoin, PV.pFmt, PV.pJoined, PV.pJs, PV.pBMV, PV.pCount, PV.pIndex, PV.pSetIx2, PV.pRetT, PV.pLcF, PV.mapL_inj, PV.pVar, PV.pC, PV.pOp, PV.pUn, PV.pII, PV.pII0, PV.pNeg, PV.pSS, PV.pSS0, PV.eqF_int, PV.eqF_str, PV.eqF_bool, PV.eqF_ni, PV.eqF_in, PV.eqF_nn, PV.eqF_si, PV.eqF_is, PV.eqF_sn, PV.eqF_ns, PV.pEq, PV.pEqD, PV.isN, PV.pIsN, PV.Tg.d, PV.Tg.it, PV.Tg.itD, PV.Tg.ok, PV.pCat, PV.pRep, PV.pCatT, PV.pIn, PV.pNil, PV.pCons, PV.Tg.items, PV.pStar, PV.allD, PV.allS, PV.pTup, PV.pLst, PV.pNoPart, PV.pPart, PV.pSlL, PV.pSlT, PV.pCB, PV.pLen, PV.pLenS, PV.pI1, PV.pI10, PV.pI2, PV.pInt1, PV.pBool1, PV.pS1, PV.pListOf, PV.pTupOf, PV.tyD, PV.pIsi, PV.bD, PV.pAndV, PV.pOrV, PV.pNotV, PV.pIfE, PV.pT, PV.pAnd, PV.pOr, PV.pNot, PV.truD, PV.pTru, PV.pNotT, PV.pChain, PV.pThree, PV.Rs.arg, PV.lend, PV.pCall, PV.pCall0, PV.pIt, PV.pItT, PV.pRg1, PV.pRg2, PV.pRg3, PV.pEnum, PV.pZip, PV.pRev, PV.pStr, PV.setR, PV.pName, PV.pTgt, PV.pTgts, PV.pTg, PV.pNext, PV.pBreak, PV.pCont, PV.pSeq, PV.pShr, PV.pShrI, PV.shI, PV.pFgt, PV.fgt, PV.pAsg, PV.pExpr, PV.Rs.ret, PV.pRet, PV.pRetN, PV.pIf, PV.pFld, PV.pAug, PV.pPar, PV.pBM, PV.pBM0, PV.pAppend, PV.pExtend, PV.pExtT, PV.pClear, PV.pReverse, PV.pSetIx, PV.pFor, PV.wipeG, PV.pLc, PV.gG, PV.pGen, PV.pYes, PV.pSum, PV.pRaise, PV.pRaise1, PV.slA, PV.startG, PV.ends, PV.pRevL, PV.pSlS, PV.pSign, PV.pProp, PV.pMake, PV.pMake0, PV.pTry, PV.pRetD, PV.Rs.asD, PV.sg, PV.Sl.r, PV.dV, PV.flatD, PV.owns, PV.ownsOf_no, PV.ownsOf_dat, PV.ownsOf_obj, PV.ownsOf_own, PV.ownsOf_tab, PV.shr, PV.Sl.sh, PV.intsOf_map, PV.intsOf_app, PV.intsOf_nil, PV.intsOf_int, PV.isInts_map, PV.isInts_nil, PV.isInts_int, PV.isInts_mapL, PV.scr_key, PV.isiQ_s, PV.kit_int_int, PV.kit_int_bool, PV.kit_int_str, PV.kit_int_list, PV.kit_int_tuple, PV.kit_bool_int, PV.kit_bool_bool, PV.kit_bool_str, PV.kit_bool_list, PV.kit_bool_tuple, PV.kit_str_int, PV.kit_str_bool, PV.kit_str_str, PV.kit_str_list, PV.kit_str_tuple, PV.kit_list_int, PV.kit_list_bool, PV.kit_list_str, PV.kit_list_list, PV.kit_list_tuple, PV.kit_tuple_int, PV.kit_tuple_bool, PV.kit_tuple_str, PV.kit_tuple_list, PV.kit_tuple_tuple, PV.kit_NoneType_int, PV.kit_NoneType_bool, PV.kit_NoneType_str, PV.kit_NoneType_list, PV.kit_NoneType_tuple, PV.cutD_map, PV.allD_map, PV.allD_mapA, PV.allS_map, PV.allS_mapA, List.getElem?_cons_zero, List.getElem?_cons_succ, List.getElem?_nil, List.set_cons_zero, List.set_cons_succ, List.map_cons, List.map_nil, List.cons_append, List.nil_append, List.append_nil, List.length_cons, List.length_nil, List.length_map, List.length_append, List.length_replicate, PV.flat_rep, Nat.mul_one, Nat.one_mul, PV.rep_none, List.replicate_zero, List.all_cons, List.all_nil, cond_true, cond_false, Bool.and_true, Bool.true_and, Bool.and_false, Bool.false_and, Bool.not_true, Bool.not_false, Bool.not_not, if_true, if_false, ite_true, ite_false, true_and, and_true, true_implies, false_implies, reduceCtorEq, Nat.reduceAdd, Nat.reduceSub, Nat.reduceLT, Nat.reduceLeDiff, Bool.false_eq_true, decide_eq_true_eq, decide_eq_false_iff_not, Bool.not_eq_true, Bool.not_eq_false, Bool.not_eq_true', Bool.not_eq_false', Bool.true_eq_false, Option.map_some, Option.map_none, decide_true, decide_false, not_true_eq_false, not_false_eq_true, implies_true, forall_const, eq_self, Nat.reduceEqDiff, beq_self_eq_true, ne_eq, Int.reduceEq, Int.reduceNe, Int.reduceLT, Int.reduceLE, Int.reduceGT, Int.reduceGE, Int.reduceToNat, Int.reduceAdd, Int.reduceNeg, Nat.reduceLT, Nat.reduceLeDiff, Nat.reduceAdd, Nat.reduceMul, false_and, and_false, and_self, true_and, and_true, false_implies, PV.at0, PV.at1, PV.at2, PV.at3, PV.at4, PV.at5, Option.some.injEq, exists_eq_left', exists_eq_left, h1, h2, h3, h4, ho5]
        rw [rowCT_len]
        refine ⟨fun z => ⟨small (by omega), fin _ ?_⟩, fun z => ⟨small (by omega), fin _ ?_⟩⟩
        · rw [hls, if_pos z.symm]
          rfl
        · rw [hls, if_neg (show ¬ x = b.getD k 0 from fun y => z y.symm)]
          split <;> omega
      · rintro _ ⟨o5, ho5, rfl⟩
        simp only [PV.pDivMod, PV.ownsOf_dic, PV.pDNew, PV.pDPut, PV.pDGet2, PV.pDGet, PV.pDIn, PV.pLenD, PV.keyD, PV.pSlScr, PV.pZipT, PV.pRngC, PV.pRngV, PV.pSt1, PV.pM0, PV.pZipS, PV.pM1, PV.pJoin, PV.pFmt, PV.pJoined, PV.pJs, PV.pBMV, PV.pCount, PV.pIndex, PV.pSetIx2, PV.pRetT, PV.pLcF, PV.mapL_inj, PV.pVar, PV.pC, PV.pOp, PV.pUn, PV.pII, PV.pII0, PV.pNeg, PV.pSS, PV.pSS0, PV.eqF_int, PV.eqF_str, PV.eqF_bool, PV.eqF_ni, PV.eqF_in, PV.eqF_nn, PV.eqF_si, PV.eqF_is, PV.eqF_sn, PV.eqF_ns, PV.pEq, PV.pEqD, PV.isN, PV.pIsN, PV.Tg.d, PV.Tg.it, PV.Tg.itD, PV.Tg.ok, PV.pCat, PV.pRep, PV.pCatT, PV.pIn, PV.pNil, PV.pCons, PV.Tg.items, PV.pStar, PV.allD, PV.allS, PV.pTup, PV.pLst, PV.pNoPart, PV.pPart, PV.pSlL, PV.pSlT, PV.pCB, PV.pLen, PV.pLenS, PV.pI1, PV.pI10, PV.pI2, PV.pInt1, PV.pBool1, PV.pS1, PV.pListOf, PV.pTupOf, PV.tyD, PV.pIsi, PV.bD, PV.pAndV, PV.pOrV, PV.pNotV, PV.pIfE, PV.pT, PV.pAnd, PV.pOr, PV.pNot, PV.truD, PV.pTru, PV.pNotT, PV.pChain, PV.pThree, PV.Rs.arg, PV.lend, PV.pCall, PV.pCall0, PV.pIt, PV.pItT, PV.pRg1, PV.pRg2, PV.pRg3, PV.pEnum, PV.pZip, PV.pRev, PV.pStr, PV.setR, PV.pName, PV.pTgt, PV.pTgts, PV.pTg, PV.pNext, PV.pBreak, PV.pCont, PV.pSeq, PV.pShr, PV.pShrI, PV.shI, PV.pFgt, PV.fgt, PV.pAsg, PV.pExpr, PV.Rs.ret, PV.pRet, PV.pRetN, PV.pIf, PV.pFld, PV.pAug, PV.pPar, PV.pBM, PV.pBM0, PV.pAppend, PV.pExtend, PV.pExtT, PV.pClear, PV.pReverse, PV.pSetIx, PV.pFor, PV.wipeG, PV.pLc, PV.gG, PV.pGen, PV.pYes, PV.pSum, PV.pRaise, PV.pRaise1, PV.slA, PV.startG, PV.ends, PV.pRevL, PV.pSlS, PV.pSign, PV.pProp, PV.pMake, PV.pMake0, PV.pTry, PV.pRetD, PV.Rs.asD, PV.sg, PV.Sl.r, PV.dV, PV.flatD, PV.owns, PV.ownsOf_no, PV.ownsOf_dat, PV.ownsOf_obj, PV.ownsOf_own, PV.ownsOf_tab, PV.shr, PV.Sl.sh, PV.intsOf_map, PV.intsOf_app, PV.intsOf_nil, PV.intsOf_int, PV.isInts_map, PV.isInts_nil, PV.isInts_int, PV.isInts_mapL, PV.scr_key, PV.isiQ_s, PV.kit_int_int, PV.kit_int_bool, PV.kit_int_str, PV.kit_int_list, PV.kit_int_tuple, PV.kit_bool_int, PV.kit_bool_bool, PV.kit_bool_str, PV.kit_bool_list, PV.kit_bool_tuple, PV.kit_str_int, PV.kit_str_bool, PV.kit_str_str, PV.kit_str_list, PV.kit_str_tuple, PV.kit_list_int, PV.kit_list_bool, PV.kit_list_str, PV.kit_list_list, PV.kit_list_tuple, PV.kit_tuple_int, PV.kit_tuple_bool, PV.kit_tuple_str, PV.kit_tuple_list, PV.kit_tuple_tuple, PV.kit_NoneType_int, PV.kit_NoneType_bool, PV.kit_NoneType_str, PV.kit_NoneType_list, PV.kit_NoneType_tuple, PV.cutD_map, PV.allD_map, PV.allD_mapA, PV.allS_map, PV.allS_mapA, List.getElem?_cons_zero, List.getElem?_cons_succ, List.getElem?_nil, List.set_cons_zero, List.set_cons_succ, List.map_cons, List.map_nil, List.cons_append, List.nil_append, List.append_nil, List.length_cons, List.length_nil, List.length_map, List.length_append, List.length_replicate, PV.flat_rep, Nat.mul_one, Nat.one_mul, PV.rep_none, List.replicate_zero, List.all_cons, List.all_nil, cond_true, cond_false, Bool.and_true, Bool.true_and, Bool.and_false, Bool.false_and, Bool.not_true, Bool.not_false, Bool.not_not, if_true, if_false, ite_true, ite_false, true_and, and_true, true_implies, false_implies, reduceCtorEq, Nat.reduceAdd, Nat.reduceSub, Nat.reduceLT, Nat.reduceLeDiff, Bool.false_eq_true, decide_eq_true_eq, decide_eq_false_iff_not, Bool.not_eq_true, Bool.not_eq_false, Bool.not_eq_true', Bool.not_eq_false', Bool.true_eq_false, Option.map_some, Option.map_none, decide_true, decide_false, not_true_eq_false, not_false_eq_true, implies_true, forall_const, eq_self, Nat.reduceEqDiff, beq_self_eq_true, ne_eq, Int.reduceEq, Int.reduceNe, Int.reduceLT, Int.reduceLE, Int.reduceGT, Int.reduceGE, Int.reduceToNat, Int.reduceAdd, Int.reduceNeg, Nat.reduceLT, Nat.reduceLeDiff, Nat.reduceAdd, Nat.reduceMul, false_and, and_false, and_self, true_and, and_true, false_implies, PV.at0, PV.at1, PV.at2, PV.at3, PV.at4, PV.at5, Option.some.injEq, exists_eq_left', exists_eq_left, ho5]
        exact hN _ ⟨_, _, _, ⟨rfl, rfl, PV.ownsOf_sh⟩, rfl⟩
    · rintro _ ⟨o3, o4, o5, ⟨ho3, ho4, ho5⟩, rfl⟩
      have h1 : atI ((rowC a b a.length).map PyData.int) (b.length : Int) = some (.int (LC a b a.length b.length : Int)) := rowCT_at rfl (by omega)
      simp only [PV.pDivMod, PV.ownsOf_dic, PV.pDNew, PV.pDPut, PV.pDGet2, PV.pDGet, PV.pDIn, PV.pLenD, PV.keyD, PV.pSlScr, PV.pZipT, PV.pRngC, PV.pRngV, PV.pSt1, PV.pM0, PV.pZipS, PV.pM1, PV.pJoin, PV.pFmt, PV.pJoined, PV.pJs, PV.pBMV, PV.pCount, PV.pIndex, PV.pSetIx2, PV.pRetT, PV.pLcF, PV.mapL_inj, PV.pVar, PV.pC, PV.pOp, PV.pUn, PV.pII, PV.pII0, PV.pNeg, PV.pSS, PV.pSS0, PV.eqF_int, PV.eqF_str, PV.eqF_bool, PV.eqF_ni, PV.eqF_in, PV.eqF_nn, PV.eqF_si, PV.eqF_is, PV.eqF_sn, PV.eqF_ns, PV.pEq, PV.pEqD, PV.isN, PV.pIsN, PV.Tg.d, PV.Tg.it, PV.Tg.itD, PV.Tg.ok, PV.pCat, PV.pRep, PV.pCatT, PV.pIn, PV.pNil, PV.pCons, PV.Tg.items, PV.pStar, PV.allD, PV.allS, PV.pTup, PV.pLst, PV.pNoPart, PV.pPart, PV.pSlL, PV.pSlT, PV.pCB, PV.pLen, PV.pLenS, PV.pI1, PV.pI10, PV.pI2, PV.pInt1, PV.pBool1, PV.pS1, PV.pListOf, PV.pTupOf, PV.tyD, PV.pIsi, PV.bD, PV.pAndV, PV.pOrV, PV.pNotV, PV.pIfE, PV.pT, PV.pAnd, PV.pOr, PV.pNot, PV.truD, PV.pTru, PV.pNotT, PV.pChain, PV.pThree, PV.Rs.arg, PV.lend, PV.pCall, PV.pCall0, PV.pIt, PV.pItT, PV.pRg1, PV.pRg2, PV.pRg3, PV.pEnum, PV.pZip, PV.pRev, PV.pStr, PV.setR, PV.pName, PV.pTgt, PV.pTgts, PV.pTg, PV.pNext, PV.pBreak, PV.pCont, PV.pSeq, PV.pShr, PV.pShrI, PV.shI, PV.pFgt, PV.fgt, PV.pAsg, PV.pExpr, PV.Rs.ret, PV.pRet, PV.pRetN, PV.pIf, PV.pFld, PV.pAug, PV.pPar, PV.pBM, PV.pBM0, PV.pAppend, PV.pExtend, PV.pExtT, PV.pClear, PV.pReverse, PV.pSetIx, PV.pFor, PV.wipeG, PV.pLc, PV.gG, PV.pGen, PV.pYes, PV.pSum, PV.pRaise, PV.pRaise1, PV.slA, PV.startG, PV.ends, PV.pRevL, PV.pSlS, PV.pSign, PV.pProp, PV.pMake, PV.pMake0, PV.pTry, PV.pRetD, PV.Rs.asD, PV.sg, PV.Sl.r, PV.dV, PV.flatD, PV.owns, PV.ownsOf_no, PV.ownsOf_dat, PV.ownsOf_obj, PV.ownsOf_own, PV.ownsOf_tab, PV.shr, PV.Sl.sh, PV.intsOf_map, PV.intsOf_app, PV.intsOf_nil, PV.intsOf_int, PV.isInts_map, PV.isInts_nil, PV.isInts_int, PV.isInts_mapL, PV.scr_key, PV.isiQ_s, PV.kit_int_int, PV.kit_int_bool, PV.kit_int_str, PV.kit_int_list, PV.kit_int_tuple, PV.kit_bool_int, PV.kit_bool_bool, PV.kit_bool_str, PV.kit_bool_list, PV.kit_bool_tuple, PV.kit_str_int, PV.kit_str_bool, PV.kit_str_str, PV.kit_str_list, PV.kit_str_tuple, PV.kit_list_int, PV.kit_list_bool, PV.kit_list_str, PV.kit_list_list, PV.kit_list_tuple, PV.kit_tuple_int, PV.kit_tuple_bool, PV.kit_tuple_str, PV.kit_tuple_list, PV.kit_tuple_tuple, PV.kit_NoneType_int, PV.kit_NoneType_bool, PV.kit_NoneType_str, PV.kit_NoneType_list, PV.kit_NoneType_tuple, PV.cutD_map, PV.allD_map, PV.allD_mapA, PV.allS_map, PV.allS_mapA, List.getElem?_cons_zero, List.getElem?_cons_succ, List.getElem?_nil, List.set_cons_zero, List.set_cons_succ, List.map_cons, List.map_nil, List.cons_append, List.nil_append, List.append_nil, List.length_cons, List.length_nil, List.length_map, List.length_append, List.length_replicate, PV.flat_rep, Nat.mul_one, Nat.one_mul, PV.rep_none, List.replicate_zero, List.all_cons, List.all_nil, cond_true, cond_false, Bool.and_true, Bool.true_and, Bool.and_false, Bool.false_and, Bool.not_true, Bool.not_false, Bool.not_not, if_true, if_false, ite_true, ite_false, true_and, and_true, true_implies, false_implies, reduceCtorEq, Nat.reduceAdd, Nat.reduceSub, Nat.reduceLT, Nat.reduceLeDiff, Bool.false_eq_true, decide_eq_true_eq, decide_eq_false_iff_not, Bool.not_eq_true, Bool.not_eq_false, Bool.not_eq_true', Bool.not_eq_false', Bool.true_eq_false, Option.map_some, Option.map_none, decide_true, decide_false, not_true_eq_false, not_false_eq_true, implies_true, forall_const, eq_self, Nat.reduceEqDiff, beq_self_eq_true, ne_eq, Int.reduceEq, Int.reduceNe, Int.reduceLT, Int.reduceLE, Int.reduceGT, Int.reduceGE, Int.reduceToNat, Int.reduceAdd, Int.reduceNeg, Nat.reduceLT, Nat.reduceLeDiff, Nat.reduceAdd, Nat.reduceMul, false_and, and_false, and_self, true_and, and_true, false_implies, PV.at0, PV.at1, PV.at2, PV.at3, PV.at4, PV.at5, Option.some.injEq, exists_eq_left', exists_eq_left, h1, ho3, ho4, ho5]
      exact kQ
  · exact h.elim

-- @@CUT
/-- what a script drops and adds -/
def cst : List Step → Nat
  | [] => 0
  | .keep _ :: r => cst r
  | .drop n :: r => n + cst r
  | .add xs :: r => xs.length + cst r
theorem cst_eq : ∀ (ss : List Step) (o : List Int), taken ss ≤ o.length → cst ss + 2 * kept ss = taken ss + (run o ss).length
  | [], o, _ => rfl
  | .keep n :: r, o, h => by
    have h : n + taken r ≤ o.length := h
    have ih := cst_eq r (o.drop n) (by rw [List.length_drop]; omega)
    show cst r + 2 * (n + kept r) = n + taken r + (o.take n ++ run (o.drop n) r).length
    rw [List.length_append, List.length_take]
    omega
  | .drop n :: r, o, h => by
    have h : n + taken r ≤ o.length := h
    have ih := cst_eq r (o.drop n) (by rw [List.length_drop]; omega)
    show n + cst r + 2 * kept r = n + taken r + (run (o.drop n) r).length
    omega
  | .add xs :: r, o, h => by
    have h : 0 + taken r ≤ o.length := h
    have ih := cst_eq r (o.drop 0) (by rw [List.drop_zero]; omega)
    show xs.length + cst r + 2 * kept r = 0 + taken r + (xs ++ run (o.drop 0) r).length
    rw [List.length_append]
    omega
theorem cst_app : ∀ x y : List Step, cst (x ++ y) = cst x + cst y
  | [], y => by simp [cst]
  | .keep n :: x, y => cst_app x y
  | .drop n :: x, y => by
    show n + cst (x ++ y) = n + cst x + cst y
    rw [cst_app x y]
    omega
  | .add n :: x, y => by
    show n.length + cst (x ++ y) = n.length + cst x + cst y
    rw [cst_app x y]
    omega
theorem cellI_mod {z b : Int} (hb : 0 < b) : 0 ≤ z % b ∧ z % b < b := ⟨Int.emod_nonneg _ (by omega), Int.emod_lt_of_pos _ hb⟩
theorem shp_two (a b : List Int) : SeqAt.shaped (.tuple [.list (a.map PyData.int), .list (b.map PyData.int)]) = true := PV.lay_shp (n := 2) (PV.lay_tup fun d hd => by
  simp only [List.mem_cons, List.not_mem_nil, or_false] at hd
  rcases hd with rfl | rfl <;> exact PV.lay_ints)
-- @@LAW
theorem ok_law0 (T : Txt K mg) (f : Addr) (fd : FuncData) (F : Fun K "law" "law" s_law f fd) : FnOk P w K mg base CX0 5 f fd ["script"] (PV.spLaw K) := by
  have G__law_items := ok__law_items (P := P) (w := w) (base := base) T
  have G_diff := ok_diff (P := P) (w := w) (base := base) T
  have G__law_cell := ok__law_cell (P := P) (w := w) (base := base) T
  have G__law_patch := ok__law_patch (P := P) (w := w) (base := base) T
  have G__law_script := ok__law_script (P := P) (w := w) (base := base) T
  have G__law_is_normal := ok__law_is_normal (P := P) (w := w) (base := base) T
  have G__law_common := ok__law_common (P := P) (w := w) (base := base) T
  refine PV.pv_law0 F sc_law fun cdv A outer s H E hr => ?_
  have nd := sc_law.nd
  have hu64 : (A.deeper (envOfC "law" (defScope s_law) s.heap.objs.size f cdv)).units + 64 < cLine := by
    have := hr.un
    omega
  refine ⟨_, _, (pss_cons (ps_set (i := 1) nd rfl (Or.inl rfl) (pe_callO G__law_items (hr.mono (by decide)) pass0 (pa_cons (pe_callO G__law_cell (hr.mono (by decide)) pass0 (pa_cons (pv 0) (pa_cons pe_int pa_nil))) (pa_cons (pe_op op_mod (pe_callO G__law_cell (hr.mono (by decide)) pass0 (pa_cons (pv 0) (pa_cons pe_int pa_nil))) pe_int) pa_nil))))
      (pss_cons (ps_set (i := 2) nd rfl (Or.inl rfl) (pe_callO G__law_items (hr.mono (by decide)) pass0 (pa_cons (pe_callO G__law_cell (hr.mono (by decide)) pass0 (pa_cons (pv 0) (pa_cons pe_int pa_nil))) (pa_cons (pe_op op_mod (pe_op op_fdiv (pe_callO G__law_cell (hr.mono (by decide)) pass0 (pa_cons (pv 0) (pa_cons pe_int pa_nil))) pe_int) pe_int) pa_nil))))
      (Evl.pss_cut (ps_if (pt_cmpR op_eq (pe_op op_mod (pe_op op_fdiv (pe_callO G__law_cell (hr.mono (by decide)) pass0 (pa_cons (pv 0) (pa_cons pe_int pa_nil))) pe_int) pe_int) pe_int (nomark _))
        (pss_one (ps_set (i := 2) nd rfl (Or.inl rfl) (pe_callO G__law_patch (hr.mono (by decide)) pass0 (pa_cons (pv 1) (pa_cons (pe_callO G__law_script (hr.mono (by decide)) pass0 (pa_cons (pe_slice sl_list (pv 0) (po_some pe_int) (po_some pe_int)) (pa_cons (pv 1) pa_nil))) pa_nil))))) pss_nil)
      (Evl.pss_cut (ps_if (pt_cmpR op_eq (pe_op op_mod (pe_op op_fdiv (pe_callO G__law_cell (hr.mono (by decide)) pass0 (pa_cons (pv 0) (pa_cons pe_int pa_nil))) pe_int) pe_int) pe_int (nomark _))
        (pss_one (ps_set (i := 2) nd rfl (Or.inl rfl) (pe_callTy call_list_of (by rfl) T.n_list (by decide +kernel) (pa_cons (pv 1) pa_nil)))) pss_nil)
      (pss_cons (ps_set (i := 3) nd rfl (Or.inl rfl) (pe_tup (pa_cons (pe_callTy call_list_of (by rfl) T.n_list (by decide +kernel) (pa_cons (pv 1) pa_nil)) (pa_cons (pe_callTy call_list_of (by rfl) T.n_list (by decide +kernel) (pa_cons (pv 2) pa_nil)) pa_nil))))
      (pss_cons (ps_set (i := 4) nd rfl (Or.inl rfl) (pe_callO G_diff (hr.mono (by decide)) pass0 (pa_cons (pe_ix ix_tup (pv 3) pe_int (fun _ _ => rfl)) (pa_cons (pe_ix ix_tup (pv 3) pe_int (fun _ _ => rfl)) pa_nil))))
      (pss_cons (ps_if (PW.pt (pw_or (pt_not (pt_val (pe_callO G__law_is_normal (hr.mono (by decide)) pass0 (pa_cons (pv 4) pa_nil)))) (pw_or (pt_cmpR (op_neD hu64) (pv 3) (pe_tup (pa_cons (pv 1) (pa_cons (pv 2) pa_nil))) (nomark _)) (pw_or1 (pt_cmpR (op_neD hu64) (pe_callO G__law_patch (hr.mono (by decide)) pass0 (pa_cons (pv 1) (pa_cons (pv 4) pa_nil))) (pv 2) (nomark _))))))
        (pss_one (ps_ret pe_bl)) pss_nil)
      (pss_cons (ps_set (i := 5) nd rfl (Or.inl rfl) pe_int)
      (pss_cons (ps_for PassesOwn.never rfl (pi_list (pv 4)) (pg_tup rfl (pgs_cons (pg_name (i := 6) nd rfl (Or.inl rfl)) (pgs_cons (pg_name (i := 7) nd rfl (Or.inl rfl)) pgs_nil)))
        (Evl.pss_cut (ps_if (pt_cmpR op_eq (pv 6) pe_str (nomark _))
          (pss_one (ps_set (i := 5) nd rfl (Or.inl rfl) (pe_op op_add (pv 5) (pv 7)))) pss_nil)
        (pss_one (ps_if (pt_cmpR op_eq (pv 6) pe_str (nomark _))
          (pss_one (ps_set (i := 5) nd rfl (Or.inl rfl) (pe_op op_add (pv 5) (pe_callB call_len_seq (by rfl) T.n_len PySem.boot_len (pa_cons (pv 7) pa_nil))))) pss_nil))))
      (pss_one (ps_ret (pe_and (pe_cmpR op_eq (pv 5) (pe_op op_sub (pe_op op_add (pe_callB call_len_seq (by rfl) T.n_len PySem.boot_len (pa_cons (pv 1) pa_nil)) (pe_callB call_len_seq (by rfl) T.n_len PySem.boot_len (pa_cons (pv 2) pa_nil))) (pe_op op_mul pe_int (pe_callO G__law_common (hr.mono (by decide)) pass0 (pa_cons (pv 1) (pa_cons (pv 2) pa_nil))))) (nomark _)) (pe_one (pe_cmpR (op_eqD hu64) (pe_callO G_diff (hr.mono (by decide)) pass0 (pa_cons (pv 1) (pa_cons (pv 2) pa_nil))) (pv 4) (nomark _))))))))))))))),
    open PV in (ls_seq (ls_asg (le_call0 spok (la_cons (le_call0 S__law_cell (la_cons le_var (la_cons le_c la_nil))) (la_cons (le_op lr_I (le_call0 S__law_cell (la_cons le_var (la_cons le_c la_nil))) le_c) la_nil))) (lg_name (b := false)))
      (ls_seq (ls_asg (le_call0 spok (la_cons (le_call0 S__law_cell (la_cons le_var (la_cons le_c la_nil))) (la_cons (le_op lr_I (le_op lr_I (le_call0 S__law_cell (la_cons le_var (la_cons le_c la_nil))) le_c) le_c) la_nil))) (lg_name (b := false)))
      (ls_cutF [3, 4, 5] (ls_if (lt_test (le_op lr_eq (le_op lr_I (le_op lr_I (le_call0 S__law_cell (la_cons le_var (la_cons le_c la_nil))) le_c) le_c) le_c))
      (ls_asg (le_call0 spok (la_cons le_var (la_cons (le_call0 spok (la_cons (le_slScr le_var (lo_some le_c) (lo_some le_c)) (la_cons le_var la_nil))) la_nil))) (lg_name (b := false)))
      ls_next)
      (ls_cutF [0, 3, 4, 5] (ls_if (lt_test (le_op lr_eq (le_op lr_I (le_op lr_I (le_call0 S__law_cell (la_cons le_var (la_cons le_c la_nil))) le_c) le_c) le_c))
      (ls_asg (le_cb lc_list (la_cons le_var la_nil)) (lg_name (b := false)))
      ls_next)
      (ls_seq (ls_asg (le_tup (la_cons (le_cb lc_list (la_cons le_var la_nil)) (la_cons (le_cb lc_list (la_cons le_var la_nil)) la_nil))) (lg_name (b := false)))
      (ls_seq (ls_asg (le_call0 spok (la_cons (le_op lr_ixT le_var le_c) (la_cons (le_op lr_ixT le_var le_c) la_nil))) (lg_name (b := false)))
      (ls_seq (ls_if (lt_or (lt_not (lt_B (le_call0 spok (la_cons le_var la_nil)))) (lt_or (lt_test (le_op lr_neD le_var (le_tup (la_cons le_var (la_cons le_var la_nil))))) (lt_test (le_op lr_neD (le_call0 spok (la_cons le_var (la_cons le_var la_nil))) le_var))))
      (ls_retD le_c)
      ls_next)
      (ls_seq (ls_asg le_c (lg_name (b := false)))
      (ls_seq (ls_for (li_list le_var) (lg_tgt (.tup (.cons (.name 6) (.cons (.name 7) .nil))))
      (ls_cutF [0, 3] (ls_if (lt_test (le_op lr_eq le_var le_c))
      (ls_asg (le_op lr_I0 le_var le_var) (lg_name (b := false)))
      ls_next)
      (ls_if (lt_test (le_op lr_eq le_var le_c))
      (ls_asg (le_op lr_I0 le_var (le_cb lc_len (la_cons le_var la_nil))) (lg_name (b := false)))
      ls_next)))
      (ls_retD (le_and (le_op lr_eq le_var (le_op lr_I0 (le_op lr_I0 (le_cb lc_len (la_cons le_var la_nil)) (le_cb lc_len (la_cons le_var la_nil))) (le_op lr_I le_c (le_call0 spok (la_cons le_var (la_cons le_var la_nil)))))) (le_op lr_eqD (le_call0 spok (la_cons le_var (la_cons le_var la_nil))) le_var)))))))))))), fun ns PQ hlen kQ => ?_⟩
  have m1 := cellI_mod (z := cellI ns 1) (show (0 : Int) < 12 by decide)
  have m2 := cellI_mod (z := cellI ns 1 / 12) (show (0 : Int) < 12 by decide)
  simp only [PV.pDivMod, PV.ownsOf_dic, PV.pDNew, PV.pDPut, PV.pDGet2, PV.pDGet, PV.pDIn, PV.pLenD, PV.keyD, PV.pSlScr, PV.pZipT, PV.pRngC, PV.pRngV, PV.pSt1, PV.pM0, PV.pZipS, PV.pM1, PV.pJoin, PV.pFmt, PV.pJoined, PV.pJs, PV.pBMV, PV.pCount, PV.pIndex, PV.pSetIx2, PV.pRetT, PV.pLcF, PV.mapL_inj, PV.pVar, PV.pC, PV.pOp, PV.pUn, PV.pII, PV.pII0, PV.pNeg, PV.pSS, PV.pSS0, PV.eqF_int, PV.eqF_str, PV.eqF_bool, PV.eqF_ni, PV.eqF_in, PV.eqF_nn, PV.eqF_si, PV.eqF_is, PV.eqF_sn, PV.eqF_ns, PV.pEq, PV.pEqD, PV.isN, PV.pIsN, PV.Tg.d, PV.Tg.it, PV.Tg.itD, PV.Tg.ok, PV.pCat, PV.pRep, PV.pCatT, PV.pIn, PV.pNil, PV.pCons, PV.Tg.items, PV.pStar, PV.allD, PV.allS, PV.pTup, PV.pLst, PV.pNoPart, PV.pPart, PV.pSlL, PV.pSlT, PV.pCB, PV.pLen, PV.pLenS, PV.pI1, PV.pI10, PV.pI2, PV.pInt1, PV.pBool1, PV.pS1, PV.pListOf, PV.pTupOf, PV.tyD, PV.pIsi, PV.bD, PV.pAndV, PV.pOrV, PV.pNotV, PV.pIfE, PV.pT, PV.pAnd, PV.pOr, PV.pNot, PV.truD, PV.pTru, PV.pNotT, PV.pChain, PV.pThree, PV.Rs.arg, PV.lend, PV.pCall, PV.pCall0, PV.pIt, PV.pItT, PV.pRg1, PV.pRg2, PV.pRg3, PV.pEnum, PV.pZip, PV.pRev, PV.pStr, PV.setR, PV.pName, PV.pTgt, PV.pTgts, PV.pTg, PV.pNext, PV.pBreak, PV.pCont, PV.pSeq, PV.pShr, PV.pShrI, PV.shI, PV.pFgt, PV.fgt, PV.pAsg, PV.pExpr, PV.Rs.ret, PV.pRet, PV.pRetN, PV.pIf, PV.pFld, PV.pAug, PV.pPar, PV.pBM, PV.pBM0, PV.pAppend, PV.pExtend, PV.pExtT, PV.pClear, PV.pReverse, PV.pSetIx, PV.pFor, PV.wipeG, PV.pLc, PV.gG, PV.pGen, PV.pYes, PV.pSum, PV.pRaise, PV.pRaise1, PV.slA, PV.startG, PV.ends, PV.pRevL, PV.pSlS, PV.pSign, PV.pProp, PV.pMake, PV.pMake0, PV.pTry, PV.pRetD, PV.Rs.asD, PV.sg, PV.Sl.r, PV.dV, PV.flatD, PV.owns, PV.ownsOf_no, PV.ownsOf_dat, PV.ownsOf_obj, PV.ownsOf_own, PV.ownsOf_tab, PV.shr, PV.Sl.sh, PV.intsOf_map, PV.intsOf_app, PV.intsOf_nil, PV.intsOf_int, PV.isInts_map, PV.isInts_nil, PV.isInts_int, PV.isInts_mapL, PV.scr_key, PV.isiQ_s, PV.kit_int_int, PV.kit_int_bool, PV.kit_int_str, PV.kit_int_list, PV.kit_int_tuple, PV.kit_bool_int, PV.kit_bool_bool, PV.kit_bool_str, PV.kit_bool_list, PV.kit_bool_tuple, PV.kit_str_int, PV.kit_str_bool, PV.kit_str_str, PV.kit_str_list, PV.kit_str_tuple, PV.kit_list_int, PV.kit_list_bool, PV.kit_list_str, PV.kit_list_list, PV.kit_list_tuple, PV.kit_tuple_int, PV.kit_tuple_bool, PV.kit_tuple_str, PV.kit_tuple_list, PV.kit_tuple_tuple, PV.kit_NoneType_int, PV.kit_NoneType_bool, PV.kit_NoneType_str, PV.kit_NoneType_list, PV.kit_NoneType_tuple, PV.cutD_map, PV.allD_map, PV.allD_mapA, PV.allS_map, PV.allS_mapA, List.getElem?_cons_zero, List.getElem?_cons_succ, List.getElem?_nil, List.set_cons_zero, List.set_cons_succ, List.map_cons, List.map_nil, List.cons_append, List.nil_append, List.append_nil, List.length_cons, List.length_nil, List.length_map, List.length_append, List.length_replicate, PV.flat_rep, Nat.mul_one, Nat.one_mul, PV.rep_none, List.replicate_zero, List.all_cons, List.all_nil, cond_true, cond_false, Bool.and_true, Bool.true_and, Bool.and_false, Bool.false_and, Bool.not_true, Bool.not_false, Bool.not_not, if_true, if_false, ite_true, ite_false, true_and, and_true, true_implies, false_implies, reduceCtorEq, Nat.reduceAdd, Nat.reduceSub, Nat.reduceLT, Nat.reduceLeDiff, Bool.false_eq_true, decide_eq_true_eq, decide_eq_false_iff_not, Bool.not_eq_true, Bool.not_eq_false, Bool.not_eq_true', Bool.not_eq_false', Bool.true_eq_false, Option.map_some, Option.map_none, decide_true, decide_false, not_true_eq_false, not_false_eq_true, implies_true, forall_const, eq_self, Nat.reduceEqDiff, beq_self_eq_true, ne_eq, Int.reduceEq, Int.reduceNe, Int.reduceLT, Int.reduceLE, Int.reduceGT, Int.reduceGE, Int.reduceToNat, Int.reduceAdd, Int.reduceNeg, Nat.reduceLT, Nat.reduceLeDiff, Nat.reduceAdd, Nat.reduceMul, false_and, and_false, and_self, true_and, and_true, false_implies, PV.at0, PV.at1, PV.at2, PV.at3, PV.at4, PV.at5, Option.some.injEq, exists_eq_left', exists_eq_left, pCell, pLItems]
  refine ⟨by omega, by omega, fun old hold _ => ⟨⟨by decide, by decide⟩, by omega, by omega, fun new0 hnew0 _ => ?_⟩⟩
  have hol : old.length ≤ 11 := by omega
  refine ⟨fun g => ∃ new : List Int, new.length ≤ 100 ∧ g = [some (.obj (PV.scr K ns)), some (.dat (.list (old.map .int))), some (.dat (.list (new.map .int))), none, none, none, none, none], ?_, ?_⟩
  · simp only [PV.pDivMod, PV.ownsOf_dic, PV.pDNew, PV.pDPut, PV.pDGet2, PV.pDGet, PV.pDIn, PV.pLenD, PV.keyD, PV.pSlScr, PV.pZipT, PV.pRngC, PV.pRngV, PV.pSt1, PV.pM0, PV.pZipS, PV.pM1, PV.pJoin, PV.pFmt, PV.pJoined, PV.pJs, PV.pBMV, PV.pCount, PV.pIndex, PV.pSetIx2, PV.pRetT, PV.pLcF, PV.mapL_inj, PV.pVar, PV.pC, PV.pOp, PV.pUn, PV.pII, PV.pII0, PV.pNeg, PV.pSS, PV.pSS0, PV.eqF_int, PV.eqF_str, PV.eqF_bool, PV.eqF_ni, PV.eqF_in, PV.eqF_nn, PV.eqF_si, PV.eqF_is, PV.eqF_sn, PV.eqF_ns, PV.pEq, PV.pEqD, PV.isN, PV.pIsN, PV.Tg.d, PV.Tg.it, PV.Tg.itD, PV.Tg.ok, PV.pCat, PV.pRep, PV.pCatT, PV.pIn, PV.pNil, PV.pCons, PV.Tg.items, PV.pStar, PV.allD, PV.allS, PV.pTup, PV.pLst, PV.pNoPart, PV.pPart, PV.pSlL, PV.pSlT, PV.pCB, PV.pLen, PV.pLenS, PV.pI1, PV.pI10, PV.pI2, PV.pInt1, PV.pBool1, PV.pS1, PV.pListOf, PV.pTupOf, PV.tyD, PV.pIsi, PV.bD, PV.pAndV, PV.pOrV, PV.pNotV, PV.pIfE, PV.pT, PV.pAnd, PV.pOr, PV.pNot, PV.truD, PV.pTru, PV.pNotT, PV.pChain, PV.pThree, PV.Rs.arg, PV.lend, PV.pCall, PV.pCall0, PV.pIt, PV.pItT, PV.pRg1, PV.pRg2, PV.pRg3, PV.pEnum, PV.pZip, PV.pRev, PV.pStr, PV.setR, PV.pName, PV.pTgt, PV.pTgts, PV.pTg, PV.pNext, PV.pBreak, PV.pCont, PV.pSeq, PV.pShr, PV.pShrI, PV.shI, PV.pFgt, PV.fgt, PV.pAsg, PV.pExpr, PV.Rs.ret, PV.pRet, PV.pRetN, PV.pIf, PV.pFld, PV.pAug, PV.pPar, PV.pBM, PV.pBM0, PV.pAppend, PV.pExtend, PV.pExtT, PV.pClear, PV.pReverse, PV.pSetIx, PV.pFor, PV.wipeG, PV.pLc, PV.gG, PV.pGen, PV.pYes, PV.pSum, PV.pRaise, PV.pRaise1, PV.slA, PV.startG, PV.ends, PV.pRevL, PV.pSlS, PV.pSign, PV.pProp, PV.pMake, PV.pMake0, PV.pTry, PV.pRetD, PV.Rs.asD, PV.sg, PV.Sl.r, PV.dV, PV.flatD, PV.owns, PV.ownsOf_no, PV.ownsOf_dat, PV.ownsOf_obj, PV.ownsOf_own, PV.ownsOf_tab, PV.shr, PV.Sl.sh, PV.intsOf_map, PV.intsOf_app, PV.intsOf_nil, PV.intsOf_int, PV.isInts_map, PV.isInts_nil, PV.isInts_int, PV.isInts_mapL, PV.scr_key, PV.isiQ_s, PV.kit_int_int, PV.kit_int_bool, PV.kit_int_str, PV.kit_int_list, PV.kit_int_tuple, PV.kit_bool_int, PV.kit_bool_bool, PV.kit_bool_str, PV.kit_bool_list, PV.kit_bool_tuple, PV.kit_str_int, PV.kit_str_bool, PV.kit_str_str, PV.kit_str_list, PV.kit_str_tuple, PV.kit_list_int, PV.kit_list_bool, PV.kit_list_str, PV.kit_list_list, PV.kit_list_tuple, PV.kit_tuple_int, PV.kit_tuple_bool, PV.kit_tuple_str, PV.kit_tuple_list, PV.kit_tuple_tuple, PV.kit_NoneType_int, PV.kit_NoneType_bool, PV.kit_NoneType_str, PV.kit_NoneType_list, PV.kit_NoneType_tuple, PV.cutD_map, PV.allD_map, PV.allD_mapA, PV.allS_map, PV.allS_mapA, List.getElem?_cons_zero, List.getElem?_cons_succ, List.getElem?_nil, List.set_cons_zero, List.set_cons_succ, List.map_cons, List.map_nil, List.cons_append, List.nil_append, List.append_nil, List.length_cons, List.length_nil, List.length_map, List.length_append, List.length_replicate, PV.flat_rep, Nat.mul_one, Nat.one_mul, PV.rep_none, List.replicate_zero, List.all_cons, List.all_nil, cond_true, cond_false, Bool.and_true, Bool.true_and, Bool.and_false, Bool.false_and, Bool.not_true, Bool.not_false, Bool.not_not, if_true, if_false, ite_true, ite_false, true_and, and_true, true_implies, false_implies, reduceCtorEq, Nat.reduceAdd, Nat.reduceSub, Nat.reduceLT, Nat.reduceLeDiff, Bool.false_eq_true, decide_eq_true_eq, decide_eq_false_iff_not, Bool.not_eq_true, Bool.not_eq_false, Bool.not_eq_true', Bool.not_eq_false', Bool.true_eq_false, Option.map_some, Option.map_none, decide_true, decide_false, not_true_eq_false, not_false_eq_true, implies_true, forall_const, eq_self, Nat.reduceEqDiff, beq_self_eq_true, ne_eq, Int.reduceEq, Int.reduceNe, Int.reduceLT, Int.reduceLE, Int.reduceGT, Int.reduceGE, Int.reduceToNat, Int.reduceAdd, Int.reduceNeg, Nat.reduceLT, Nat.reduceLeDiff, Nat.reduceAdd, Nat.reduceMul, false_and, and_false, and_self, true_and, and_true, false_implies, PV.at0, PV.at1, PV.at2, PV.at3, PV.at4, PV.at5, Option.some.injEq, exists_eq_left', exists_eq_left, pCell, pLScript, pLPatch]
    have hcl := PV.cutL_len (xs := ns) (lo := some 3) (hi := some 12)
    have hcl2 : (PV.cutL ns (some 3) (some 12)).length ≤ 9 := by
      rw [PV.cutL_mid (by decide) (by decide), List.length_take]
      exact Nat.min_le_left _ _
    refine ⟨⟨by decide, by decide⟩, fun _ => ⟨by omega, by omega, fun ss ht h1 h2 h3 h4 => ⟨by omega, ss, rfl, ht, by omega, run old ss, by omega, rfl⟩⟩, fun _ => ⟨new0, by omega, rfl⟩⟩
  rintro _ ⟨new1, hn1, rfl⟩
  refine ⟨fun g => ∃ new : List Int, new.length ≤ 100 ∧ g = [none, some (.dat (.list (old.map .int))), some (.dat (.list (new.map .int))), none, none, none, none, none], ?_, ?_⟩
  · simp only [PV.pDivMod, PV.ownsOf_dic, PV.pDNew, PV.pDPut, PV.pDGet2, PV.pDGet, PV.pDIn, PV.pLenD, PV.keyD, PV.pSlScr, PV.pZipT, PV.pRngC, PV.pRngV, PV.pSt1, PV.pM0, PV.pZipS, PV.pM1, PV.pJoin, PV.pFmt, PV.pJoined, PV.pJs, PV.pBMV, PV.pCount, PV.pIndex, PV.pSetIx2, PV.pRetT, PV.pLcF, PV.mapL_inj, PV.pVar, PV.pC, PV.pOp, PV.pUn, PV.pII, PV.pII0, PV.pNeg, PV.pSS, PV.pSS0, PV.eqF_int, PV.eqF_str, PV.eqF_bool, PV.eqF_ni, PV.eqF_in, PV.eqF_nn, PV.eqF_si, PV.eqF_is, PV.eqF_sn, PV.eqF_ns, PV.pEq, PV.pEqD, PV.isN, PV.pIsN, PV.Tg.d, PV.Tg.it, PV.Tg.itD, PV.Tg.ok, PV.pCat, PV.pRep, PV.pCatT, PV.pIn, PV.pNil, PV.pCons, PV.Tg.items, PV.pStar, PV.allD, PV.allS, PV.pTup, PV.pLst, PV.pNoPart, PV.pPart, PV.pSlL, PV.pSlT, PV.pCB, PV.pLen, PV.pLenS, PV.pI1, PV.pI10, PV.pI2, PV.pInt1, PV.pBool1, PV.pS1, PV.pListOf, PV.pTupOf, PV.tyD, PV.pIsi, PV.bD, PV.pAndV, PV.pOrV, PV.pNotV, PV.pIfE, PV.pT, PV.pAnd, PV.pOr, PV.pNot, PV.truD, PV.pTru, PV.pNotT, PV.pChain, PV.pThree, PV.Rs.arg, PV.lend, PV.pCall, PV.pCall0, PV.pIt, PV.pItT, PV.pRg1, PV.pRg2, PV.pRg3, PV.pEnum, PV.pZip, PV.pRev, PV.pStr, PV.setR, PV.pName, PV.pTgt, PV.pTgts, PV.pTg, PV.pNext, PV.pBreak, PV.pCont, PV.pSeq, PV.pShr, PV.pShrI, PV.shI, PV.pFgt, PV.fgt, PV.pAsg, PV.pExpr, PV.Rs.ret, PV.pRet, PV.pRetN, PV.pIf, PV.pFld, PV.pAug, PV.pPar, PV.pBM, PV.pBM0, PV.pAppend, PV.pExtend, PV.pExtT, PV.pClear, PV.pReverse, PV.pSetIx, PV.pFor, PV.wipeG, PV.pLc, PV.gG, PV.pGen, PV.pYes, PV.pSum, PV.pRaise, PV.pRaise1, PV.slA, PV.startG, PV.ends, PV.pRevL, PV.pSlS, PV.pSign, PV.pProp, PV.pMake, PV.pMake0, PV.pTry, PV.pRetD, PV.Rs.asD, PV.sg, PV.Sl.r, PV.dV, PV.flatD, PV.owns, PV.ownsOf_no, PV.ownsOf_dat, PV.ownsOf_obj, PV.ownsOf_own, PV.ownsOf_tab, PV.shr, PV.Sl.sh, PV.intsOf_map, PV.intsOf_app, PV.intsOf_nil, PV.intsOf_int, PV.isInts_map, PV.isInts_nil, PV.isInts_int, PV.isInts_mapL, PV.scr_key, PV.isiQ_s, PV.kit_int_int, PV.kit_int_bool, PV.kit_int_str, PV.kit_int_list, PV.kit_int_tuple, PV.kit_bool_int, PV.kit_bool_bool, PV.kit_bool_str, PV.kit_bool_list, PV.kit_bool_tuple, PV.kit_str_int, PV.kit_str_bool, PV.kit_str_str, PV.kit_str_list, PV.kit_str_tuple, PV.kit_list_int, PV.kit_list_bool, PV.kit_list_str, PV.kit_list_list, PV.kit_list_tuple, PV.kit_tuple_int, PV.kit_tuple_bool, PV.kit_tuple_str, PV.kit_tuple_list, PV.kit_tuple_tuple, PV.kit_NoneType_int, PV.kit_NoneType_bool, PV.kit_NoneType_str, PV.kit_NoneType_list, PV.kit_NoneType_tuple, PV.cutD_map, PV.allD_map, PV.allD_mapA, PV.allS_map, PV.allS_mapA, List.getElem?_cons_zero, List.getElem?_cons_succ, List.getElem?_nil, List.set_cons_zero, List.set_cons_succ, List.map_cons, List.map_nil, List.cons_append, List.nil_append, List.append_nil, List.length_cons, List.length_nil, List.length_map, List.length_append, List.length_replicate, PV.flat_rep, Nat.mul_one, Nat.one_mul, PV.rep_none, List.replicate_zero, List.all_cons, List.all_nil, cond_true, cond_false, Bool.and_true, Bool.true_and, Bool.and_false, Bool.false_and, Bool.not_true, Bool.not_false, Bool.not_not, if_true, if_false, ite_true, ite_false, true_and, and_true, true_implies, false_implies, reduceCtorEq, Nat.reduceAdd, Nat.reduceSub, Nat.reduceLT, Nat.reduceLeDiff, Bool.false_eq_true, decide_eq_true_eq, decide_eq_false_iff_not, Bool.not_eq_true, Bool.not_eq_false, Bool.not_eq_true', Bool.not_eq_false', Bool.true_eq_false, Option.map_some, Option.map_none, decide_true, decide_false, not_true_eq_false, not_false_eq_true, implies_true, forall_const, eq_self, Nat.reduceEqDiff, beq_self_eq_true, ne_eq, Int.reduceEq, Int.reduceNe, Int.reduceLT, Int.reduceLE, Int.reduceGT, Int.reduceGE, Int.reduceToNat, Int.reduceAdd, Int.reduceNeg, Nat.reduceLT, Nat.reduceLeDiff, Nat.reduceAdd, Nat.reduceMul, false_and, and_false, and_self, true_and, and_true, false_implies, PV.at0, PV.at1, PV.at2, PV.at3, PV.at4, PV.at5, Option.some.injEq, exists_eq_left', exists_eq_left, pCell]
    exact ⟨⟨by decide, by decide⟩, fun _ => ⟨old, by omega, rfl⟩, fun _ => ⟨new1, by omega, rfl⟩⟩
  rintro _ ⟨new, hn, rfl⟩
  have sh2 := shp_two old new
  have se2 := PV.eqv_self sh2
  have shn := PV.shp_ints (ns := new)
  have sen := PV.eqv_self shn
  simp only [PV.pDivMod, PV.ownsOf_dic, PV.pDNew, PV.pDPut, PV.pDGet2, PV.pDGet, PV.pDIn, PV.pLenD, PV.keyD, PV.pSlScr, PV.pZipT, PV.pRngC, PV.pRngV, PV.pSt1, PV.pM0, PV.pZipS, PV.pM1, PV.pJoin, PV.pFmt, PV.pJoined, PV.pJs, PV.pBMV, PV.pCount, PV.pIndex, PV.pSetIx2, PV.pRetT, PV.pLcF, PV.mapL_inj, PV.pVar, PV.pC, PV.pOp, PV.pUn, PV.pII, PV.pII0, PV.pNeg, PV.pSS, PV.pSS0, PV.eqF_int, PV.eqF_str, PV.eqF_bool, PV.eqF_ni, PV.eqF_in, PV.eqF_nn, PV.eqF_si, PV.eqF_is, PV.eqF_sn, PV.eqF_ns, PV.pEq, PV.pEqD, PV.isN, PV.pIsN, PV.Tg.d, PV.Tg.it, PV.Tg.itD, PV.Tg.ok, PV.pCat, PV.pRep, PV.pCatT, PV.pIn, PV.pNil, PV.pCons, PV.Tg.items, PV.pStar, PV.allD, PV.allS, PV.pTup, PV.pLst, PV.pNoPart, PV.pPart, PV.pSlL, PV.pSlT, PV.pCB, PV.pLen, PV.pLenS, PV.pI1, PV.pI10, PV.pI2, PV.pInt1, PV.pBool1, PV.pS1, PV.pListOf, PV.pTupOf, PV.tyD, PV.pIsi, PV.bD, PV.pAndV, PV.pOrV, PV.pNotV, PV.pIfE, PV.pT, PV.pAnd, PV.pOr, PV.pNot, PV.truD, PV.pTru, PV.pNotT, PV.pChain, PV.pThree, PV.Rs.arg, PV.lend, PV.pCall, PV.pCall0, PV.pIt, PV.pItT, PV.pRg1, PV.pRg2, PV.pRg3, PV.pEnum, PV.pZip, PV.pRev, PV.pStr, PV.setR, PV.pName, PV.pTgt, PV.pTgts, PV.pTg, PV.pNext, PV.pBreak, PV.pCont, PV.pSeq, PV.pShr, PV.pShrI, PV.shI, PV.pFgt, PV.fgt, PV.pAsg, PV.pExpr, PV.Rs.ret, PV.pRet, PV.pRetN, PV.pIf, PV.pFld, PV.pAug, PV.pPar, PV.pBM, PV.pBM0, PV.pAppend, PV.pExtend, PV.pExtT, PV.pClear, PV.pReverse, PV.pSetIx, PV.pFor, PV.wipeG, PV.pLc, PV.gG, PV.pGen, PV.pYes, PV.pSum, PV.pRaise, PV.pRaise1, PV.slA, PV.startG, PV.ends, PV.pRevL, PV.pSlS, PV.pSign, PV.pProp, PV.pMake, PV.pMake0, PV.pTry, PV.pRetD, PV.Rs.asD, PV.sg, PV.Sl.r, PV.dV, PV.flatD, PV.owns, PV.ownsOf_no, PV.ownsOf_dat, PV.ownsOf_obj, PV.ownsOf_own, PV.ownsOf_tab, PV.shr, PV.Sl.sh, PV.intsOf_map, PV.intsOf_app, PV.intsOf_nil, PV.intsOf_int, PV.isInts_map, PV.isInts_nil, PV.isInts_int, PV.isInts_mapL, PV.scr_key, PV.isiQ_s, PV.kit_int_int, PV.kit_int_bool, PV.kit_int_str, PV.kit_int_list, PV.kit_int_tuple, PV.kit_bool_int, PV.kit_bool_bool, PV.kit_bool_str, PV.kit_bool_list, PV.kit_bool_tuple, PV.kit_str_int, PV.kit_str_bool, PV.kit_str_str, PV.kit_str_list, PV.kit_str_tuple, PV.kit_list_int, PV.kit_list_bool, PV.kit_list_str, PV.kit_list_list, PV.kit_list_tuple, PV.kit_tuple_int, PV.kit_tuple_bool, PV.kit_tuple_str, PV.kit_tuple_list, PV.kit_tuple_tuple, PV.kit_NoneType_int, PV.kit_NoneType_bool, PV.kit_NoneType_str, PV.kit_NoneType_list, PV.kit_NoneType_tuple, PV.cutD_map, PV.allD_map, PV.allD_mapA, PV.allS_map, PV.allS_mapA, List.getElem?_cons_zero, List.getElem?_cons_succ, List.getElem?_nil, List.set_cons_zero, List.set_cons_succ, List.map_cons, List.map_nil, List.cons_append, List.nil_append, List.append_nil, List.length_cons, List.length_nil, List.length_map, List.length_append, List.length_replicate, PV.flat_rep, Nat.mul_one, Nat.one_mul, PV.rep_none, List.replicate_zero, List.all_cons, List.all_nil, cond_true, cond_false, Bool.and_true, Bool.true_and, Bool.and_false, Bool.false_and, Bool.not_true, Bool.not_false, Bool.not_not, if_true, if_false, ite_true, ite_false, true_and, and_true, true_implies, false_implies, reduceCtorEq, Nat.reduceAdd, Nat.reduceSub, Nat.reduceLT, Nat.reduceLeDiff, Bool.false_eq_true, decide_eq_true_eq, decide_eq_false_iff_not, Bool.not_eq_true, Bool.not_eq_false, Bool.not_eq_true', Bool.not_eq_false', Bool.true_eq_false, Option.map_some, Option.map_none, decide_true, decide_false, not_true_eq_false, not_false_eq_true, implies_true, forall_const, eq_self, Nat.reduceEqDiff, beq_self_eq_true, ne_eq, Int.reduceEq, Int.reduceNe, Int.reduceLT, Int.reduceLE, Int.reduceGT, Int.reduceGE, Int.reduceToNat, Int.reduceAdd, Int.reduceNeg, Nat.reduceLT, Nat.reduceLeDiff, Nat.reduceAdd, Nat.reduceMul, false_and, and_false, and_self, true_and, and_true, false_implies, PV.at0, PV.at1, PV.at2, PV.at3, PV.at4, PV.at5, Option.some.injEq, exists_eq_left', exists_eq_left, pDiff, sh2, se2]
  refine ⟨by decide, by omega, by omega, fun ss hss ⟨hnf, hsl, hst⟩ hrun htk hkp => ?_⟩
  have hcst := cst_eq ss old (by omega)
  rw [hrun] at hcst
  have shs := shaped_steps ss
  have ses := PV.eqv_self shs
  simp only [PV.pDivMod, PV.ownsOf_dic, PV.pDNew, PV.pDPut, PV.pDGet2, PV.pDGet, PV.pDIn, PV.pLenD, PV.keyD, PV.pSlScr, PV.pZipT, PV.pRngC, PV.pRngV, PV.pSt1, PV.pM0, PV.pZipS, PV.pM1, PV.pJoin, PV.pFmt, PV.pJoined, PV.pJs, PV.pBMV, PV.pCount, PV.pIndex, PV.pSetIx2, PV.pRetT, PV.pLcF, PV.mapL_inj, PV.pVar, PV.pC, PV.pOp, PV.pUn, PV.pII, PV.pII0, PV.pNeg, PV.pSS, PV.pSS0, PV.eqF_int, PV.eqF_str, PV.eqF_bool, PV.eqF_ni, PV.eqF_in, PV.eqF_nn, PV.eqF_si, PV.eqF_is, PV.eqF_sn, PV.eqF_ns, PV.pEq, PV.pEqD, PV.isN, PV.pIsN, PV.Tg.d, PV.Tg.it, PV.Tg.itD, PV.Tg.ok, PV.pCat, PV.pRep, PV.pCatT, PV.pIn, PV.pNil, PV.pCons, PV.Tg.items, PV.pStar, PV.allD, PV.allS, PV.pTup, PV.pLst, PV.pNoPart, PV.pPart, PV.pSlL, PV.pSlT, PV.pCB, PV.pLen, PV.pLenS, PV.pI1, PV.pI10, PV.pI2, PV.pInt1, PV.pBool1, PV.pS1, PV.pListOf, PV.pTupOf, PV.tyD, PV.pIsi, PV.bD, PV.pAndV, PV.pOrV, PV.pNotV, PV.pIfE, PV.pT, PV.pAnd, PV.pOr, PV.pNot, PV.truD, PV.pTru, PV.pNotT, PV.pChain, PV.pThree, PV.Rs.arg, PV.lend, PV.pCall, PV.pCall0, PV.pIt, PV.pItT, PV.pRg1, PV.pRg2, PV.pRg3, PV.pEnum, PV.pZip, PV.pRev, PV.pStr, PV.setR, PV.pName, PV.pTgt, PV.pTgts, PV.pTg, PV.pNext, PV.pBreak, PV.pCont, PV.pSeq, PV.pShr, PV.pShrI, PV.shI, PV.pFgt, PV.fgt, PV.pAsg, PV.pExpr, PV.Rs.ret, PV.pRet, PV.pRetN, PV.pIf, PV.pFld, PV.pAug, PV.pPar, PV.pBM, PV.pBM0, PV.pAppend, PV.pExtend, PV.pExtT, PV.pClear, PV.pReverse, PV.pSetIx, PV.pFor, PV.wipeG, PV.pLc, PV.gG, PV.pGen, PV.pYes, PV.pSum, PV.pRaise, PV.pRaise1, PV.slA, PV.startG, PV.ends, PV.pRevL, PV.pSlS, PV.pSign, PV.pProp, PV.pMake, PV.pMake0, PV.pTry, PV.pRetD, PV.Rs.asD, PV.sg, PV.Sl.r, PV.dV, PV.flatD, PV.owns, PV.ownsOf_no, PV.ownsOf_dat, PV.ownsOf_obj, PV.ownsOf_own, PV.ownsOf_tab, PV.shr, PV.Sl.sh, PV.intsOf_map, PV.intsOf_app, PV.intsOf_nil, PV.intsOf_int, PV.isInts_map, PV.isInts_nil, PV.isInts_int, PV.isInts_mapL, PV.scr_key, PV.isiQ_s, PV.kit_int_int, PV.kit_int_bool, PV.kit_int_str, PV.kit_int_list, PV.kit_int_tuple, PV.kit_bool_int, PV.kit_bool_bool, PV.kit_bool_str, PV.kit_bool_list, PV.kit_bool_tuple, PV.kit_str_int, PV.kit_str_bool, PV.kit_str_str, PV.kit_str_list, PV.kit_str_tuple, PV.kit_list_int, PV.kit_list_bool, PV.kit_list_str, PV.kit_list_list, PV.kit_list_tuple, PV.kit_tuple_int, PV.kit_tuple_bool, PV.kit_tuple_str, PV.kit_tuple_list, PV.kit_tuple_tuple, PV.kit_NoneType_int, PV.kit_NoneType_bool, PV.kit_NoneType_str, PV.kit_NoneType_list, PV.kit_NoneType_tuple, PV.cutD_map, PV.allD_map, PV.allD_mapA, PV.allS_map, PV.allS_mapA, List.getElem?_cons_zero, List.getElem?_cons_succ, List.getElem?_nil, List.set_cons_zero, List.set_cons_succ, List.map_cons, List.map_nil, List.cons_append, List.nil_append, List.append_nil, List.length_cons, List.length_nil, List.length_map, List.length_append, List.length_replicate, PV.flat_rep, Nat.mul_one, Nat.one_mul, PV.rep_none, List.replicate_zero, List.all_cons, List.all_nil, cond_true, cond_false, Bool.and_true, Bool.true_and, Bool.and_false, Bool.false_and, Bool.not_true, Bool.not_false, Bool.not_not, if_true, if_false, ite_true, ite_false, true_and, and_true, true_implies, false_implies, reduceCtorEq, Nat.reduceAdd, Nat.reduceSub, Nat.reduceLT, Nat.reduceLeDiff, Bool.false_eq_true, decide_eq_true_eq, decide_eq_false_iff_not, Bool.not_eq_true, Bool.not_eq_false, Bool.not_eq_true', Bool.not_eq_false', Bool.true_eq_false, Option.map_some, Option.map_none, decide_true, decide_false, not_true_eq_false, not_false_eq_true, implies_true, forall_const, eq_self, Nat.reduceEqDiff, beq_self_eq_true, ne_eq, Int.reduceEq, Int.reduceNe, Int.reduceLT, Int.reduceLE, Int.reduceGT, Int.reduceGE, Int.reduceToNat, Int.reduceAdd, Int.reduceNeg, Nat.reduceLT, Nat.reduceLeDiff, Nat.reduceAdd, Nat.reduceMul, false_and, and_false, and_self, true_and, and_true, false_implies, PV.at0, PV.at1, PV.at2, PV.at3, PV.at4, PV.at5, Option.some.injEq, exists_eq_left', exists_eq_left, pIsNormal, pLPatch]
  refine ⟨ss, rfl, hnf, by decide, by omega, ss, rfl, htk, hst, ?_⟩
  rw [hrun]
  simp only [PV.pDivMod, PV.ownsOf_dic, PV.pDNew, PV.pDPut, PV.pDGet2, PV.pDGet, PV.pDIn, PV.pLenD, PV.keyD, PV.pSlScr, PV.pZipT, PV.pRngC, PV.pRngV, PV.pSt1, PV.pM0, PV.pZipS, PV.pM1, PV.pJoin, PV.pFmt, PV.pJoined, PV.pJs, PV.pBMV, PV.pCount, PV.pIndex, PV.pSetIx2, PV.pRetT, PV.pLcF, PV.mapL_inj, PV.pVar, PV.pC, PV.pOp, PV.pUn, PV.pII, PV.pII0, PV.pNeg, PV.pSS, PV.pSS0, PV.eqF_int, PV.eqF_str, PV.eqF_bool, PV.eqF_ni, PV.eqF_in, PV.eqF_nn, PV.eqF_si, PV.eqF_is, PV.eqF_sn, PV.eqF_ns, PV.pEq, PV.pEqD, PV.isN, PV.pIsN, PV.Tg.d, PV.Tg.it, PV.Tg.itD, PV.Tg.ok, PV.pCat, PV.pRep, PV.pCatT, PV.pIn, PV.pNil, PV.pCons, PV.Tg.items, PV.pStar, PV.allD, PV.allS, PV.pTup, PV.pLst, PV.pNoPart, PV.pPart, PV.pSlL, PV.pSlT, PV.pCB, PV.pLen, PV.pLenS, PV.pI1, PV.pI10, PV.pI2, PV.pInt1, PV.pBool1, PV.pS1, PV.pListOf, PV.pTupOf, PV.tyD, PV.pIsi, PV.bD, PV.pAndV, PV.pOrV, PV.pNotV, PV.pIfE, PV.pT, PV.pAnd, PV.pOr, PV.pNot, PV.truD, PV.pTru, PV.pNotT, PV.pChain, PV.pThree, PV.Rs.arg, PV.lend, PV.pCall, PV.pCall0, PV.pIt, PV.pItT, PV.pRg1, PV.pRg2, PV.pRg3, PV.pEnum, PV.pZip, PV.pRev, PV.pStr, PV.setR, PV.pName, PV.pTgt, PV.pTgts, PV.pTg, PV.pNext, PV.pBreak, PV.pCont, PV.pSeq, PV.pShr, PV.pShrI, PV.shI, PV.pFgt, PV.fgt, PV.pAsg, PV.pExpr, PV.Rs.ret, PV.pRet, PV.pRetN, PV.pIf, PV.pFld, PV.pAug, PV.pPar, PV.pBM, PV.pBM0, PV.pAppend, PV.pExtend, PV.pExtT, PV.pClear, PV.pReverse, PV.pSetIx, PV.pFor, PV.wipeG, PV.pLc, PV.gG, PV.pGen, PV.pYes, PV.pSum, PV.pRaise, PV.pRaise1, PV.slA, PV.startG, PV.ends, PV.pRevL, PV.pSlS, PV.pSign, PV.pProp, PV.pMake, PV.pMake0, PV.pTry, PV.pRetD, PV.Rs.asD, PV.sg, PV.Sl.r, PV.dV, PV.flatD, PV.owns, PV.ownsOf_no, PV.ownsOf_dat, PV.ownsOf_obj, PV.ownsOf_own, PV.ownsOf_tab, PV.shr, PV.Sl.sh, PV.intsOf_map, PV.intsOf_app, PV.intsOf_nil, PV.intsOf_int, PV.isInts_map, PV.isInts_nil, PV.isInts_int, PV.isInts_mapL, PV.scr_key, PV.isiQ_s, PV.kit_int_int, PV.kit_int_bool, PV.kit_int_str, PV.kit_int_list, PV.kit_int_tuple, PV.kit_bool_int, PV.kit_bool_bool, PV.kit_bool_str, PV.kit_bool_list, PV.kit_bool_tuple, PV.kit_str_int, PV.kit_str_bool, PV.kit_str_str, PV.kit_str_list, PV.kit_str_tuple, PV.kit_list_int, PV.kit_list_bool, PV.kit_list_str, PV.kit_list_list, PV.kit_list_tuple, PV.kit_tuple_int, PV.kit_tuple_bool, PV.kit_tuple_str, PV.kit_tuple_list, PV.kit_tuple_tuple, PV.kit_NoneType_int, PV.kit_NoneType_bool, PV.kit_NoneType_str, PV.kit_NoneType_list, PV.kit_NoneType_tuple, PV.cutD_map, PV.allD_map, PV.allD_mapA, PV.allS_map, PV.allS_mapA, List.getElem?_cons_zero, List.getElem?_cons_succ, List.getElem?_nil, List.set_cons_zero, List.set_cons_succ, List.map_cons, List.map_nil, List.cons_append, List.nil_append, List.append_nil, List.length_cons, List.length_nil, List.length_map, List.length_append, List.length_replicate, PV.flat_rep, Nat.mul_one, Nat.one_mul, PV.rep_none, List.replicate_zero, List.all_cons, List.all_nil, cond_true, cond_false, Bool.and_true, Bool.true_and, Bool.and_false, Bool.false_and, Bool.not_true, Bool.not_false, Bool.not_not, if_true, if_false, ite_true, ite_false, true_and, and_true, true_implies, false_implies, reduceCtorEq, Nat.reduceAdd, Nat.reduceSub, Nat.reduceLT, Nat.reduceLeDiff, Bool.false_eq_true, decide_eq_true_eq, decide_eq_false_iff_not, Bool.not_eq_true, Bool.not_eq_false, Bool.not_eq_true', Bool.not_eq_false', Bool.true_eq_false, Option.map_some, Option.map_none, decide_true, decide_false, not_true_eq_false, not_false_eq_true, implies_true, forall_const, eq_self, Nat.reduceEqDiff, beq_self_eq_true, ne_eq, Int.reduceEq, Int.reduceNe, Int.reduceLT, Int.reduceLE, Int.reduceGT, Int.reduceGE, Int.reduceToNat, Int.reduceAdd, Int.reduceNeg, Nat.reduceLT, Nat.reduceLeDiff, Nat.reduceAdd, Nat.reduceMul, false_and, and_false, and_self, true_and, and_true, false_implies, PV.at0, PV.at1, PV.at2, PV.at3, PV.at4, PV.at5, Option.some.injEq, exists_eq_left', exists_eq_left, shn, sen]
  refine PV.loop_inv ss (fun pre g => ∃ o3 o6 o7, (PV.ownsOf o3 = [] ∧ PV.ownsOf o6 = [] ∧ PV.ownsOf o7 = []) ∧ g = [none, some (.dat (.list (old.map .int))), some (.dat (.list (new.map .int))), o3, some (.dat (.list (ss.map stepD))), some (.dat (.int (cst pre : Int))), o6, o7]) ⟨_, _, _, ⟨rfl, rfl, rfl⟩, rfl⟩ ?_ ?_
  · rintro pre a post _ hpp ⟨o3, o6, o7, ⟨ho3, ho6, ho7⟩, rfl⟩ N nx
    have hc := cst_app pre [a]
    cases a with
    | keep n =>
      have hc1 : cst [Step.keep n] = 0 := by simp [cst]
      simp only [PV.pDivMod, PV.ownsOf_dic, PV.pDNew, PV.pDPut, PV.pDGet2, PV.pDGet, PV.pDIn, PV.pLenD, PV.keyD, PV.pSlScr, PV.pZipT, PV.pRngC, PV.pRngV, PV.pSt1, PV.pM0, PV.pZipS, PV.pM1, PV.pJoin, PV.pFmt, PV.pJoined, PV.pJs, PV.pBMV, PV.pCount, PV.pIndex, PV.pSetIx2, PV.pRetT, PV.pLcF, PV.mapL_inj, PV.pVar, PV.pC, PV.pOp, PV.pUn, PV.pII, PV.pII0, PV.pNeg, PV.pSS, PV.pSS0, PV.eqF_int, PV.eqF_str, PV.eqF_bool, PV.eqF_ni, PV.eqF_in, PV.eqF_nn, PV.eqF_si, PV.eqF_is, PV.eqF_sn, PV.eqF_ns, PV.pEq, PV.pEqD, PV.isN, PV.pIsN, PV.Tg.d, PV.Tg.it, PV.Tg.itD, PV.Tg.ok, PV.pCat, PV.pRep, PV.pCatT, PV.pIn, PV.pNil, PV.pCons, PV.Tg.items, PV.pStar, PV.allD, PV.allS, PV.pTup, PV.pLst, PV.pNoPart, PV.pPart, PV.pSlL, PV.pSlT, PV.pCB, PV.pLen, PV.pLenS, PV.pI1, PV.pI10, PV.pI2, PV.pInt1, PV.pBool1, PV.pS1, PV.pListOf, PV.pTupOf, PV.tyD, PV.pIsi, PV.bD, PV.pAndV, PV.pOrV, PV.pNotV, PV.pIfE, PV.pT, PV.pAnd, PV.pOr, PV.pNot, PV.truD, PV.pTru, PV.pNotT, PV.pChain, PV.pThree, PV.Rs.arg, PV.lend, PV.pCall, PV.pCall0, PV.pIt, PV.pItT, PV.pRg1, PV.pRg2, PV.pRg3, PV.pEnum, PV.pZip, PV.pRev, PV.pStr, PV.setR, PV.pName, PV.pTgt, PV.pTgts, PV.pTg, PV.pNext, PV.pBreak, PV.pCont, PV.pSeq, PV.pShr, PV.pShrI, PV.shI, PV.pFgt, PV.fgt, PV.pAsg, PV.pExpr, PV.Rs.ret, PV.pRet, PV.pRetN, PV.pIf, PV.pFld, PV.pAug, PV.pPar, PV.pBM, PV.pBM0, PV.pAppend, PV.pExtend, PV.pExtT, PV.pClear, PV.pReverse, PV.pSetIx, PV.pFor, PV.wipeG, PV.pLc, PV.gG, PV.pGen, PV.pYes, PV.pSum, PV.pRaise, PV.pRaise1, PV.slA, PV.startG, PV.ends, PV.pRevL, PV.pSlS, PV.pSign, PV.pProp, PV.pMake, PV.pMake0, PV.pTry, PV.pRetD, PV.Rs.asD, PV.sg, PV.Sl.r, PV.dV, PV.flatD, PV.owns, PV.ownsOf_no, PV.ownsOf_dat, PV.ownsOf_obj, PV.ownsOf_own, PV.ownsOf_tab, PV.shr, PV.Sl.sh, PV.intsOf_map, PV.intsOf_app, PV.intsOf_nil, PV.intsOf_int, PV.isInts_map, PV.isInts_nil, PV.isInts_int, PV.isInts_mapL, PV.scr_key, PV.isiQ_s, PV.kit_int_int, PV.kit_int_bool, PV.kit_int_str, PV.kit_int_list, PV.kit_int_tuple, PV.kit_bool_int, PV.kit_bool_bool, PV.kit_bool_str, PV.kit_bool_list, PV.kit_bool_tuple, PV.kit_str_int, PV.kit_str_bool, PV.kit_str_str, PV.kit_str_list, PV.kit_str_tuple, PV.kit_list_int, PV.kit_list_bool, PV.kit_list_str, PV.kit_list_list, PV.kit_list_tuple, PV.kit_tuple_int, PV.kit_tuple_bool, PV.kit_tuple_str, PV.kit_tuple_list, PV.kit_tuple_tuple, PV.kit_NoneType_int, PV.kit_NoneType_bool, PV.kit_NoneType_str, PV.kit_NoneType_list, PV.kit_NoneType_tuple, PV.cutD_map, PV.allD_map, PV.allD_mapA, PV.allS_map, PV.allS_mapA, List.getElem?_cons_zero, List.getElem?_cons_succ, List.getElem?_nil, List.set_cons_zero, List.set_cons_succ, List.map_cons, List.map_nil, List.cons_append, List.nil_append, List.append_nil, List.length_cons, List.length_nil, List.length_map, List.length_append, List.length_replicate, PV.flat_rep, Nat.mul_one, Nat.one_mul, PV.rep_none, List.replicate_zero, List.all_cons, List.all_nil, cond_true, cond_false, Bool.and_true, Bool.true_and, Bool.and_false, Bool.false_and, Bool.not_true, Bool.not_false, Bool.not_not, if_true, if_false, ite_true, ite_false, true_and, and_true, true_implies, false_implies, reduceCtorEq, Nat.reduceAdd, Nat.reduceSub, Nat.reduceLT, Nat.reduceLeDiff, Bool.false_eq_true, decide_eq_true_eq, decide_eq_false_iff_not, Bool.not_eq_true, Bool.not_eq_false, Bool.not_eq_true', Bool.not_eq_false', Bool.true_eq_false, Option.map_some, Option.map_none, decide_true, decide_false, not_true_eq_false, not_false_eq_true, implies_true, forall_const, eq_self, Nat.reduceEqDiff, beq_self_eq_true, ne_eq, Int.reduceEq, Int.reduceNe, Int.reduceLT, Int.reduceLE, Int.reduceGT, Int.reduceGE, Int.reduceToNat, Int.reduceAdd, Int.reduceNeg, Nat.reduceLT, Nat.reduceLeDiff, Nat.reduceAdd, Nat.reduceMul, false_and, and_false, and_self, true_and, and_true, false_implies, PV.at0, PV.at1, PV.at2, PV.at3, PV.at4, PV.at5, Option.some.injEq, exists_eq_left', exists_eq_left, stepD, s_kd]
      refine ⟨fun g => g = [none, some (.dat (.list (old.map .int))), some (.dat (.list (new.map .int))), none, some (.dat (.list (ss.map stepD))), some (.dat (.int (cst pre : Int))), some (.dat (.str "keep")), some (.dat (.int (n : Int)))], ?_, ?_⟩
      · simp only [PV.pDivMod, PV.ownsOf_dic, PV.pDNew, PV.pDPut, PV.pDGet2, PV.pDGet, PV.pDIn, PV.pLenD, PV.keyD, PV.pSlScr, PV.pZipT, PV.pRngC, PV.pRngV, PV.pSt1, PV.pM0, PV.pZipS, PV.pM1, PV.pJoin, PV.pFmt, PV.pJoined, PV.pJs, PV.pBMV, PV.pCount, PV.pIndex, PV.pSetIx2, PV.pRetT, PV.pLcF, PV.mapL_inj, PV.pVar, PV.pC, PV.pOp, PV.pUn, PV.pII, PV.pII0, PV.pNeg, PV.pSS, PV.pSS0, PV.eqF_int, PV.eqF_str, PV.eqF_bool, PV.eqF_ni, PV.eqF_in, PV.eqF_nn, PV.eqF_si, PV.eqF_is, PV.eqF_sn, PV.eqF_ns, PV.pEq, PV.pEqD, PV.isN, PV.pIsN, PV.Tg.d, PV.Tg.it, PV.Tg.itD, PV.Tg.ok, PV.pCat, PV.pRep, PV.pCatT, PV.pIn, PV.pNil, PV.pCons, PV.Tg.items, PV.pStar, PV.allD, PV.allS, PV.pTup, PV.pLst, PV.pNoPart, PV.pPart, PV.pSlL, PV.pSlT, PV.pCB, PV.pLen, PV.pLenS, PV.pI1, PV.pI10, PV.pI2, PV.pInt1, PV.pBool1, PV.pS1, PV.pListOf, PV.pTupOf, PV.tyD, PV.pIsi, PV.bD, PV.pAndV, PV.pOrV, PV.pNotV, PV.pIfE, PV.pT, PV.pAnd, PV.pOr, PV.pNot, PV.truD, PV.pTru, PV.pNotT, PV.pChain, PV.pThree, PV.Rs.arg, PV.lend, PV.pCall, PV.pCall0, PV.pIt, PV.pItT, PV.pRg1, PV.pRg2, PV.pRg3, PV.pEnum, PV.pZip, PV.pRev, PV.pStr, PV.setR, PV.pName, PV.pTgt, PV.pTgts, PV.pTg, PV.pNext, PV.pBreak, PV.pCont, PV.pSeq, PV.pShr, PV.pShrI, PV.shI, PV.pFgt, PV.fgt, PV.pAsg, PV.pExpr, PV.Rs.ret, PV.pRet, PV.pRetN, PV.pIf, PV.pFld, PV.pAug, PV.pPar, PV.pBM, PV.pBM0, PV.pAppend, PV.pExtend, PV.pExtT, PV.pClear, PV.pReverse, PV.pSetIx, PV.pFor, PV.wipeG, PV.pLc, PV.gG, PV.pGen, PV.pYes, PV.pSum, PV.pRaise, PV.pRaise1, PV.slA, PV.startG, PV.ends, PV.pRevL, PV.pSlS, PV.pSign, PV.pProp, PV.pMake, PV.pMake0, PV.pTry, PV.pRetD, PV.Rs.asD, PV.sg, PV.Sl.r, PV.dV, PV.flatD, PV.owns, PV.ownsOf_no, PV.ownsOf_dat, PV.ownsOf_obj, PV.ownsOf_own, PV.ownsOf_tab, PV.shr, PV.Sl.sh, PV.intsOf_map, PV.intsOf_app, PV.intsOf_nil, PV.intsOf_int, PV.isInts_map, PV.isInts_nil, PV.isInts_int, PV.isInts_mapL, PV.scr_key, PV.isiQ_s, PV.kit_int_int, PV.kit_int_bool, PV.kit_int_str, PV.kit_int_list, PV.kit_int_tuple, PV.kit_bool_int, PV.kit_bool_bool, PV.kit_bool_str, PV.kit_bool_list, PV.kit_bool_tuple, PV.kit_str_int, PV.kit_str_bool, PV.kit_str_str, PV.kit_str_list, PV.kit_str_tuple, PV.kit_list_int, PV.kit_list_bool, PV.kit_list_str, PV.kit_list_list, PV.kit_list_tuple, PV.kit_tuple_int, PV.kit_tuple_bool, PV.kit_tuple_str, PV.kit_tuple_list, PV.kit_tuple_tuple, PV.kit_NoneType_int, PV.kit_NoneType_bool, PV.kit_NoneType_str, PV.kit_NoneType_list, PV.kit_NoneType_tuple, PV.cutD_map, PV.allD_map, PV.allD_mapA, PV.allS_map, PV.allS_mapA, List.getElem?_cons_zero, List.getElem?_cons_succ, List.getElem?_nil, List.set_cons_zero, List.set_cons_succ, List.map_cons, List.map_nil, List.cons_append, List.nil_append, List.append_nil, List.length_cons, List.length_nil, List.length_map, List.length_append, List.length_replicate, PV.flat_rep, Nat.mul_one, Nat.one_mul, PV.rep_none, List.replicate_zero, List.all_cons, List.all_nil, cond_true, cond_false, Bool.and_true, Bool.true_and, Bool.and_false, Bool.false_and, Bool.not_true, Bool.not_false, Bool.not_not, if_true, if_false, ite_true, ite_false, true_and, and_true, true_implies, false_implies, reduceCtorEq, Nat.reduceAdd, Nat.reduceSub, Nat.reduceLT, Nat.reduceLeDiff, Bool.false_eq_true, decide_eq_true_eq, decide_eq_false_iff_not, Bool.not_eq_true, Bool.not_eq_false, Bool.not_eq_true', Bool.not_eq_false', Bool.true_eq_false, Option.map_some, Option.map_none, decide_true, decide_false, not_true_eq_false, not_false_eq_true, implies_true, forall_const, eq_self, Nat.reduceEqDiff, beq_self_eq_true, ne_eq, Int.reduceEq, Int.reduceNe, Int.reduceLT, Int.reduceLE, Int.reduceGT, Int.reduceGE, Int.reduceToNat, Int.reduceAdd, Int.reduceNeg, Nat.reduceLT, Nat.reduceLeDiff, Nat.reduceAdd, Nat.reduceMul, false_and, and_false, and_self, true_and, and_true, false_implies, PV.at0, PV.at1, PV.at2, PV.at3, PV.at4, PV.at5, Option.some.injEq, exists_eq_left', exists_eq_left, s_kd, s_ka]
        done
      rintro _ rfl
      simp only [PV.pDivMod, PV.ownsOf_dic, PV.pDNew, PV.pDPut, PV.pDGet2, PV.pDGet, PV.pDIn, PV.pLenD, PV.keyD, PV.pSlScr, PV.pZipT, PV.pRngC, PV.pRngV, PV.pSt1, PV.pM0, PV.pZipS, PV.pM1, PV.pJoin, PV.pFmt, PV.pJoined, PV.pJs, PV.pBMV, PV.pCount, PV.pIndex, PV.pSetIx2, PV.pRetT, PV.pLcF, PV.mapL_inj, PV.pVar, PV.pC, PV.pOp, PV.pUn, PV.pII, PV.pII0, PV.pNeg, PV.pSS, PV.pSS0, PV.eqF_int, PV.eqF_str, PV.eqF_bool, PV.eqF_ni, PV.eqF_in, PV.eqF_nn, PV.eqF_si, PV.eqF_is, PV.eqF_sn, PV.eqF_ns, PV.pEq, PV.pEqD, PV.isN, PV.pIsN, PV.Tg.d, PV.Tg.it, PV.Tg.itD, PV.Tg.ok, PV.pCat, PV.pRep, PV.pCatT, PV.pIn, PV.pNil, PV.pCons, PV.Tg.items, PV.pStar, PV.allD, PV.allS, PV.pTup, PV.pLst, PV.pNoPart, PV.pPart, PV.pSlL, PV.pSlT, PV.pCB, PV.pLen, PV.pLenS, PV.pI1, PV.pI10, PV.pI2, PV.pInt1, PV.pBool1, PV.pS1, PV.pListOf, PV.pTupOf, PV.tyD, PV.pIsi, PV.bD, PV.pAndV, PV.pOrV, PV.pNotV, PV.pIfE, PV.pT, PV.pAnd, PV.pOr, PV.pNot, PV.truD, PV.pTru, PV.pNotT, PV.pChain, PV.pThree, PV.Rs.arg, PV.lend, PV.pCall, PV.pCall0, PV.pIt, PV.pItT, PV.pRg1, PV.pRg2, PV.pRg3, PV.pEnum, PV.pZip, PV.pRev, PV.pStr, PV.setR, PV.pName, PV.pTgt, PV.pTgts, PV.pTg, PV.pNext, PV.pBreak, PV.pCont, PV.pSeq, PV.pShr, PV.pShrI, PV.shI, PV.pFgt, PV.fgt, PV.pAsg, PV.pExpr, PV.Rs.ret, PV.pRet, PV.pRetN, PV.pIf, PV.pFld, PV.pAug, PV.pPar, PV.pBM, PV.pBM0, PV.pAppend, PV.pExtend, PV.pExtT, PV.pClear, PV.pReverse, PV.pSetIx, PV.pFor, PV.wipeG, PV.pLc, PV.gG, PV.pGen, PV.pYes, PV.pSum, PV.pRaise, PV.pRaise1, PV.slA, PV.startG, PV.ends, PV.pRevL, PV.pSlS, PV.pSign, PV.pProp, PV.pMake, PV.pMake0, PV.pTry, PV.pRetD, PV.Rs.asD, PV.sg, PV.Sl.r, PV.dV, PV.flatD, PV.owns, PV.ownsOf_no, PV.ownsOf_dat, PV.ownsOf_obj, PV.ownsOf_own, PV.ownsOf_tab, PV.shr, PV.Sl.sh, PV.intsOf_map, PV.intsOf_app, PV.intsOf_nil, PV.intsOf_int, PV.isInts_map, PV.isInts_nil, PV.isInts_int, PV.isInts_mapL, PV.scr_key, PV.isiQ_s, PV.kit_int_int, PV.kit_int_bool, PV.kit_int_str, PV.kit_int_list, PV.kit_int_tuple, PV.kit_bool_int, PV.kit_bool_bool, PV.kit_bool_str, PV.kit_bool_list, PV.kit_bool_tuple, PV.kit_str_int, PV.kit_str_bool, PV.kit_str_str, PV.kit_str_list, PV.kit_str_tuple, PV.kit_list_int, PV.kit_list_bool, PV.kit_list_str, PV.kit_list_list, PV.kit_list_tuple, PV.kit_tuple_int, PV.kit_tuple_bool, PV.kit_tuple_str, PV.kit_tuple_list, PV.kit_tuple_tuple, PV.kit_NoneType_int, PV.kit_NoneType_bool, PV.kit_NoneType_str, PV.kit_NoneType_list, PV.kit_NoneType_tuple, PV.cutD_map, PV.allD_map, PV.allD_mapA, PV.allS_map, PV.allS_mapA, List.getElem?_cons_zero, List.getElem?_cons_succ, List.getElem?_nil, List.set_cons_zero, List.set_cons_succ, List.map_cons, List.map_nil, List.cons_append, List.nil_append, List.append_nil, List.length_cons, List.length_nil, List.length_map, List.length_append, List.length_replicate, PV.flat_rep, Nat.mul_one, Nat.one_mul, PV.rep_none, List.replicate_zero, List.all_cons, List.all_nil, cond_true, cond_false, Bool.and_true, Bool.true_and, Bool.and_false, Bool.false_and, Bool.not_true, Bool.not_false, Bool.not_not, if_true, if_false, ite_true, ite_false, true_and, and_true, true_implies, false_implies, reduceCtorEq, Nat.reduceAdd, Nat.reduceSub, Nat.reduceLT, Nat.reduceLeDiff, Bool.false_eq_true, decide_eq_true_eq, decide_eq_false_iff_not, Bool.not_eq_true, Bool.not_eq_false, Bool.not_eq_true', Bool.not_eq_false', Bool.true_eq_false, Option.map_some, Option.map_none, decide_true, decide_false, not_true_eq_false, not_false_eq_true, implies_true, forall_const, eq_self, Nat.reduceEqDiff, beq_self_eq_true, ne_eq, Int.reduceEq, Int.reduceNe, Int.reduceLT, Int.reduceLE, Int.reduceGT, Int.reduceGE, Int.reduceToNat, Int.reduceAdd, Int.reduceNeg, Nat.reduceLT, Nat.reduceLeDiff, Nat.reduceAdd, Nat.reduceMul, false_and, and_false, and_self, true_and, and_true, false_implies, PV.at0, PV.at1, PV.at2, PV.at3, PV.at4, PV.at5, Option.some.injEq, exists_eq_left', exists_eq_left, s_kd, s_ka]
      exact nx _ ⟨none, _, _, ⟨rfl, rfl, rfl⟩, by rw [hc, hc1, Nat.add_zero]⟩
    | drop n =>
      have hc1 : cst [Step.drop n] = n := by simp [cst]
      simp only [PV.pDivMod, PV.ownsOf_dic, PV.pDNew, PV.pDPut, PV.pDGet2, PV.pDGet, PV.pDIn, PV.pLenD, PV.keyD, PV.pSlScr, PV.pZipT, PV.pRngC, PV.pRngV, PV.pSt1, PV.pM0, PV.pZipS, PV.pM1, PV.pJoin, PV.pFmt, PV.pJoined, PV.pJs, PV.pBMV, PV.pCount, PV.pIndex, PV.pSetIx2, PV.pRetT, PV.pLcF, PV.mapL_inj, PV.pVar, PV.pC, PV.pOp, PV.pUn, PV.pII, PV.pII0, PV.pNeg, PV.pSS, PV.pSS0, PV.eqF_int, PV.eqF_str, PV.eqF_bool, PV.eqF_ni, PV.eqF_in, PV.eqF_nn, PV.eqF_si, PV.eqF_is, PV.eqF_sn, PV.eqF_ns, PV.pEq, PV.pEqD, PV.isN, PV.pIsN, PV.Tg.d, PV.Tg.it, PV.Tg.itD, PV.Tg.ok, PV.pCat, PV.pRep, PV.pCatT, PV.pIn, PV.pNil, PV.pCons, PV.Tg.items, PV.pStar, PV.allD, PV.allS, PV.pTup, PV.pLst, PV.pNoPart, PV.pPart, PV.pSlL, PV.pSlT, PV.pCB, PV.pLen, PV.pLenS, PV.pI1, PV.pI10, PV.pI2, PV.pInt1, PV.pBool1, PV.pS1, PV.pListOf, PV.pTupOf, PV.tyD, PV.pIsi, PV.bD, PV.pAndV, PV.pOrV, PV.pNotV, PV.pIfE, PV.pT, PV.pAnd, PV.pOr, PV.pNot, PV.truD, PV.pTru, PV.pNotT, PV.pChain, PV.pThree, PV.Rs.arg, PV.lend, PV.pCall, PV.pCall0, PV.pIt, PV.pItT, PV.pRg1, PV.pRg2, PV.pRg3, PV.pEnum, PV.pZip, PV.pRev, PV.pStr, PV.setR, PV.pName, PV.pTgt, PV.pTgts, PV.pTg, PV.pNext, PV.pBreak, PV.pCont, PV.pSeq, PV.pShr, PV.pShrI, PV.shI, PV.pFgt, PV.fgt, PV.pAsg, PV.pExpr, PV.Rs.ret, PV.pRet, PV.pRetN, PV.pIf, PV.pFld, PV.pAug, PV.pPar, PV.pBM, PV.pBM0, PV.pAppend, PV.pExtend, PV.pExtT, PV.pClear, PV.pReverse, PV.pSetIx, PV.pFor, PV.wipeG, PV.pLc, PV.gG, PV.pGen, PV.pYes, PV.pSum, PV.pRaise, PV.pRaise1, PV.slA, PV.startG, PV.ends, PV.pRevL, PV.pSlS, PV.pSign, PV.pProp, PV.pMake, PV.pMake0, PV.pTry, PV.pRetD, PV.Rs.asD, PV.sg, PV.Sl.r, PV.dV, PV.flatD, PV.owns, PV.ownsOf_no, PV.ownsOf_dat, PV.ownsOf_obj, PV.ownsOf_own, PV.ownsOf_tab, PV.shr, PV.Sl.sh, PV.intsOf_map, PV.intsOf_app, PV.intsOf_nil, PV.intsOf_int, PV.isInts_map, PV.isInts_nil, PV.isInts_int, PV.isInts_mapL, PV.scr_key, PV.isiQ_s, PV.kit_int_int, PV.kit_int_bool, PV.kit_int_str, PV.kit_int_list, PV.kit_int_tuple, PV.kit_bool_int, PV.kit_bool_bool, PV.kit_bool_str, PV.kit_bool_list, PV.kit_bool_tuple, PV.kit_str_int, PV.kit_str_bool, PV.kit_str_str, PV.kit_str_list, PV.kit_str_tuple, PV.kit_list_int, PV.kit_list_bool, PV.kit_list_str, PV.kit_list_list, PV.kit_list_tuple, PV.kit_tuple_int, PV.kit_tuple_bool, PV.kit_tuple_str, PV.kit_tuple_list, PV.kit_tuple_tuple, PV.kit_NoneType_int, PV.kit_NoneType_bool, PV.kit_NoneType_str, PV.kit_NoneType_list, PV.kit_NoneType_tuple, PV.cutD_map, PV.allD_map, PV.allD_mapA, PV.allS_map, PV.allS_mapA, List.getElem?_cons_zero, List.getElem?_cons_succ, List.getElem?_nil, List.set_cons_zero, List.set_cons_succ, List.map_cons, List.map_nil, List.cons_append, List.nil_append, List.append_nil, List.length_cons, List.length_nil, List.length_map, List.length_append, List.length_replicate, PV.flat_rep, Nat.mul_one, Nat.one_mul, PV.rep_none, List.replicate_zero, List.all_cons, List.all_nil, cond_true, cond_false, Bool.and_true, Bool.true_and, Bool.and_false, Bool.false_and, Bool.not_true, Bool.not_false, Bool.not_not, if_true, if_false, ite_true, ite_false, true_and, and_true, true_implies, false_implies, reduceCtorEq, Nat.reduceAdd, Nat.reduceSub, Nat.reduceLT, Nat.reduceLeDiff, Bool.false_eq_true, decide_eq_true_eq, decide_eq_false_iff_not, Bool.not_eq_true, Bool.not_eq_false, Bool.not_eq_true', Bool.not_eq_false', Bool.true_eq_false, Option.map_some, Option.map_none, decide_true, decide_false, not_true_eq_false, not_false_eq_true, implies_true, forall_const, eq_self, Nat.reduceEqDiff, beq_self_eq_true, ne_eq, Int.reduceEq, Int.reduceNe, Int.reduceLT, Int.reduceLE, Int.reduceGT, Int.reduceGE, Int.reduceToNat, Int.reduceAdd, Int.reduceNeg, Nat.reduceLT, Nat.reduceLeDiff, Nat.reduceAdd, Nat.reduceMul, false_and, and_false, and_self, true_and, and_true, false_implies, PV.at0, PV.at1, PV.at2, PV.at3, PV.at4, PV.at5, Option.some.injEq, exists_eq_left', exists_eq_left, stepD, s_da]
      refine ⟨fun g => g = [none, some (.dat (.list (old.map .int))), some (.dat (.list (new.map .int))), none, some (.dat (.list (ss.map stepD))), some (.dat (.int ((cst pre : Int) + n))), some (.dat (.str "drop")), some (.dat (.int (n : Int)))], ?_, ?_⟩
      · simp only [PV.pDivMod, PV.ownsOf_dic, PV.pDNew, PV.pDPut, PV.pDGet2, PV.pDGet, PV.pDIn, PV.pLenD, PV.keyD, PV.pSlScr, PV.pZipT, PV.pRngC, PV.pRngV, PV.pSt1, PV.pM0, PV.pZipS, PV.pM1, PV.pJoin, PV.pFmt, PV.pJoined, PV.pJs, PV.pBMV, PV.pCount, PV.pIndex, PV.pSetIx2, PV.pRetT, PV.pLcF, PV.mapL_inj, PV.pVar, PV.pC, PV.pOp, PV.pUn, PV.pII, PV.pII0, PV.pNeg, PV.pSS, PV.pSS0, PV.eqF_int, PV.eqF_str, PV.eqF_bool, PV.eqF_ni, PV.eqF_in, PV.eqF_nn, PV.eqF_si, PV.eqF_is, PV.eqF_sn, PV.eqF_ns, PV.pEq, PV.pEqD, PV.isN, PV.pIsN, PV.Tg.d, PV.Tg.it, PV.Tg.itD, PV.Tg.ok, PV.pCat, PV.pRep, PV.pCatT, PV.pIn, PV.pNil, PV.pCons, PV.Tg.items, PV.pStar, PV.allD, PV.allS, PV.pTup, PV.pLst, PV.pNoPart, PV.pPart, PV.pSlL, PV.pSlT, PV.pCB, PV.pLen, PV.pLenS, PV.pI1, PV.pI10, PV.pI2, PV.pInt1, PV.pBool1, PV.pS1, PV.pListOf, PV.pTupOf, PV.tyD, PV.pIsi, PV.bD, PV.pAndV, PV.pOrV, PV.pNotV, PV.pIfE, PV.pT, PV.pAnd, PV.pOr, PV.pNot, PV.truD, PV.pTru, PV.pNotT, PV.pChain, PV.pThree, PV.Rs.arg, PV.lend, PV.pCall, PV.pCall0, PV.pIt, PV.pItT, PV.pRg1, PV.pRg2, PV.pRg3, PV.pEnum, PV.pZip, PV.pRev, PV.pStr, PV.setR, PV.pName, PV.pTgt, PV.pTgts, PV.pTg, PV.pNext, PV.pBreak, PV.pCont, PV.pSeq, PV.pShr, PV.pShrI, PV.shI, PV.pFgt, PV.fgt, PV.pAsg, PV.pExpr, PV.Rs.ret, PV.pRet, PV.pRetN, PV.pIf, PV.pFld, PV.pAug, PV.pPar, PV.pBM, PV.pBM0, PV.pAppend, PV.pExtend, PV.pExtT, PV.pClear, PV.pReverse, PV.pSetIx, PV.pFor, PV.wipeG, PV.pLc, PV.gG, PV.pGen, PV.pYes, PV.pSum, PV.pRaise, PV.pRaise1, PV.slA, PV.startG, PV.ends, PV.pRevL, PV.pSlS, PV.pSign, PV.pProp, PV.pMake, PV.pMake0, PV.pTry, PV.pRetD, PV.Rs.asD, PV.sg, PV.Sl.r, PV.dV, PV.flatD, PV.owns, PV.ownsOf_no, PV.ownsOf_dat, PV.ownsOf_obj, PV.ownsOf_own, PV.ownsOf_tab, PV.shr, PV.Sl.sh, PV.intsOf_map, PV.intsOf_app, PV.intsOf_nil, PV.intsOf_int, PV.isInts_map, PV.isInts_nil, PV.isInts_int, PV.isInts_mapL, PV.scr_key, PV.isiQ_s, PV.kit_int_int, PV.kit_int_bool, PV.kit_int_str, PV.kit_int_list, PV.kit_int_tuple, PV.kit_bool_int, PV.kit_bool_bool, PV.kit_bool_str, PV.kit_bool_list, PV.kit_bool_tuple, PV.kit_str_int, PV.kit_str_bool, PV.kit_str_str, PV.kit_str_list, PV.kit_str_tuple, PV.kit_list_int, PV.kit_list_bool, PV.kit_list_str, PV.kit_list_list, PV.kit_list_tuple, PV.kit_tuple_int, PV.kit_tuple_bool, PV.kit_tuple_str, PV.kit_tuple_list, PV.kit_tuple_tuple, PV.kit_NoneType_int, PV.kit_NoneType_bool, PV.kit_NoneType_str, PV.kit_NoneType_list, PV.kit_NoneType_tuple, PV.cutD_map, PV.allD_map, PV.allD_mapA, PV.allS_map, PV.allS_mapA, List.getElem?_cons_zero, List.getElem?_cons_succ, List.getElem?_nil, List.set_cons_zero, List.set_cons_succ, List.map_cons, List.map_nil, List.cons_append, List.nil_append, List.append_nil, List.length_cons, List.length_nil, List.length_map, List.length_append, List.length_replicate, PV.flat_rep, Nat.mul_one, Nat.one_mul, PV.rep_none, List.replicate_zero, List.all_cons, List.all_nil, cond_true, cond_false, Bool.and_true, Bool.true_and, Bool.and_false, Bool.false_and, Bool.not_true, Bool.not_false, Bool.not_not, if_true, if_false, ite_true, ite_false, true_and, and_true, true_implies, false_implies, reduceCtorEq, Nat.reduceAdd, Nat.reduceSub, Nat.reduceLT, Nat.reduceLeDiff, Bool.false_eq_true, decide_eq_true_eq, decide_eq_false_iff_not, Bool.not_eq_true, Bool.not_eq_false, Bool.not_eq_true', Bool.not_eq_false', Bool.true_eq_false, Option.map_some, Option.map_none, decide_true, decide_false, not_true_eq_false, not_false_eq_true, implies_true, forall_const, eq_self, Nat.reduceEqDiff, beq_self_eq_true, ne_eq, Int.reduceEq, Int.reduceNe, Int.reduceLT, Int.reduceLE, Int.reduceGT, Int.reduceGE, Int.reduceToNat, Int.reduceAdd, Int.reduceNeg, Nat.reduceLT, Nat.reduceLeDiff, Nat.reduceAdd, Nat.reduceMul, false_and, and_false, and_self, true_and, and_true, false_implies, PV.at0, PV.at1, PV.at2, PV.at3, PV.at4, PV.at5, Option.some.injEq, exists_eq_left', exists_eq_left, s_da]
        done
      rintro _ rfl
      simp only [PV.pDivMod, PV.ownsOf_dic, PV.pDNew, PV.pDPut, PV.pDGet2, PV.pDGet, PV.pDIn, PV.pLenD, PV.keyD, PV.pSlScr, PV.pZipT, PV.pRngC, PV.pRngV, PV.pSt1, PV.pM0, PV.pZipS, PV.pM1, PV.pJoin, PV.pFmt, PV.pJoined, PV.pJs, PV.pBMV, PV.pCount, PV.pIndex, PV.pSetIx2, PV.pRetT, PV.pLcF, PV.mapL_inj, PV.pVar, PV.pC, PV.pOp, PV.pUn, PV.pII, PV.pII0, PV.pNeg, PV.pSS, PV.pSS0, PV.eqF_int, PV.eqF_str, PV.eqF_bool, PV.eqF_ni, PV.eqF_in, PV.eqF_nn, PV.eqF_si, PV.eqF_is, PV.eqF_sn, PV.eqF_ns, PV.pEq, PV.pEqD, PV.isN, PV.pIsN, PV.Tg.d, PV.Tg.it, PV.Tg.itD, PV.Tg.ok, PV.pCat, PV.pRep, PV.pCatT, PV.pIn, PV.pNil, PV.pCons, PV.Tg.items, PV.pStar, PV.allD, PV.allS, PV.pTup, PV.pLst, PV.pNoPart, PV.pPart, PV.pSlL, PV.pSlT, PV.pCB, PV.pLen, PV.pLenS, PV.pI1, PV.pI10, PV.pI2, PV.pInt1, PV.pBool1, PV.pS1, PV.pListOf, PV.pTupOf, PV.tyD, PV.pIsi, PV.bD, PV.pAndV, PV.pOrV, PV.pNotV, PV.pIfE, PV.pT, PV.pAnd, PV.pOr, PV.pNot, PV.truD, PV.pTru, PV.pNotT, PV.pChain, PV.pThree, PV.Rs.arg, PV.lend, PV.pCall, PV.pCall0, PV.pIt, PV.pItT, PV.pRg1, PV.pRg2, PV.pRg3, PV.pEnum, PV.pZip, PV.pRev, PV.pStr, PV.setR, PV.pName, PV.pTgt, PV.pTgts, PV.pTg, PV.pNext, PV.pBreak, PV.pCont, PV.pSeq, PV.pShr, PV.pShrI, PV.shI, PV.pFgt, PV.fgt, PV.pAsg, PV.pExpr, PV.Rs.ret, PV.pRet, PV.pRetN, PV.pIf, PV.pFld, PV.pAug, PV.pPar, PV.pBM, PV.pBM0, PV.pAppend, PV.pExtend, PV.pExtT, PV.pClear, PV.pReverse, PV.pSetIx, PV.pFor, PV.wipeG, PV.pLc, PV.gG, PV.pGen, PV.pYes, PV.pSum, PV.pRaise, PV.pRaise1, PV.slA, PV.startG, PV.ends, PV.pRevL, PV.pSlS, PV.pSign, PV.pProp, PV.pMake, PV.pMake0, PV.pTry, PV.pRetD, PV.Rs.asD, PV.sg, PV.Sl.r, PV.dV, PV.flatD, PV.owns, PV.ownsOf_no, PV.ownsOf_dat, PV.ownsOf_obj, PV.ownsOf_own, PV.ownsOf_tab, PV.shr, PV.Sl.sh, PV.intsOf_map, PV.intsOf_app, PV.intsOf_nil, PV.intsOf_int, PV.isInts_map, PV.isInts_nil, PV.isInts_int, PV.isInts_mapL, PV.scr_key, PV.isiQ_s, PV.kit_int_int, PV.kit_int_bool, PV.kit_int_str, PV.kit_int_list, PV.kit_int_tuple, PV.kit_bool_int, PV.kit_bool_bool, PV.kit_bool_str, PV.kit_bool_list, PV.kit_bool_tuple, PV.kit_str_int, PV.kit_str_bool, PV.kit_str_str, PV.kit_str_list, PV.kit_str_tuple, PV.kit_list_int, PV.kit_list_bool, PV.kit_list_str, PV.kit_list_list, PV.kit_list_tuple, PV.kit_tuple_int, PV.kit_tuple_bool, PV.kit_tuple_str, PV.kit_tuple_list, PV.kit_tuple_tuple, PV.kit_NoneType_int, PV.kit_NoneType_bool, PV.kit_NoneType_str, PV.kit_NoneType_list, PV.kit_NoneType_tuple, PV.cutD_map, PV.allD_map, PV.allD_mapA, PV.allS_map, PV.allS_mapA, List.getElem?_cons_zero, List.getElem?_cons_succ, List.getElem?_nil, List.set_cons_zero, List.set_cons_succ, List.map_cons, List.map_nil, List.cons_append, List.nil_append, List.append_nil, List.length_cons, List.length_nil, List.length_map, List.length_append, List.length_replicate, PV.flat_rep, Nat.mul_one, Nat.one_mul, PV.rep_none, List.replicate_zero, List.all_cons, List.all_nil, cond_true, cond_false, Bool.and_true, Bool.true_and, Bool.and_false, Bool.false_and, Bool.not_true, Bool.not_false, Bool.not_not, if_true, if_false, ite_true, ite_false, true_and, and_true, true_implies, false_implies, reduceCtorEq, Nat.reduceAdd, Nat.reduceSub, Nat.reduceLT, Nat.reduceLeDiff, Bool.false_eq_true, decide_eq_true_eq, decide_eq_false_iff_not, Bool.not_eq_true, Bool.not_eq_false, Bool.not_eq_true', Bool.not_eq_false', Bool.true_eq_false, Option.map_some, Option.map_none, decide_true, decide_false, not_true_eq_false, not_false_eq_true, implies_true, forall_const, eq_self, Nat.reduceEqDiff, beq_self_eq_true, ne_eq, Int.reduceEq, Int.reduceNe, Int.reduceLT, Int.reduceLE, Int.reduceGT, Int.reduceGE, Int.reduceToNat, Int.reduceAdd, Int.reduceNeg, Nat.reduceLT, Nat.reduceLeDiff, Nat.reduceAdd, Nat.reduceMul, false_and, and_false, and_self, true_and, and_true, false_implies, PV.at0, PV.at1, PV.at2, PV.at3, PV.at4, PV.at5, Option.some.injEq, exists_eq_left', exists_eq_left, s_da]
      exact nx _ ⟨none, _, _, ⟨rfl, rfl, rfl⟩, by rw [hc, hc1, Int.natCast_add]⟩
    | add n =>
      have hc1 : cst [Step.add n] = n.length := by simp [cst]
      simp only [PV.pDivMod, PV.ownsOf_dic, PV.pDNew, PV.pDPut, PV.pDGet2, PV.pDGet, PV.pDIn, PV.pLenD, PV.keyD, PV.pSlScr, PV.pZipT, PV.pRngC, PV.pRngV, PV.pSt1, PV.pM0, PV.pZipS, PV.pM1, PV.pJoin, PV.pFmt, PV.pJoined, PV.pJs, PV.pBMV, PV.pCount, PV.pIndex, PV.pSetIx2, PV.pRetT, PV.pLcF, PV.mapL_inj, PV.pVar, PV.pC, PV.pOp, PV.pUn, PV.pII, PV.pII0, PV.pNeg, PV.pSS, PV.pSS0, PV.eqF_int, PV.eqF_str, PV.eqF_bool, PV.eqF_ni, PV.eqF_in, PV.eqF_nn, PV.eqF_si, PV.eqF_is, PV.eqF_sn, PV.eqF_ns, PV.pEq, PV.pEqD, PV.isN, PV.pIsN, PV.Tg.d, PV.Tg.it, PV.Tg.itD, PV.Tg.ok, PV.pCat, PV.pRep, PV.pCatT, PV.pIn, PV.pNil, PV.pCons, PV.Tg.items, PV.pStar, PV.allD, PV.allS, PV.pTup, PV.pLst, PV.pNoPart, PV.pPart, PV.pSlL, PV.pSlT, PV.pCB, PV.pLen, PV.pLenS, PV.pI1, PV.pI10, PV.pI2, PV.pInt1, PV.pBool1, PV.pS1, PV.pListOf, PV.pTupOf, PV.tyD, PV.pIsi, PV.bD, PV.pAndV, PV.pOrV, PV.pNotV, PV.pIfE, PV.pT, PV.pAnd, PV.pOr, PV.pNot, PV.truD, PV.pTru, PV.pNotT, PV.pChain, PV.pThree, PV.Rs.arg, PV.lend, PV.pCall, PV.pCall0, PV.pIt, PV.pItT, PV.pRg1, PV.pRg2, PV.pRg3, PV.pEnum, PV.pZip, PV.pRev, PV.pStr, PV.setR, PV.pName, PV.pTgt, PV.pTgts, PV.pTg, PV.pNext, PV.pBreak, PV.pCont, PV.pSeq, PV.pShr, PV.pShrI, PV.shI, PV.pFgt, PV.fgt, PV.pAsg, PV.pExpr, PV.Rs.ret, PV.pRet, PV.pRetN, PV.pIf, PV.pFld, PV.pAug, PV.pPar, PV.pBM, PV.pBM0, PV.pAppend, PV.pExtend, PV.pExtT, PV.pClear, PV.pReverse, PV.pSetIx, PV.pFor, PV.wipeG, PV.pLc, PV.gG, PV.pGen, PV.pYes, PV.pSum, PV.pRaise, PV.pRaise1, PV.slA, PV.startG, PV.ends, PV.pRevL, PV.pSlS, PV.pSign, PV.pProp, PV.pMake, PV.pMake0, PV.pTry, PV.pRetD, PV.Rs.asD, PV.sg, PV.Sl.r, PV.dV, PV.flatD, PV.owns, PV.ownsOf_no, PV.ownsOf_dat, PV.ownsOf_obj, PV.ownsOf_own, PV.ownsOf_tab, PV.shr, PV.Sl.sh, PV.intsOf_map, PV.intsOf_app, PV.intsOf_nil, PV.intsOf_int, PV.isInts_map, PV.isInts_nil, PV.isInts_int, PV.isInts_mapL, PV.scr_key, PV.isiQ_s, PV.kit_int_int, PV.kit_int_bool, PV.kit_int_str, PV.kit_int_list, PV.kit_int_tuple, PV.kit_bool_int, PV.kit_bool_bool, PV.kit_bool_str, PV.kit_bool_list, PV.kit_bool_tuple, PV.kit_str_int, PV.kit_str_bool, PV.kit_str_str, PV.kit_str_list, PV.kit_str_tuple, PV.kit_list_int, PV.kit_list_bool, PV.kit_list_str, PV.kit_list_list, PV.kit_list_tuple, PV.kit_tuple_int, PV.kit_tuple_bool, PV.kit_tuple_str, PV.kit_tuple_list, PV.kit_tuple_tuple, PV.kit_NoneType_int, PV.kit_NoneType_bool, PV.kit_NoneType_str, PV.kit_NoneType_list, PV.kit_NoneType_tuple, PV.cutD_map, PV.allD_map, PV.allD_mapA, PV.allS_map, PV.allS_mapA, List.getElem?_cons_zero, List.getElem?_cons_succ, List.getElem?_nil, List.set_cons_zero, List.set_cons_succ, List.map_cons, List.map_nil, List.cons_append, List.nil_append, List.append_nil, List.length_cons, List.length_nil, List.length_map, List.length_append, List.length_replicate, PV.flat_rep, Nat.mul_one, Nat.one_mul, PV.rep_none, List.replicate_zero, List.all_cons, List.all_nil, cond_true, cond_false, Bool.and_true, Bool.true_and, Bool.and_false, Bool.false_and, Bool.not_true, Bool.not_false, Bool.not_not, if_true, if_false, ite_true, ite_false, true_and, and_true, true_implies, false_implies, reduceCtorEq, Nat.reduceAdd, Nat.reduceSub, Nat.reduceLT, Nat.reduceLeDiff, Bool.false_eq_true, decide_eq_true_eq, decide_eq_false_iff_not, Bool.not_eq_true, Bool.not_eq_false, Bool.not_eq_true', Bool.not_eq_false', Bool.true_eq_false, Option.map_some, Option.map_none, decide_true, decide_false, not_true_eq_false, not_false_eq_true, implies_true, forall_const, eq_self, Nat.reduceEqDiff, beq_self_eq_true, ne_eq, Int.reduceEq, Int.reduceNe, Int.reduceLT, Int.reduceLE, Int.reduceGT, Int.reduceGE, Int.reduceToNat, Int.reduceAdd, Int.reduceNeg, Nat.reduceLT, Nat.reduceLeDiff, Nat.reduceAdd, Nat.reduceMul, false_and, and_false, and_self, true_and, and_true, false_implies, PV.at0, PV.at1, PV.at2, PV.at3, PV.at4, PV.at5, Option.some.injEq, exists_eq_left', exists_eq_left, stepD, s_ad]
      refine ⟨fun g => g = [none, some (.dat (.list (old.map .int))), some (.dat (.list (new.map .int))), none, some (.dat (.list (ss.map stepD))), some (.dat (.int (cst pre : Int))), some (.dat (.str "add")), some (.dat (.tuple (n.map .int)))], ?_, ?_⟩
      · simp only [PV.pDivMod, PV.ownsOf_dic, PV.pDNew, PV.pDPut, PV.pDGet2, PV.pDGet, PV.pDIn, PV.pLenD, PV.keyD, PV.pSlScr, PV.pZipT, PV.pRngC, PV.pRngV, PV.pSt1, PV.pM0, PV.pZipS, PV.pM1, PV.pJoin, PV.pFmt, PV.pJoined, PV.pJs, PV.pBMV, PV.pCount, PV.pIndex, PV.pSetIx2, PV.pRetT, PV.pLcF, PV.mapL_inj, PV.pVar, PV.pC, PV.pOp, PV.pUn, PV.pII, PV.pII0, PV.pNeg, PV.pSS, PV.pSS0, PV.eqF_int, PV.eqF_str, PV.eqF_bool, PV.eqF_ni, PV.eqF_in, PV.eqF_nn, PV.eqF_si, PV.eqF_is, PV.eqF_sn, PV.eqF_ns, PV.pEq, PV.pEqD, PV.isN, PV.pIsN, PV.Tg.d, PV.Tg.it, PV.Tg.itD, PV.Tg.ok, PV.pCat, PV.pRep, PV.pCatT, PV.pIn, PV.pNil, PV.pCons, PV.Tg.items, PV.pStar, PV.allD, PV.allS, PV.pTup, PV.pLst, PV.pNoPart, PV.pPart, PV.pSlL, PV.pSlT, PV.pCB, PV.pLen, PV.pLenS, PV.pI1, PV.pI10, PV.pI2, PV.pInt1, PV.pBool1, PV.pS1, PV.pListOf, PV.pTupOf, PV.tyD, PV.pIsi, PV.bD, PV.pAndV, PV.pOrV, PV.pNotV, PV.pIfE, PV.pT, PV.pAnd, PV.pOr, PV.pNot, PV.truD, PV.pTru, PV.pNotT, PV.pChain, PV.pThree, PV.Rs.arg, PV.lend, PV.pCall, PV.pCall0, PV.pIt, PV.pItT, PV.pRg1, PV.pRg2, PV.pRg3, PV.pEnum, PV.pZip, PV.pRev, PV.pStr, PV.setR, PV.pName, PV.pTgt, PV.pTgts, PV.pTg, PV.pNext, PV.pBreak, PV.pCont, PV.pSeq, PV.pShr, PV.pShrI, PV.shI, PV.pFgt, PV.fgt, PV.pAsg, PV.pExpr, PV.Rs.ret, PV.pRet, PV.pRetN, PV.pIf, PV.pFld, PV.pAug, PV.pPar, PV.pBM, PV.pBM0, PV.pAppend, PV.pExtend, PV.pExtT, PV.pClear, PV.pReverse, PV.pSetIx, PV.pFor, PV.wipeG, PV.pLc, PV.gG, PV.pGen, PV.pYes, PV.pSum, PV.pRaise, PV.pRaise1, PV.slA, PV.startG, PV.ends, PV.pRevL, PV.pSlS, PV.pSign, PV.pProp, PV.pMake, PV.pMake0, PV.pTry, PV.pRetD, PV.Rs.asD, PV.sg, PV.Sl.r, PV.dV, PV.flatD, PV.owns, PV.ownsOf_no, PV.ownsOf_dat, PV.ownsOf_obj, PV.ownsOf_own, PV.ownsOf_tab, PV.shr, PV.Sl.sh, PV.intsOf_map, PV.intsOf_app, PV.intsOf_nil, PV.intsOf_int, PV.isInts_map, PV.isInts_nil, PV.isInts_int, PV.isInts_mapL, PV.scr_key, PV.isiQ_s, PV.kit_int_int, PV.kit_int_bool, PV.kit_int_str, PV.kit_int_list, PV.kit_int_tuple, PV.kit_bool_int, PV.kit_bool_bool, PV.kit_bool_str, PV.kit_bool_list, PV.kit_bool_tuple, PV.kit_str_int, PV.kit_str_bool, PV.kit_str_str, PV.kit_str_list, PV.kit_str_tuple, PV.kit_list_int, PV.kit_list_bool, PV.kit_list_str, PV.kit_list_list, PV.kit_list_tuple, PV.kit_tuple_int, PV.kit_tuple_bool, PV.kit_tuple_str, PV.kit_tuple_list, PV.kit_tuple_tuple, PV.kit_NoneType_int, PV.kit_NoneType_bool, PV.kit_NoneType_str, PV.kit_NoneType_list, PV.kit_NoneType_tuple, PV.cutD_map, PV.allD_map, PV.allD_mapA, PV.allS_map, PV.allS_mapA, List.getElem?_cons_zero, List.getElem?_cons_succ, List.getElem?_nil, List.set_cons_zero, List.set_cons_succ, List.map_cons, List.map_nil, List.cons_append, List.nil_append, List.append_nil, List.length_cons, List.length_nil, List.length_map, List.length_append, List.length_replicate, PV.flat_rep, Nat.mul_one, Nat.one_mul, PV.rep_none, List.replicate_zero, List.all_cons, List.all_nil, cond_true, cond_false, Bool.and_true, Bool.true_and, Bool.and_false, Bool.false_and, Bool.not_true, Bool.not_false, Bool.not_not, if_true, if_false, ite_true, ite_false, true_and, and_true, true_implies, false_implies, reduceCtorEq, Nat.reduceAdd, Nat.reduceSub, Nat.reduceLT, Nat.reduceLeDiff, Bool.false_eq_true, decide_eq_true_eq, decide_eq_false_iff_not, Bool.not_eq_true, Bool.not_eq_false, Bool.not_eq_true', Bool.not_eq_false', Bool.true_eq_false, Option.map_some, Option.map_none, decide_true, decide_false, not_true_eq_false, not_false_eq_true, implies_true, forall_const, eq_self, Nat.reduceEqDiff, beq_self_eq_true, ne_eq, Int.reduceEq, Int.reduceNe, Int.reduceLT, Int.reduceLE, Int.reduceGT, Int.reduceGE, Int.reduceToNat, Int.reduceAdd, Int.reduceNeg, Nat.reduceLT, Nat.reduceLeDiff, Nat.reduceAdd, Nat.reduceMul, false_and, and_false, and_self, true_and, and_true, false_implies, PV.at0, PV.at1, PV.at2, PV.at3, PV.at4, PV.at5, Option.some.injEq, exists_eq_left', exists_eq_left, s_ad]
        done
      rintro _ rfl
      simp only [PV.pDivMod, PV.ownsOf_dic, PV.pDNew, PV.pDPut, PV.pDGet2, PV.pDGet, PV.pDIn, PV.pLenD, PV.keyD, PV.pSlScr, PV.pZipT, PV.pRngC, PV.pRngV, PV.pSt1, PV.pM0, PV.pZipS, PV.pM1, PV.pJoin, PV.pFmt, PV.pJoined, PV.pJs, PV.pBMV, PV.pCount, PV.pIndex, PV.pSetIx2, PV.pRetT, PV.pLcF, PV.mapL_inj, PV.pVar, PV.pC, PV.pOp, PV.pUn, PV.pII, PV.pII0, PV.pNeg, PV.pSS, PV.pSS0, PV.eqF_int, PV.eqF_str, PV.eqF_bool, PV.eqF_ni, PV.eqF_in, PV.eqF_nn, PV.eqF_si, PV.eqF_is, PV.eqF_sn, PV.eqF_ns, PV.pEq, PV.pEqD, PV.isN, PV.pIsN, PV.Tg.d, PV.Tg.it, PV.Tg.itD, PV.Tg.ok, PV.pCat, PV.pRep, PV.pCatT, PV.pIn, PV.pNil, PV.pCons, PV.Tg.items, PV.pStar, PV.allD, PV.allS, PV.pTup, PV.pLst, PV.pNoPart, PV.pPart, PV.pSlL, PV.pSlT, PV.pCB, PV.pLen, PV.pLenS, PV.pI1, PV.pI10, PV.pI2, PV.pInt1, PV.pBool1, PV.pS1, PV.pListOf, PV.pTupOf, PV.tyD, PV.pIsi, PV.bD, PV.pAndV, PV.pOrV, PV.pNotV, PV.pIfE, PV.pT, PV.pAnd, PV.pOr, PV.pNot, PV.truD, PV.pTru, PV.pNotT, PV.pChain, PV.pThree, PV.Rs.arg, PV.lend, PV.pCall, PV.pCall0, PV.pIt, PV.pItT, PV.pRg1, PV.pRg2, PV.pRg3, PV.pEnum, PV.pZip, PV.pRev, PV.pStr, PV.setR, PV.pName, PV.pTgt, PV.pTgts, PV.pTg, PV.pNext, PV.pBreak, PV.pCont, PV.pSeq, PV.pShr, PV.pShrI, PV.shI, PV.pFgt, PV.fgt, PV.pAsg, PV.pExpr, PV.Rs.ret, PV.pRet, PV.pRetN, PV.pIf, PV.pFld, PV.pAug, PV.pPar, PV.pBM, PV.pBM0, PV.pAppend, PV.pExtend, PV.pExtT, PV.pClear, PV.pReverse, PV.pSetIx, PV.pFor, PV.wipeG, PV.pLc, PV.gG, PV.pGen, PV.pYes, PV.pSum, PV.pRaise, PV.pRaise1, PV.slA, PV.startG, PV.ends, PV.pRevL, PV.pSlS, PV.pSign, PV.pProp, PV.pMake, PV.pMake0, PV.pTry, PV.pRetD, PV.Rs.asD, PV.sg, PV.Sl.r, PV.dV, PV.flatD, PV.owns, PV.ownsOf_no, PV.ownsOf_dat, PV.ownsOf_obj, PV.ownsOf_own, PV.ownsOf_tab, PV.shr, PV.Sl.sh, PV.intsOf_map, PV.intsOf_app, PV.intsOf_nil, PV.intsOf_int, PV.isInts_map, PV.isInts_nil, PV.isInts_int, PV.isInts_mapL, PV.scr_key, PV.isiQ_s, PV.kit_int_int, PV.kit_int_bool, PV.kit_int_str, PV.kit_int_list, PV.kit_int_tuple, PV.kit_bool_int, PV.kit_bool_bool, PV.kit_bool_str, PV.kit_bool_list, PV.kit_bool_tuple, PV.kit_str_int, PV.kit_str_bool, PV.kit_str_str, PV.kit_str_list, PV.kit_str_tuple, PV.kit_list_int, PV.kit_list_bool, PV.kit_list_str, PV.kit_list_list, PV.kit_list_tuple, PV.kit_tuple_int, PV.kit_tuple_bool, PV.kit_tuple_str, PV.kit_tuple_list, PV.kit_tuple_tuple, PV.kit_NoneType_int, PV.kit_NoneType_bool, PV.kit_NoneType_str, PV.kit_NoneType_list, PV.kit_NoneType_tuple, PV.cutD_map, PV.allD_map, PV.allD_mapA, PV.allS_map, PV.allS_mapA, List.getElem?_cons_zero, List.getElem?_cons_succ, List.getElem?_nil, List.set_cons_zero, List.set_cons_succ, List.map_cons, List.map_nil, List.cons_append, List.nil_append, List.append_nil, List.length_cons, List.length_nil, List.length_map, List.length_append, List.length_replicate, PV.flat_rep, Nat.mul_one, Nat.one_mul, PV.rep_none, List.replicate_zero, List.all_cons, List.all_nil, cond_true, cond_false, Bool.and_true, Bool.true_and, Bool.and_false, Bool.false_and, Bool.not_true, Bool.not_false, Bool.not_not, if_true, if_false, ite_true, ite_false, true_and, and_true, true_implies, false_implies, reduceCtorEq, Nat.reduceAdd, Nat.reduceSub, Nat.reduceLT, Nat.reduceLeDiff, Bool.false_eq_true, decide_eq_true_eq, decide_eq_false_iff_not, Bool.not_eq_true, Bool.not_eq_false, Bool.not_eq_true', Bool.not_eq_false', Bool.true_eq_false, Option.map_some, Option.map_none, decide_true, decide_false, not_true_eq_false, not_false_eq_true, implies_true, forall_const, eq_self, Nat.reduceEqDiff, beq_self_eq_true, ne_eq, Int.reduceEq, Int.reduceNe, Int.reduceLT, Int.reduceLE, Int.reduceGT, Int.reduceGE, Int.reduceToNat, Int.reduceAdd, Int.reduceNeg, Nat.reduceLT, Nat.reduceLeDiff, Nat.reduceAdd, Nat.reduceMul, false_and, and_false, and_self, true_and, and_true, false_implies, PV.at0, PV.at1, PV.at2, PV.at3, PV.at4, PV.at5, Option.some.injEq, exists_eq_left', exists_eq_left, s_ad]
      exact nx _ ⟨none, _, _, ⟨rfl, rfl, rfl⟩, by rw [hc, hc1, Int.natCast_add]⟩
  rintro _ ⟨o3, o6, o7, _, rfl⟩
  simp only [PV.pDivMod, PV.ownsOf_dic, PV.pDNew, PV.pDPut, PV.pDGet2, PV.pDGet, PV.pDIn, PV.pLenD, PV.keyD, PV.pSlScr, PV.pZipT, PV.pRngC, PV.pRngV, PV.pSt1, PV.pM0, PV.pZipS, PV.pM1, PV.pJoin, PV.pFmt, PV.pJoined, PV.pJs, PV.pBMV, PV.pCount, PV.pIndex, PV.pSetIx2, PV.pRetT, PV.pLcF, PV.mapL_inj, PV.pVar, PV.pC, PV.pOp, PV.pUn, PV.pII, PV.pII0, PV.pNeg, PV.pSS, PV.pSS0, PV.eqF_int, PV.eqF_str, PV.eqF_bool, PV.eqF_ni, PV.eqF_in, PV.eqF_nn, PV.eqF_si, PV.eqF_is, PV.eqF_sn, PV.eqF_ns, PV.pEq, PV.pEqD, PV.isN, PV.pIsN, PV.Tg.d, PV.Tg.it, PV.Tg.itD, PV.Tg.ok, PV.pCat, PV.pRep, PV.pCatT, PV.pIn, PV.pNil, PV.pCons, PV.Tg.items, PV.pStar, PV.allD, PV.allS, PV.pTup, PV.pLst, PV.pNoPart, PV.pPart, PV.pSlL, PV.pSlT, PV.pCB, PV.pLen, PV.pLenS, PV.pI1, PV.pI10, PV.pI2, PV.pInt1, PV.pBool1, PV.pS1, PV.pListOf, PV.pTupOf, PV.tyD, PV.pIsi, PV.bD, PV.pAndV, PV.pOrV, PV.pNotV, PV.pIfE, PV.pT, PV.pAnd, PV.pOr, PV.pNot, PV.truD, PV.pTru, PV.pNotT, PV.pChain, PV.pThree, PV.Rs.arg, PV.lend, PV.pCall, PV.pCall0, PV.pIt, PV.pItT, PV.pRg1, PV.pRg2, PV.pRg3, PV.pEnum, PV.pZip, PV.pRev, PV.pStr, PV.setR, PV.pName, PV.pTgt, PV.pTgts, PV.pTg, PV.pNext, PV.pBreak, PV.pCont, PV.pSeq, PV.pShr, PV.pShrI, PV.shI, PV.pFgt, PV.fgt, PV.pAsg, PV.pExpr, PV.Rs.ret, PV.pRet, PV.pRetN, PV.pIf, PV.pFld, PV.pAug, PV.pPar, PV.pBM, PV.pBM0, PV.pAppend, PV.pExtend, PV.pExtT, PV.pClear, PV.pReverse, PV.pSetIx, PV.pFor, PV.wipeG, PV.pLc, PV.gG, PV.pGen, PV.pYes, PV.pSum, PV.pRaise, PV.pRaise1, PV.slA, PV.startG, PV.ends, PV.pRevL, PV.pSlS, PV.pSign, PV.pProp, PV.pMake, PV.pMake0, PV.pTry, PV.pRetD, PV.Rs.asD, PV.sg, PV.Sl.r, PV.dV, PV.flatD, PV.owns, PV.ownsOf_no, PV.ownsOf_dat, PV.ownsOf_obj, PV.ownsOf_own, PV.ownsOf_tab, PV.shr, PV.Sl.sh, PV.intsOf_map, PV.intsOf_app, PV.intsOf_nil, PV.intsOf_int, PV.isInts_map, PV.isInts_nil, PV.isInts_int, PV.isInts_mapL, PV.scr_key, PV.isiQ_s, PV.kit_int_int, PV.kit_int_bool, PV.kit_int_str, PV.kit_int_list, PV.kit_int_tuple, PV.kit_bool_int, PV.kit_bool_bool, PV.kit_bool_str, PV.kit_bool_list, PV.kit_bool_tuple, PV.kit_str_int, PV.kit_str_bool, PV.kit_str_str, PV.kit_str_list, PV.kit_str_tuple, PV.kit_list_int, PV.kit_list_bool, PV.kit_list_str, PV.kit_list_list, PV.kit_list_tuple, PV.kit_tuple_int, PV.kit_tuple_bool, PV.kit_tuple_str, PV.kit_tuple_list, PV.kit_tuple_tuple, PV.kit_NoneType_int, PV.kit_NoneType_bool, PV.kit_NoneType_str, PV.kit_NoneType_list, PV.kit_NoneType_tuple, PV.cutD_map, PV.allD_map, PV.allD_mapA, PV.allS_map, PV.allS_mapA, List.getElem?_cons_zero, List.getElem?_cons_succ, List.getElem?_nil, List.set_cons_zero, List.set_cons_succ, List.map_cons, List.map_nil, List.cons_append, List.nil_append, List.append_nil, List.length_cons, List.length_nil, List.length_map, List.length_append, List.length_replicate, PV.flat_rep, Nat.mul_one, Nat.one_mul, PV.rep_none, List.replicate_zero, List.all_cons, List.all_nil, cond_true, cond_false, Bool.and_true, Bool.true_and, Bool.and_false, Bool.false_and, Bool.not_true, Bool.not_false, Bool.not_not, if_true, if_false, ite_true, ite_false, true_and, and_true, true_implies, false_implies, reduceCtorEq, Nat.reduceAdd, Nat.reduceSub, Nat.reduceLT, Nat.reduceLeDiff, Bool.false_eq_true, decide_eq_true_eq, decide_eq_false_iff_not, Bool.not_eq_true, Bool.not_eq_false, Bool.not_eq_true', Bool.not_eq_false', Bool.true_eq_false, Option.map_some, Option.map_none, decide_true, decide_false, not_true_eq_false, not_false_eq_true, implies_true, forall_const, eq_self, Nat.reduceEqDiff, beq_self_eq_true, ne_eq, Int.reduceEq, Int.reduceNe, Int.reduceLT, Int.reduceLE, Int.reduceGT, Int.reduceGE, Int.reduceToNat, Int.reduceAdd, Int.reduceNeg, Nat.reduceLT, Nat.reduceLeDiff, Nat.reduceAdd, Nat.reduceMul, false_and, and_false, and_self, true_and, and_true, false_implies, PV.at0, PV.at1, PV.at2, PV.at3, PV.at4, PV.at5, Option.some.injEq, exists_eq_left', exists_eq_left, pCommon, pDiff]
  refine ⟨by omega, by omega, .inl ⟨by decide, by decide⟩, fun _ => ⟨by omega, by omega, ?_⟩, fun z => absurd (by omega) z⟩
  rintro ss2 rfl ⟨_, _, _⟩ _ _ _
  rw [← hss]
  exact ⟨shs, shs, by rw [ses]; trivial⟩

end
theorem law_mk {P : Program} {w : World} {K : PySem.W.Frag} {mg : Str → Option Value} {C_fa : Addr} (T : Txt K mg) (hfa : mg "law" = some (.ref C_fa)) : ∃ fd : FuncData, (∀ (s : Shared) (v : Value), BindsTo s fd ⟨[v], []⟩ [("script", v)]) ∧ ∀ base : Heap, K.In base → base.Ns mainGlobals mg → FnOk P w K mg base CX0 5 C_fa fd ["script"] (PV.spLaw K) := by
  obtain ⟨f, fd, F, g, b⟩ := id T.d_law
  have e := hfa.symm.trans g
  cases e
  refine ⟨fd, fun s v => ?_, fun base _ _ => ?_⟩
  · obtain ⟨oc, od, kV, doc, pm, an, cdv, ct, osl, rfl, lk, hcd⟩ := F.ex
    exact .of_eq rfl
  · exact ok_law0 T _ fd F
theorem law_end {P : Program} {w : World} {K : PySem.W.Frag} {h : Heap} {mg : Str → Option Value} {fa : Addr} {f_normalized : Addr} {oc_normalized kV_normalized dc_normalized pm_normalized cd_normalized ct_normalized : Value} {od_normalized an_normalized : Option Addr} {sl_normalized : Array (Option Value)} {f__steps : Addr} {oc__steps kV__steps dc__steps pm__steps cd__steps ct__steps : Value} {od__steps an__steps : Option Addr} {sl__steps : Array (Option Value)} {f_diff : Addr} {oc_diff kV_diff dc_diff pm_diff cd_diff ct_diff : Value} {od_diff an_diff : Option Addr} {sl_diff : Array (Option Value)} {f__equal_items : Addr} {oc__equal_items kV__equal_items dc__equal_items pm__equal_items cd__equal_items ct__equal_items : Value} {od__equal_items an__equal_items : Option Addr} {sl__equal_items : Array (Option Value)} {f__changes : Addr} {oc__changes kV__changes dc__changes pm__changes cd__changes ct__changes : Value} {od__changes an__changes : Option Addr} {sl__changes : Array (Option Value)} {f__is_gain : Addr} {oc__is_gain kV__is_gain dc__is_gain pm__is_gain cd__is_gain ct__is_gain : Value} {od__is_gain an__is_gain : Option Addr} {sl__is_gain : Array (Option Value)} {f__gain_blocks : Addr} {oc__gain_blocks kV__gain_blocks dc__gain_blocks pm__gain_blocks cd__gain_blocks ct__gain_blocks : Value} {od__gain_blocks an__gain_blocks : Option Addr} {sl__gain_blocks : Array (Option Value)} {f__gain_rows : Addr} {oc__gain_rows kV__gain_rows dc__gain_rows pm__gain_rows cd__gain_rows ct__gain_rows : Value} {od__gain_rows an__gain_rows : Option Addr} {sl__gain_rows : Array (Option Value)} {f__law_cell : Addr} {oc__law_cell kV__law_cell dc__law_cell pm__law_cell cd__law_cell ct__law_cell : Value} {od__law_cell an__law_cell : Option Addr} {sl__law_cell : Array (Option Value)} {f__law_mix : Addr} {oc__law_mix kV__law_mix dc__law_mix pm__law_mix cd__law_mix ct__law_mix : Value} {od__law_mix an__law_mix : Option Addr} {sl__law_mix : Array (Option Value)} {f__law_row : Addr} {oc__law_row kV__law_row dc__law_row pm__law_row cd__law_row ct__law_row : Value} {od__law_row an__law_row : Option Addr} {sl__law_row : Array (Option Value)} {f__law_is_int : Addr} {oc__law_is_int kV__law_is_int dc__law_is_int pm__law_is_int cd__law_is_int ct__law_is_int : Value} {od__law_is_int an__law_is_int : Option Addr} {sl__law_is_int : Array (Option Value)} {f__law_items : Addr} {oc__law_items kV__law_items dc__law_items pm__law_items cd__law_items ct__law_items : Value} {od__law_items an__law_items : Option Addr} {sl__law_items : Array (Option Value)} {f__law_script : Addr} {oc__law_script kV__law_script dc__law_script pm__law_script cd__law_script ct__law_script : Value} {od__law_script an__law_script : Option Addr} {sl__law_script : Array (Option Value)} {f__law_patch : Addr} {oc__law_patch kV__law_patch dc__law_patch pm__law_patch cd__law_patch ct__law_patch : Value} {od__law_patch an__law_patch : Option Addr} {sl__law_patch : Array (Option Value)} {f__law_is_normal : Addr} {oc__law_is_normal kV__law_is_normal dc__law_is_normal pm__law_is_normal cd__law_is_normal ct__law_is_normal : Value} {od__law_is_normal an__law_is_normal : Option Addr} {sl__law_is_normal : Array (Option Value)} {f__law_common : Addr} {oc__law_common kV__law_common dc__law_common pm__law_common cd__law_common ct__law_common : Value} {od__law_common an__law_common : Option Addr} {sl__law_common : Array (Option Value)} {f_law : Addr} {oc_law kV_law dc_law pm_law cd_law ct_law : Value} {od_law an_law : Option Addr} {sl_law : Array (Option Value)} {t_BLOCK : Tok} (X : K.In h) (G : h.Ns mainGlobals mg) (hfa : mg "law" = some (.ref fa))
    (a_normalized : PySem.W.nsIn K mainGlobals "normalized" = some (some (.ref f_normalized)))
    (l_normalized : K.lookup f_normalized = some ⟨oc_normalized, od_normalized, .func (PySem.W.fnOf "normalized" "normalized" (defArgs s_normalized) (defBody s_normalized) (defScope s_normalized) .none kV_normalized dc_normalized pm_normalized an_normalized cd_normalized ct_normalized), sl_normalized⟩)
    (c_normalized : PySem.W.codeIn K cd_normalized "normalized" = true)
    (k_normalized : PySem.W.keepIn K (.ref f_normalized) = true)
    (a__steps : PySem.W.nsIn K mainGlobals "_steps" = some (some (.ref f__steps)))
    (l__steps : K.lookup f__steps = some ⟨oc__steps, od__steps, .func (PySem.W.fnOf "_steps" "_steps" (defArgs s__steps) (defBody s__steps) (defScope s__steps) .none kV__steps dc__steps pm__steps an__steps cd__steps ct__steps), sl__steps⟩)
    (c__steps : PySem.W.codeIn K cd__steps "_steps" = true)
    (k__steps : PySem.W.keepIn K (.ref f__steps) = true)
    (a_diff : PySem.W.nsIn K mainGlobals "diff" = some (some (.ref f_diff)))
    (l_diff : K.lookup f_diff = some ⟨oc_diff, od_diff, .func (PySem.W.fnOf "diff" "diff" (defArgs s_diff) (defBody s_diff) (defScope s_diff) .none kV_diff dc_diff pm_diff an_diff cd_diff ct_diff), sl_diff⟩)
    (c_diff : PySem.W.codeIn K cd_diff "diff" = true)
    (k_diff : PySem.W.keepIn K (.ref f_diff) = true)
    (a__equal_items : PySem.W.nsIn K mainGlobals "_equal_items" = some (some (.ref f__equal_items)))
    (l__equal_items : K.lookup f__equal_items = some ⟨oc__equal_items, od__equal_items, .func (PySem.W.fnOf "_equal_items" "_equal_items" (defArgs s__equal_items) (defBody s__equal_items) (defScope s__equal_items) .none kV__equal_items dc__equal_items pm__equal_items an__equal_items cd__equal_items ct__equal_items), sl__equal_items⟩)
    (c__equal_items : PySem.W.codeIn K cd__equal_items "_equal_items" = true)
    (k__equal_items : PySem.W.keepIn K (.ref f__equal_items) = true)
    (a__changes : PySem.W.nsIn K mainGlobals "_changes" = some (some (.ref f__changes)))
    (l__changes : K.lookup f__changes = some ⟨oc__changes, od__changes, .func (PySem.W.fnOf "_changes" "_changes" (defArgs s__changes) (defBody s__changes) (defScope s__changes) .none kV__changes dc__changes pm__changes an__changes cd__changes ct__changes), sl__changes⟩)
    (c__changes : PySem.W.codeIn K cd__changes "_changes" = true)
    (k__changes : PySem.W.keepIn K (.ref f__changes) = true)
    (a__is_gain : PySem.W.nsIn K mainGlobals "_is_gain" = some (some (.ref f__is_gain)))
    (l__is_gain : K.lookup f__is_gain = some ⟨oc__is_gain, od__is_gain, .func (PySem.W.fnOf "_is_gain" "_is_gain" (defArgs s__is_gain) (defBody s__is_gain) (defScope s__is_gain) .none kV__is_gain dc__is_gain pm__is_gain an__is_gain cd__is_gain ct__is_gain), sl__is_gain⟩)
    (c__is_gain : PySem.W.codeIn K cd__is_gain "_is_gain" = true)
    (k__is_gain : PySem.W.keepIn K (.ref f__is_gain) = true)
    (a__gain_blocks : PySem.W.nsIn K mainGlobals "_gain_blocks" = some (some (.ref f__gain_blocks)))
    (l__gain_blocks : K.lookup f__gain_blocks = some ⟨oc__gain_blocks, od__gain_blocks, .func (PySem.W.fnOf "_gain_blocks" "_gain_blocks" (defArgs s__gain_blocks) (defBody s__gain_blocks) (defScope s__gain_blocks) .none kV__gain_blocks dc__gain_blocks pm__gain_blocks an__gain_blocks cd__gain_blocks ct__gain_blocks), sl__gain_blocks⟩)
    (c__gain_blocks : PySem.W.codeIn K cd__gain_blocks "_gain_blocks" = true)
    (k__gain_blocks : PySem.W.keepIn K (.ref f__gain_blocks) = true)
    (a__gain_rows : PySem.W.nsIn K mainGlobals "_gain_rows" = some (some (.ref f__gain_rows)))
    (l__gain_rows : K.lookup f__gain_rows = some ⟨oc__gain_rows, od__gain_rows, .func (PySem.W.fnOf "_gain_rows" "_gain_rows" (defArgs s__gain_rows) (defBody s__gain_rows) (defScope s__gain_rows) .none kV__gain_rows dc__gain_rows pm__gain_rows an__gain_rows cd__gain_rows ct__gain_rows), sl__gain_rows⟩)
    (c__gain_rows : PySem.W.codeIn K cd__gain_rows "_gain_rows" = true)
    (k__gain_rows : PySem.W.keepIn K (.ref f__gain_rows) = true)
    (a__law_cell : PySem.W.nsIn K mainGlobals "_law_cell" = some (some (.ref f__law_cell)))
    (l__law_cell : K.lookup f__law_cell = some ⟨oc__law_cell, od__law_cell, .func (PySem.W.fnOf "_law_cell" "_law_cell" (defArgs s__law_cell) (defBody s__law_cell) (defScope s__law_cell) .none kV__law_cell dc__law_cell pm__law_cell an__law_cell cd__law_cell ct__law_cell), sl__law_cell⟩)
    (c__law_cell : PySem.W.codeIn K cd__law_cell "_law_cell" = true)
    (k__law_cell : PySem.W.keepIn K (.ref f__law_cell) = true)
    (a__law_mix : PySem.W.nsIn K mainGlobals "_law_mix" = some (some (.ref f__law_mix)))
    (l__law_mix : K.lookup f__law_mix = some ⟨oc__law_mix, od__law_mix, .func (PySem.W.fnOf "_law_mix" "_law_mix" (defArgs s__law_mix) (defBody s__law_mix) (defScope s__law_mix) .none kV__law_mix dc__law_mix pm__law_mix an__law_mix cd__law_mix ct__law_mix), sl__law_mix⟩)
    (c__law_mix : PySem.W.codeIn K cd__law_mix "_law_mix" = true)
    (k__law_mix : PySem.W.keepIn K (.ref f__law_mix) = true)
    (a__law_row : PySem.W.nsIn K mainGlobals "_law_row" = some (some (.ref f__law_row)))
    (l__law_row : K.lookup f__law_row = some ⟨oc__law_row, od__law_row, .func (PySem.W.fnOf "_law_row" "_law_row" (defArgs s__law_row) (defBody s__law_row) (defScope s__law_row) .none kV__law_row dc__law_row pm__law_row an__law_row cd__law_row ct__law_row), sl__law_row⟩)
    (c__law_row : PySem.W.codeIn K cd__law_row "_law_row" = true)
    (k__law_row : PySem.W.keepIn K (.ref f__law_row) = true)
    (a__law_is_int : PySem.W.nsIn K mainGlobals "_law_is_int" = some (some (.ref f__law_is_int)))
    (l__law_is_int : K.lookup f__law_is_int = some ⟨oc__law_is_int, od__law_is_int, .func (PySem.W.fnOf "_law_is_int" "_law_is_int" (defArgs s__law_is_int) (defBody s__law_is_int) (defScope s__law_is_int) .none kV__law_is_int dc__law_is_int pm__law_is_int an__law_is_int cd__law_is_int ct__law_is_int), sl__law_is_int⟩)
    (c__law_is_int : PySem.W.codeIn K cd__law_is_int "_law_is_int" = true)
    (k__law_is_int : PySem.W.keepIn K (.ref f__law_is_int) = true)
    (a__law_items : PySem.W.nsIn K mainGlobals "_law_items" = some (some (.ref f__law_items)))
    (l__law_items : K.lookup f__law_items = some ⟨oc__law_items, od__law_items, .func (PySem.W.fnOf "_law_items" "_law_items" (defArgs s__law_items) (defBody s__law_items) (defScope s__law_items) .none kV__law_items dc__law_items pm__law_items an__law_items cd__law_items ct__law_items), sl__law_items⟩)
    (c__law_items : PySem.W.codeIn K cd__law_items "_law_items" = true)
    (k__law_items : PySem.W.keepIn K (.ref f__law_items) = true)
    (a__law_script : PySem.W.nsIn K mainGlobals "_law_script" = some (some (.ref f__law_script)))
    (l__law_script : K.lookup f__law_script = some ⟨oc__law_script, od__law_script, .func (PySem.W.fnOf "_law_script" "_law_script" (defArgs s__law_script) (defBody s__law_script) (defScope s__law_script) .none kV__law_script dc__law_script pm__law_script an__law_script cd__law_script ct__law_script), sl__law_script⟩)
    (c__law_script : PySem.W.codeIn K cd__law_script "_law_script" = true)
    (k__law_script : PySem.W.keepIn K (.ref f__law_script) = true)
    (a__law_patch : PySem.W.nsIn K mainGlobals "_law_patch" = some (some (.ref f__law_patch)))
    (l__law_patch : K.lookup f__law_patch = some ⟨oc__law_patch, od__law_patch, .func (PySem.W.fnOf "_law_patch" "_law_patch" (defArgs s__law_patch) (defBody s__law_patch) (defScope s__law_patch) .none kV__law_patch dc__law_patch pm__law_patch an__law_patch cd__law_patch ct__law_patch), sl__law_patch⟩)
    (c__law_patch : PySem.W.codeIn K cd__law_patch "_law_patch" = true)
    (k__law_patch : PySem.W.keepIn K (.ref f__law_patch) = true)
    (a__law_is_normal : PySem.W.nsIn K mainGlobals "_law_is_normal" = some (some (.ref f__law_is_normal)))
    (l__law_is_normal : K.lookup f__law_is_normal = some ⟨oc__law_is_normal, od__law_is_normal, .func (PySem.W.fnOf "_law_is_normal" "_law_is_normal" (defArgs s__law_is_normal) (defBody s__law_is_normal) (defScope s__law_is_normal) .none kV__law_is_normal dc__law_is_normal pm__law_is_normal an__law_is_normal cd__law_is_normal ct__law_is_normal), sl__law_is_normal⟩)
    (c__law_is_normal : PySem.W.codeIn K cd__law_is_normal "_law_is_normal" = true)
    (k__law_is_normal : PySem.W.keepIn K (.ref f__law_is_normal) = true)
    (a__law_common : PySem.W.nsIn K mainGlobals "_law_common" = some (some (.ref f__law_common)))
    (l__law_common : K.lookup f__law_common = some ⟨oc__law_common, od__law_common, .func (PySem.W.fnOf "_law_common" "_law_common" (defArgs s__law_common) (defBody s__law_common) (defScope s__law_common) .none kV__law_common dc__law_common pm__law_common an__law_common cd__law_common ct__law_common), sl__law_common⟩)
    (c__law_common : PySem.W.codeIn K cd__law_common "_law_common" = true)
    (k__law_common : PySem.W.keepIn K (.ref f__law_common) = true)
    (a_law : PySem.W.nsIn K mainGlobals "law" = some (some (.ref f_law)))
    (l_law : K.lookup f_law = some ⟨oc_law, od_law, .func (PySem.W.fnOf "law" "law" (defArgs s_law) (defBody s_law) (defScope s_law) .none kV_law dc_law pm_law an_law cd_law ct_law), sl_law⟩)
    (c_law : PySem.W.codeIn K cd_law "law" = true)
    (k_law : PySem.W.keepIn K (.ref f_law) = true)
    (a_BLOCK : PySem.W.nsIn K mainGlobals "BLOCK" = some (some (.int 1024 t_BLOCK)))
    (z_tuple : PySem.W.nsIn K mainGlobals "tuple" = some none)
    (z_len : PySem.W.nsIn K mainGlobals "len" = some none)
    (z_zip : PySem.W.nsIn K mainGlobals "zip" = some none)
    (z_divmod : PySem.W.nsIn K mainGlobals "divmod" = some none)
    (z_range : PySem.W.nsIn K mainGlobals "range" = some none)
    (z_enumerate : PySem.W.nsIn K mainGlobals "enumerate" = some none)
    (z_int : PySem.W.nsIn K mainGlobals "int" = some none)
    (z_abs : PySem.W.nsIn K mainGlobals "abs" = some none)
    (z_isinstance : PySem.W.nsIn K mainGlobals "isinstance" = some none)
    (z_bool : PySem.W.nsIn K mainGlobals "bool" = some none)
    (z_min : PySem.W.nsIn K mainGlobals "min" = some none)
    (z_list : PySem.W.nsIn K mainGlobals "list" = some none)
    (z_max : PySem.W.nsIn K mainGlobals "max" = some none)
    : ∃ fd : FuncData, (∀ (s : Shared) (v : Value), BindsTo s fd ⟨[v], []⟩ [("script", v)]) ∧ ∀ base : Heap, K.In base → base.Ns mainGlobals mg → FnOk P w K mg base CX0 5 fa fd ["script"] (PV.spLaw K) :=
  law_mk (T := ⟨dn_mk X G a_normalized l_normalized c_normalized k_normalized (fun _ _ _ _ _ _ us hl => match us, hl with | [_], _ => rfl),
    dn_mk X G a__steps l__steps c__steps k__steps (fun _ _ _ _ _ _ us hl => match us, hl with | [_, _, _], _ => rfl),
    dn_mk X G a_diff l_diff c_diff k_diff (fun _ _ _ _ _ _ us hl => match us, hl with | [_, _], _ => rfl),
    dn_mk X G a__equal_items l__equal_items c__equal_items k__equal_items (fun _ _ _ _ _ _ us hl => match us, hl with | [_, _], _ => rfl),
    dn_mk X G a__changes l__changes c__changes k__changes (fun _ _ _ _ _ _ us hl => match us, hl with | [_, _], _ => rfl),
    dn_mk X G a__is_gain l__is_gain c__is_gain k__is_gain (fun _ _ _ _ _ _ us hl => match us, hl with | [_, _, _], _ => rfl),
    dn_mk X G a__gain_blocks l__gain_blocks c__gain_blocks k__gain_blocks (fun _ _ _ _ _ _ us hl => match us, hl with | [_, _], _ => rfl),
    dn_mk X G a__gain_rows l__gain_rows c__gain_rows k__gain_rows (fun _ _ _ _ _ _ us hl => match us, hl with | [_, _, _], _ => rfl),
    dn_mk X G a__law_cell l__law_cell c__law_cell k__law_cell (fun _ _ _ _ _ _ us hl => match us, hl with | [_, _], _ => rfl),
    dn_mk X G a__law_mix l__law_mix c__law_mix k__law_mix (fun _ _ _ _ _ _ us hl => match us, hl with | [_, _], _ => rfl),
    dn_mk X G a__law_row l__law_row c__law_row k__law_row (fun _ _ _ _ _ _ us hl => match us, hl with | [_, _, _], _ => rfl),
    dn_mk X G a__law_is_int l__law_is_int c__law_is_int k__law_is_int (fun _ _ _ _ _ _ us hl => match us, hl with | [_], _ => rfl),
    dn_mk X G a__law_items l__law_items c__law_items k__law_items (fun _ _ _ _ _ _ us hl => match us, hl with | [_, _], _ => rfl),
    dn_mk X G a__law_script l__law_script c__law_script k__law_script (fun _ _ _ _ _ _ us hl => match us, hl with | [_, _], _ => rfl),
    dn_mk X G a__law_patch l__law_patch c__law_patch k__law_patch (fun _ _ _ _ _ _ us hl => match us, hl with | [_, _], _ => rfl),
    dn_mk X G a__law_is_normal l__law_is_normal c__law_is_normal k__law_is_normal (fun _ _ _ _ _ _ us hl => match us, hl with | [_], _ => rfl),
    dn_mk X G a__law_common l__law_common c__law_common k__law_common (fun _ _ _ _ _ _ us hl => match us, hl with | [_, _], _ => rfl),
    dn_mk X G a_law l_law c_law k_law (fun _ _ _ _ _ _ us hl => match us, hl with | [_], _ => rfl),
    cv_int X G a_BLOCK,
    PySem.W.mg_none_of X G z_tuple,
    PySem.W.mg_none_of X G z_len,
    PySem.W.mg_none_of X G z_zip,
    PySem.W.mg_none_of X G z_divmod,
    PySem.W.mg_none_of X G z_range,
    PySem.W.mg_none_of X G z_enumerate,
    PySem.W.mg_none_of X G z_int,
    PySem.W.mg_none_of X G z_abs,
    PySem.W.mg_none_of X G z_isinstance,
    PySem.W.mg_none_of X G z_bool,
    PySem.W.mg_none_of X G z_min,
    PySem.W.mg_none_of X G z_list,
    PySem.W.mg_none_of X G z_max⟩) hfa
theorem walk {l : PySem.W.OpenLaw} {q : Program} {loose : List Str} {XP : (Str → Option Value) → Heap → Prop} {YP : World → Heap → Prop} {d : DefRec} {K : Params → PySem.W.Frag} (hn : l.most = some 63) (hdf : d.params.defaults = [])
    (hY : ∀ (w : World) (h : Heap), YP w h → (K w.params).In h)
    (F : ∀ (w : World) (mg : Str → Option Value) (fa : Addr) (h : Heap), (K w.params).In h → h.Ns mainGlobals mg → mg d.name = some (.ref fa) →
      ∃ fd : FuncData, (∀ (s : Shared) (u : Value), BindsTo s fd ⟨[u], []⟩ [("script", u)]) ∧ ∀ base : Heap, (K w.params).In base → base.Ns mainGlobals mg → FnOk l.prog w (K w.params) mg base CX0 5 fa fd ["script"] (PV.spLaw (K w.params))) :
    PySem.W.WalkO q loose XP YP l.row.toRowW d [] (fun f vs => PySem.call f vs) :=
  L2.walk_of (n := 63) (k := 5) (x := "script") (CX := fun _ => CX0) (sp := fun w => PV.spLaw (K w.params)) hn (by decide) hdf ⟨rfl, by decide, by decide⟩ hY F (fun _ _ a ns hl _ hS => ⟨a, ns, rfl, hS, hl, fun _ => rfl⟩) fun _ _ _ _ _ z => z
end My
open PySem PySem.W PyProof.Rows in
set_option maxRecDepth 100000 in
set_option maxHeartbeats 0 in
theorem PySem.Challenge.cw_scanpages_k12_least_diff_holds : PySem.Challenge.rw_scanpages_k12_least_diff.Holds := by
  w_on; o_law; k_head; (case hw => w_witness2)
  k_fill
  refine My.walk (l := PySem.Challenge.rw_scanpages_k12_least_diff) rfl rfl (fun w h Y => PySem.W.kIn_of Y) ?F
  case F =>
    intro w mg fa h KX G hmg
    refine' My.law_end KX G hmg ?a_normalized ?l_normalized ?c_normalized ?k_normalized ?a__steps ?l__steps ?c__steps ?k__steps ?a_diff ?l_diff ?c_diff ?k_diff ?a__equal_items ?l__equal_items ?c__equal_items ?k__equal_items ?a__changes ?l__changes ?c__changes ?k__changes ?a__is_gain ?l__is_gain ?c__is_gain ?k__is_gain ?a__gain_blocks ?l__gain_blocks ?c__gain_blocks ?k__gain_blocks ?a__gain_rows ?l__gain_rows ?c__gain_rows ?k__gain_rows ?a__law_cell ?l__law_cell ?c__law_cell ?k__law_cell ?a__law_mix ?l__law_mix ?c__law_mix ?k__law_mix ?a__law_row ?l__law_row ?c__law_row ?k__law_row ?a__law_is_int ?l__law_is_int ?c__law_is_int ?k__law_is_int ?a__law_items ?l__law_items ?c__law_items ?k__law_items ?a__law_script ?l__law_script ?c__law_script ?k__law_script ?a__law_patch ?l__law_patch ?c__law_patch ?k__law_patch ?a__law_is_normal ?l__law_is_normal ?c__law_is_normal ?k__law_is_normal ?a__law_common ?l__law_common ?c__law_common ?k__law_common ?a_law ?l_law ?c_law ?k_law ?a_BLOCK ?z_tuple ?z_len ?z_zip ?z_divmod ?z_range ?z_enumerate ?z_int ?z_abs ?z_isinstance ?z_bool ?z_min ?z_list ?z_max
    (case a_normalized => k_is)
    (case l_normalized => k_is)
    (case c_normalized => k_is)
    (case k_normalized => k_is)
    (case a__steps => k_is)
    (case l__steps => k_is)
    (case c__steps => k_is)
    (case k__steps => k_is)
    (case a_diff => k_is)
    (case l_diff => k_is)
    (case c_diff => k_is)
    (case k_diff => k_is)
    (case a__equal_items => k_is)
    (case l__equal_items => k_is)
    (case c__equal_items => k_is)
    (case k__equal_items => k_is)
    (case a__changes => k_is)
    (case l__changes => k_is)
    (case c__changes => k_is)
    (case k__changes => k_is)
    (case a__is_gain => k_is)
    (case l__is_gain => k_is)
    (case c__is_gain => k_is)
    (case k__is_gain => k_is)
    (case a__gain_blocks => k_is)
    (case l__gain_blocks => k_is)
    (case c__gain_blocks => k_is)
    (case k__gain_blocks => k_is)
    (case a__gain_rows => k_is)
    (case l__gain_rows => k_is)
    (case c__gain_rows => k_is)
    (case k__gain_rows => k_is)
    (case a__law_cell => k_is)
    (case l__law_cell => k_is)
    (case c__law_cell => k_is)
    (case k__law_cell => k_is)
    (case a__law_mix => k_is)
    (case l__law_mix => k_is)
    (case c__law_mix => k_is)
    (case k__law_mix => k_is)
    (case a__law_row => k_is)
    (case l__law_row => k_is)
    (case c__law_row => k_is)
    (case k__law_row => k_is)
    (case a__law_is_int => k_is)
    (case l__law_is_int => k_is)
    (case c__law_is_int => k_is)
    (case k__law_is_int => k_is)
    (case a__law_items => k_is)
    (case l__law_items => k_is)
    (case c__law_items => k_is)
    (case k__law_items => k_is)
    (case a__law_script => k_is)
    (case l__law_script => k_is)
    (case c__law_script => k_is)
    (case k__law_script => k_is)
    (case a__law_patch => k_is)
    (case l__law_patch => k_is)
    (case c__law_patch => k_is)
    (case k__law_patch => k_is)
    (case a__law_is_normal => k_is)
    (case l__law_is_normal => k_is)
    (case c__law_is_normal => k_is)
    (case k__law_is_normal => k_is)
    (case a__law_common => k_is)
    (case l__law_common => k_is)
    (case c__law_common => k_is)
    (case k__law_common => k_is)
    (case a_law => k_is)
    (case l_law => k_is)
    (case c_law => k_is)
    (case k_law => k_is)
    (case a_BLOCK => k_is)
    (case z_tuple => k_is)
    (case z_len => k_is)
    (case z_zip => k_is)
    (case z_divmod => k_is)
    (case z_range => k_is)
    (case z_enumerate => k_is)
    (case z_int => k_is)
    (case z_abs => k_is)
    (case z_isinstance => k_is)
    (case z_bool => k_is)
    (case z_min => k_is)
    (case z_list => k_is)
    (case z_max => k_is)
#print axioms PySem.Challenge.cw_scanpages_k12_least_diff_holds
