import PyProof.Rows.All
import Wide.All
import OpenK.AllK
import Wide.FinOn
import HandS.ForMost
import HandS.ForExc
import HandS.ExcInit
import HandS.ExcField
import HandS.IsInst
import HandS.ClsMeth
import HandS.ForSpec
import HandS.ExcIs
import KE.KExcStr
import PyProof.ExcReprCall
import PyProof.ExcBaseAll.LookupError
import KE.GoesMore
import HandS.Style
import HandS.TupAny
import HandS.Zip
import HandS.MakeKwOnly
import KE.DataCmp
import HandS.CallSlots
import HandS.More
import HandS.Proxy
import PyProof.NeData
import HandS.SetFor
import PyProof.EqKinds
import PyProof.Rows.RuleB_bool
import HandS.SetBool
import HandS.SetKeys
import PyProof.SetRoads
import HandS.WideBits
import HandS.Text
import PyProof.ReprLen
import PyProof.Rows.ReprOcc
import PyProof.FitsReplace
import HandS.TupMul
import HandS.Evl
import HandS.NoneIn
import HandS.DictComp
import HandS.CallLocal
import HandS.Conv
import HandS.Star
import PyProof.StrOps2
import PySem.Challenge.RW_beatflows_k01_kinds_of_anything
set_option Elab.async false
set_option maxRecDepth 100000

/-! Own rules over the hand layer, for all laws of this program: calls by keywords alone, a base's __init__ by its class's name, several except clauses with names, repr of data. -/
namespace Bf
open PySem PySem.Spec PyProof.Rows L2

/-! ### f(k = v, ..) -/
section
variable {X : Cx} {CX : CXT} {k : Nat} {f : Addr} {fd : FuncData} {ps ks : List Str} {sp : Sp} {E : XK} {x : Str} {p pos : Pos} {kws : List Keyword} {tk : TA}
  {g : List Value → List Value → List Value} {gV : List V → List V → List V}
def tKw (sp : Sp) (gV : List V → List V → List V) (E : XK) (tk : TA) : TE := fun σ H Q => tk σ H fun zs H2 => sp (gV [] zs) H2 Q E
theorem pe_kw (F : FnOk X.prog X.w X.K X.mg X.base CX k f fd ps sp) (hr : Room k X.A) (hg : Gl X x) (hm : X.mg x = some (.ref f))
    (hk : PySem.W.keepIn X.K (.ref f) = true) (hb : KBinds X.K fd ps ks g gV) (hx : Passes CX X E) (hkw : PK X kws tk)
    (h1 : (backToKw pos (keywordEach kws X.env)).all (·.1.isSome) = true := by rfl)
    (h2 : (backToKw pos (keywordEach kws X.env)).filterMap (·.1) = ks := by rfl)
    (h3 : (x == ("__debug__" : Str)) = false := by decide)
    (h4 : ((backTo pos (starEach [] X.env)).any (·.1) || (backToKw pos (keywordEach kws X.env)).any (·.1.isNone)) = false := by rfl) :
    PE X (.Call (.Name x p) [] kws pos) (tKw sp gV E tk) := ⟨fun pins s σ H Q I h => by
  refine wpAny_Call_Name_kw (ld_glob I hg hm (PySem.W.callWith_KW0 (h₀ := X.base) I.ok.mod.kin hk h1 (thn (hkw.run pos pins s σ H _ I h) ?_) h4) h3)
  intro ws s2 q
  obtain ⟨zs, H2, I2, rz, q2⟩ := q
  refine ⟨I2.kIn, ?_⟩
  rw [h2]
  exact run_fnk (us := []) (vs := []) F hr hb hx I2 .nil rz q2⟩
end

/-! ### C.m(e, ..), C a class of the text, m a def of it -/
section
variable {X : Cx} {CX : CXT} {k : Nat} {f C : Addr} {fd : FuncData} {ps : List Str} {sp : Sp} {E : XK} {x m : Str} {p1 p2 pos : Pos} {e : Expr} {es : List Expr} {t : TA} {mc : Value}
theorem pe_clsFn {pl : Sem Bool} (F : FnOk X.prog X.w X.K X.mg X.base CX k f fd ps sp) (hr : Room k X.A) (hg : Gl X x) (hm : X.mg x = some (.ref C))
    (rd : ClX.CRead X.K C mc) (va : PySem.W.findCls X.K (.ref C) mc m = some (.val (.ref f))) (hk : PySem.W.keepIn X.K (.ref f) = true) (hb : Binds X.K fd ps []) (hx : Passes CX X E) (ha : PA X (e :: es) t)
    (hc : eval (.Call (.Attribute (.Name x p1) m p2) (e :: es) [] pos) X.env = (do
      let ov ← eval (.Name x p1) X.env
      standAt p2.atName
      let (g, first) ← holding [ov] (getMethod ov m pl)
      callWith pos g first (backTo pos (starEach (e :: es) X.env)) (backToKw pos (keywordEach [] X.env))) := by rfl)
    (hdb : (x == ("__debug__" : Str)) = false := by decide)
    (he : starEach (e :: es) X.env = (false, eval e X.env) :: starEach es X.env := by rfl) (hpl : (backTo pos (starEach es X.env)).any (·.1) = false := by rfl) :
    PE X (.Call (.Attribute (.Name x p1) m p2) (e :: es) [] pos) (tCall sp [] E t) := ⟨fun pins s σ H Q I h => by
  refine PySem.W.methodCall_KW (ld_glob I hg hm ?_ hdb) hc
  refine PySem.W.method_cls I.kIn rd.ga (PySem.W.cls_value I.kIn rd.rd va rfl ?_)
  have I' := I.tok (X := X) (s.toks + 1)
  exact PySem.W.callWith_K (h₀ := X.base) I.ok.mod.kin hk (thn (ha.run pos pins _ σ H _ I' h) fun us s1 ⟨vs, H1, I1, r, q⟩ => ⟨I1.kIn, run_fn F hr hb .nil hx I1 r q⟩) he hpl⟩
end

/-! ### try: body, several clauses «except C as n: suite»; what follows them is never reached -/
structure Arm where
  c : Value
  i : Nat
  ts : Addr → Value → Option Addr → TS
/-- behind a suite the clause's name is gone -/
def Gone (i : Nat) (D : Ends) : Ends where
  nx := fun σ H => D.nx (σ.set i none) H
  rt := D.rt
  bk := fun σ H => D.bk (σ.set i none) H
  ct := fun σ H => D.ct (σ.set i none) H
def wArms (K : PySem.W.Frag) (D : Ends) : List Arm → WX
  | [] => fun _ _ _ _ => False
  | m :: r => fun cls d σ H => ∃ b, PySem.W.exmOne K cls m.c = some b ∧ (b = true → ∀ a, H a = none → m.ts a cls d (Gone m.i D) (σ.set m.i (some (.ref a))) H) ∧ (b = false → wArms K D r cls d σ H)
inductive Arms (X : Cx) : List ExceptHandler → List Arm → Prop
  | nil {hds : List ExceptHandler} : Arms X hds []
  | cons {x n : Str} {c : Value} {i : Nat} {ts : Addr → Value → Option Addr → TS} {b0 : Stmt} {suite : List Stmt} {np pos' : Pos} {hds : List ExceptHandler} {l : List Arm}
      (hc : Names X x c) (hi : X.N[i]? = some n) (hl : X.env.kindOf n = some .local)
      (hsu : ∀ (a : Addr) (oe : Obj) (cls : Value) (d : Option Addr) (pn : List (Addr × Obj)), Zc cls d oe → (∃ vs, oe.data = .fields vs) → PSs (X.suite a ((a, oe) :: pn)) (b0 :: suite) (ts a cls d))
      (r : Arms X hds l) : Arms X (.ExceptHandler (some (.Name x np)) (some n) (b0 :: suite) pos' :: hds) (⟨c, i, ts⟩ :: l)

section
variable {X : Cx} {pins : List (Addr × Obj)} {σ : L2.St} {H : Hp} {sI s' : Shared} {B : Heap} {a : Addr} {cls : Value} {d : Option Addr} {D : Ends}
/-- an exception noted and landed meets the clauses -/
theorem arms_go (hs : X.stack = X.env :: X.outer) (hf : X.env.frame = some X.env.locals) (hN : X.N.Nodup) (J : L2.Inv X pins σ H sI) (na : H a = none)
    (nb : ∀ b o, sI.heap.get? b = some o → b ∉ frs X.stack → B.get? b = some o) (os : s'.os = sI.os) (ag : AllBare s'.gens) (up : sI.heap.UpToSlots s'.heap)
    (fl : HandSPX.FlyingZ B (X.env :: X.outer) a (Zc cls d) s'.heap) {hds : List ExceptHandler} {l : List Arm} (hh : Arms X hds l) (w : wArms X.K D l cls d σ H) :
    wpAny (model X.prog X.w) X.A (handleBy (.ref a) X.env hds) (SP X pins D) X.xe s' := by
  induction hh with
  | nil => exact w.elim
  | @cons x n c i ts b0 suite np pos' hds' l' hc hi hl hsu r ih =>
    obtain ⟨b, hb, yes, no⟩ := w
    -- what stands in the heap of the exception, wherever it has landed
    have site : ∀ {h : Heap}, HandSPX.FlyingZ B (X.env :: X.outer) a (Zc cls d) h → sI.heap.UpToSlots h →
        ∃ oe vs, h.get? a = some oe ∧ Zc cls d oe ∧ oe.data = .fields vs ∧ L2.Inv (X.suite a ((a, oe) :: (X.pn ++ pins))) [] σ H { s' with heap := h } := fun {h} z u => by
      obtain ⟨oe, vs, e1, e2, e3⟩ := z.there
      have nofr : a ∉ frs (X.env :: X.outer) := fun hm => by
        obtain ⟨_, o', e', hnf⟩ := z.2.2.1.mem hm
        rw [e1] at e'
        cases e'
        exact hnf _ e3
      refine ⟨oe, vs, e1, e2, e3, (J.landed (s' := { s' with heap := h }) nb z.1 u os ag).suite e1 e3 na (fun z => nofr (List.mem_filterMap.mpr ⟨X.env, List.mem_cons_self, by rw [hf, z]⟩)) fun hm => nofr ?_⟩
      obtain ⟨e, he, q⟩ := List.mem_filterMap.mp hm
      exact List.mem_filterMap.mpr ⟨e, List.mem_cons_of_mem _ he, q⟩
    obtain ⟨oe, vs, e1, e2, e3, S⟩ := site fl up
    refine wpAny_handleBy_cons (codeAny_handlers_test ?_) (fun q => nomatch q)
    have ty : PySem.W.Looks (model X.prog X.w) s'.heap (typeOf (.ref a)) cls := fun A Q E s k q => wpAny_typeOf_ref (k _ _ e1) (by rw [e2.1]; exact q)
    have mt := PySem.W.exm_one (M := model X.prog X.w) S.kIn ty hb
    have nm : ∀ {Q : Value → Shared → Prop} {E : Value → Shared → Prop}, Q c s' → wpAny (model X.prog X.w) (X.A.mark (some (.ref a))) (eval (.Name x np) X.env) Q E s' := fun {Q E} q =>
      hc.2.2.elim (fun hm => ld_glob (X := X.suite a ((a, oe) :: (X.pn ++ pins))) S hc.1 hm q hc.2.1) fun hm => ld_blt (X := X.suite a ((a, oe) :: (X.pn ++ pins))) S hc.1 hm.1 hm.2.1 q hm.2.2 hc.2.1
    refine nm (mt.here ?_)
    cases b with
    | false => exact ih (no rfl)
    | true =>
      refine codeAny_handlers_suite_as (HandSPX.lands_againZ fl fun h4 fl4 up4 => ?_)
      obtain ⟨oe4, vs4, g1, g2, g3, S4⟩ := site fl4 (up.trans up4)
      refine store_ok (X := X.suite a ((a, oe4) :: (X.pn ++ pins))) (v := .ref a) S4 hN hi (.inl hl) rfl (fun s5 S5 => ?_) (.inr hl)
      refine wpAny_mono ((hsu a oe4 cls d (X.pn ++ pins) g2 ⟨_, g3⟩).run [] s5 _ H _ S5 (yes rfl a na)) (fun f s6 sp => ?_) (fun _ _ z => z.elim)
      have fin : ∀ {σ6 : L2.St} {H6 : Hp} {R : Shared → Prop}, L2.Inv (X.suite a ((a, oe4) :: (X.pn ++ pins))) [] σ6 H6 s6 → (∀ s7, L2.Inv X pins (σ6.set i none) H6 s7 → R s7) →
          wpAny (model X.prog X.w) X.A (do bindName X.env n .none; unbindBehindTheSuite X.env n pos') (fun _ s7 => R s7) X.xe s6 := fun {_ _ _} S6 q => gone_ok (S6.unsuite J.ok) hN hi hl q
      cases f with
      | next => exact let ⟨_, _, S6, q6⟩ := sp; fin S6 fun _ J7 => ⟨_, _, J7, q6⟩
      | brk => exact let ⟨_, _, S6, q6⟩ := sp; fin S6 fun _ J7 => ⟨_, _, J7, q6⟩
      | cont => exact let ⟨_, _, S6, q6⟩ := sp; fin S6 fun _ J7 => ⟨_, _, J7, q6⟩
      | ret u => exact let ⟨_, _, _, S6, r6, q6⟩ := sp; fin S6 fun _ J7 => ⟨_, _, _, J7, r6, q6⟩
end
section
variable {X : Cx} {body : List Stmt} {h0 : ExceptHandler} {hds : List ExceptHandler} {l : List Arm} {pos : Pos} {tb : WX → TS}
theorem ps_arms (hs : X.stack = X.env :: X.outer) (hf : X.env.frame = some X.env.locals) (hN : X.N.Nodup)
    (hb : ∀ (W : WX) (pn : List (Addr × Obj)) (xe : Value → Shared → Prop), Takes (X.tr pn xe) W → PassesOwn (model X.prog X.w) X.A X.env xe → PSs (X.tr pn xe) body (tb W))
    (hh : Arms X (h0 :: hds) l) : PS X (.Try body (h0 :: hds) [] [] pos) (fun D σ H => tb (wArms X.K D l) D σ H) := ⟨fun pins s σ H D I h => by
  have fr : X.A.frames = some (X.env :: X.outer) := I.ok.frames.trans (by rw [hs])
  refine wpAny_Try_except (wpAny_mono ((hb (wArms X.K D l) (X.pn ++ pins) (fun e t1 => wpAny (model X.prog X.w) X.A (noteFrame e X.env) (fun _ t2 => wpAny (model X.prog X.w) X.A (setFlight e none)
    (fun _ t3 => wpAny (model X.prog X.w) X.A (handleBy e X.env (h0 :: hds)) (SP X pins D) X.xe t3) X.xe t2) X.xe t1) (fun u s' q => ?_) PassesOwn.looking).run [] s σ H D (I.toTry _) h) (fun f s1 q => ?_) fun _ _ z => z)
  · obtain ⟨a, B, sI, pins', σ', H', cls, d, rfl, J, nb, up, sky, na, os, ag, w⟩ := q
    refine Sky.land Zc.steady fr hf (show Sky B (X.env :: X.outer) a (Zc cls d) X.env.locals s'.heap from by rw [← hs]; exact sky) fun h3 fl up3 => ?_
    exact arms_go (s' := { s' with heap := h3 }) hs hf hN (J.ofTry I.ok) na nb os ag (up.trans up3) fl hh w
  · cases f with
    | next => exact let ⟨_, _, J, z⟩ := q; wpAny_execs_nil ⟨_, _, J.ofTry I.ok, z⟩
    | brk => exact let ⟨_, _, J, z⟩ := q; ⟨_, _, J.ofTry I.ok, z⟩
    | cont => exact let ⟨_, _, J, z⟩ := q; ⟨_, _, J.ofTry I.ok, z⟩
    | ret u => exact let ⟨_, _, _, J, r, z⟩ := q; ⟨_, _, _, J.ofTry I.ok, r, z⟩⟩
end
end Bf

/-! Own rules: defs that call repr. A repr asks that none is under way around it (Around.guards); the promise FnG is given under that. -/
namespace Bf
open PySem PySem.Spec PyProof.Rows L2

/-! ### promises where no repr is under way -/
structure FnG (P : Program) (w : World) (K : PySem.W.Frag) (mg : Str → Option Value) (base : Heap) (CX : CXT) (k : Nat) (f : Addr) (fd : FuncData) (ps : List Str) (sp : Sp) : Prop where
  len : ∀ vs H Q E, sp vs H Q E → vs.length = ps.length
  go : ∀ (A : Around) (outer : List Env) (s : Shared) (H : Hp) (args : Args) (us : List Value) (vs : List V) (Q : VK) (E : XK), A.guards = some [] → Room k A →
    Env0 P w K mg base A outer s H → BindsTo s fd args (ps.zip us) → Vals vs us → sp vs H Q E → codeAny (model P w) A (.call (.ref f) args) (CR CX outer P w H s Q E) s

section
variable {P : Program} {w : World} {K : PySem.W.Frag} {mg : Str → Option Value} {base : Heap} {CX : CXT}
theorem Fun.okG {x qual : Str} {st : Stmt} {f : Addr} {fd : FuncData} {N ps : List Str} {k : Nat} {sp : Sp} (F : Fun K x qual st f fd) (S : FnScope N ps (defScope st))
    (len : ∀ vs H Q E, sp vs H Q E → vs.length = ps.length)
    (hbody : ∀ (cdv : Value) (A : Around) (outer : List Env) (s : Shared) (H : Hp) (vs : List V) (Q : VK) (E : XK), A.guards = some [] → Room k (A.deeper (envOfC qual (defScope st) s.heap.objs.size f cdv)) → sp vs H Q E →
      ∃ t, PSs (cxOf CX P w K mg base N qual (defScope st) f cdv A outer s H E) (defBody st) t ∧ t { nx := fun _ H' => Q .non H', rt := Q } (start N vs) H) :
    FnG P w K mg base CX (k + 1) f fd ps sp := by
  obtain ⟨oc, od, kV, doc, pm, an, cdv, ct, osl, rfl, lk, hcd⟩ := F.ex
  refine ⟨len, fun A outer s H args us vs Q E hA hr e0 hb r hsp => ?_⟩
  have bk : ∀ b o, base.get? b = some o → s.heap.get? b = some o := fun b o e => (e0.bs b o e).1
  have KX := e0.mod.kin.keeps bk
  refine codeAny_call_function hr.depth (KX _ _ lk) rfl S.co S.gen rfl (PySem.W.codeRec_of KX hcd) (hb _ _ _ _ (wpAny_newFunctionEnv_cells S.kind (fun y hy => ?_) fun env he s1 x => ?_))
  · rcases S.par y.1 (List.of_mem_zip (show (y.1, y.2) ∈ _ from hy)).1 with q | q
    · exact .inl q
    · exact .inr ⟨q, PySem.W.cellsFrom_some _ _ _ (.inl q)⟩
  · cases he
    obtain ⟨t, ht, hq⟩ := hbody cdv A outer s H vs Q E hA (hr.deeper _) hsp
    refine ⟨(e0.mod.nolimit.keeps bk).keeps x.toInCall.keep, codeAny_func (wpAny_mono (ht.run [] s1 _ H _ (inv_start S hr.hd e0 (len _ _ _ _ hsp) r x) hq) (fun fl s' z => ?_) fun _ _ z => z)⟩
    cases fl with
    | next => exact let ⟨_, H', J, q⟩ := z; ⟨.non, H', J.os, J.bare, J.base, J.hok, rfl, q⟩
    | ret u => exact let ⟨v, _, H', J, rv, q⟩ := z; ⟨v, H', J.os, J.bare, J.base, J.hok, rv, q⟩
    | brk => exact let ⟨_, _, _, q⟩ := z; q.elim
    | cont => exact let ⟨_, _, _, q⟩ := z; q.elim
end
section
variable {X : Cx} {CX : CXT} {k : Nat} {f : Addr} {fd : FuncData} {ps : List Str} {sp : Sp} {E : XK} {x : Str} {p pos : Pos} {e : Expr} {es : List Expr} {t : TA}
theorem pe_callG (F : FnG X.prog X.w X.K X.mg X.base CX k f fd ps sp) (hA : X.A.guards = some []) (hr : Room k X.A) (hg : Gl X x) (hm : X.mg x = some (.ref f)) (hk : PySem.W.keepIn X.K (.ref f) = true)
    (hb : Binds X.K fd ps []) (hx : Passes CX X E) (ha : PA X (e :: es) t) (hdb : (x == ("__debug__" : Str)) = false := by decide)
    (he : starEach (e :: es) X.env = (false, eval e X.env) :: starEach es X.env := by rfl) (hpl : (backTo pos (starEach es X.env)).any (·.1) = false := by rfl) :
    PE X (.Call (.Name x p) (e :: es) [] pos) (tCall sp [] E t) := ⟨fun pins s σ H Q I h => by
  refine wpAny_Call_Name_kw (ld_glob I hg hm (PySem.W.callWith_K (h₀ := X.base) I.ok.mod.kin hk (thn (ha.run pos pins s σ H _ I h) fun us s1 ⟨vs, H1, I1, r, q⟩ => ⟨I1.kIn, ?_⟩) he hpl) hdb)
  have q : sp (vs ++ []) H1 Q E := q
  rw [List.append_nil] at q
  have hl : us.length = ps.length := r.length.symm.trans (F.len _ _ _ _ q)
  have bd : BindsTo s1 fd ⟨us, []⟩ (ps.zip us) := by
    have z := hb s1 us I1.kIn (by rw [List.append_nil]; exact hl)
    rw [List.append_nil] at z
    exact z
  refine wpAny_call (codeAny_mono (F.go X.A X.stack s1 H1 ⟨us, []⟩ us vs Q E hA hr I1.env0 bd r q) fun r s' hq => ?_)
  cases r with
  | error e => exact hx pins σ H1 s1 e s' I1 hq
  | ok fl =>
    cases fl with
    | ret u => exact I1.after hq
    | next => exact hq.elim
    | brk => exact hq.elim
    | cont => exact hq.elim⟩
end

/-! ### data as repr shows it -/
mutual
/-- x stands for the data d; every list, tuple and dict in it is tracked, at an address of which P holds; b: there may be an empty dict in it, then no list is the module table -/
inductive Sh (H : Hp) (P : Addr → Prop) (b : Bool) : V → PyData → Prop
  | non : Sh H P b .non .none
  | bl (c : Bool) : Sh H P b (.bl c) (.bool c)
  | int (i : Int) : Sh H P b (.int i) (.int i)
  | str (z : Str) : Sh H P b (.str z) (.str z)
  | lst {a : Addr} {xs : List V} {ds : List PyData} (h : H a = some (.lst xs)) (p : P a) (q : b = true → a ≠ sysModules) (r : ShAll H P b xs ds) : Sh H P b (.ref a) (.list ds)
  | tup {a : Addr} {xs : List V} {ds : List PyData} (h : H a = some (.tup xs)) (p : P a) (r : ShAll H P b xs ds) : Sh H P b (.ref a) (.tuple ds)
  | emp {a : Addr} (hb : b = true) (h : H a = some (.dK [])) (p : P a) : Sh H P b (.ref a) (.dict [])
inductive ShAll (H : Hp) (P : Addr → Prop) (b : Bool) : List V → List PyData → Prop
  | nil : ShAll H P b [] []
  | cons {v : V} {vs : List V} {d : PyData} {ds : List PyData} (h : Sh H P b v d) (r : ShAll H P b vs ds) : ShAll H P b (v :: vs) (d :: ds)
end

section
variable {X : Cx} {pins : List (Addr × Obj)} {σ : L2.St} {H : Hp} {s : Shared} {P : Addr → Prop} {b : Bool}
mutual
theorem Sh.reads (I : L2.Inv X pins σ H s) : ∀ (d : PyData) (v : V) (u : Value), Sh H P b v d → RelV v u → ∃ as, Reads s.heap u d as ∧ (b = true → ∀ a ∈ as, a ≠ sysModules)
  | .none, _, _, h, r => by
    cases h; cases r
    exact ⟨_, .none, fun _ _ z => nomatch z⟩
  | .bool c, _, _, h, r => by
    cases h; cases r
    exact ⟨_, .bool c, fun _ _ z => nomatch z⟩
  | .int i, _, _, h, r => by
    cases h; obtain ⟨t, rfl⟩ := r
    exact ⟨_, .int i t, fun _ _ z => nomatch z⟩
  | .str x, _, _, h, r => by
    cases h; obtain ⟨t, rfl⟩ := r
    exact ⟨_, .str x t, fun _ _ z => nomatch z⟩
  | .list ds, _, _, h, r => by
    cases h with
    | lst h p q ha =>
      cases r
      obtain ⟨_, its, n, rv, e⟩ := I.hok _ _ h
      obtain ⟨as, hr, hp⟩ := Sh.readsAll I ds _ its ha rv
      exact ⟨_, .list e rfl rfl hr, fun hb a z => (List.mem_cons.mp z).elim (fun y => y ▸ q hb) (hp hb a)⟩
  | .tuple ds, _, _, h, r => by
    cases h with
    | tup h p ha =>
      cases r
      obtain ⟨_, its, rv, o, e1, e2, n, e3⟩ := I.hok _ _ h
      obtain ⟨as, hr, hp⟩ := Sh.readsAll I ds _ its ha rv
      exact ⟨_, .tuple e1 e2 e3 hr, hp⟩
  | .dict _, _, _, h, r => by
    cases h with
    | emp hb h p =>
      cases r
      obtain ⟨_, sm, vs, kv, o, es, ep, e1, e2, e3, _, e4, _⟩ := I.hok _ _ h
      cases kv
      have en : es.toList = [] := by
        cases q : es.toList with
        | nil => rfl
        | cons x r => rw [q] at e4; cases e4
      refine ⟨_, .dict e1 e2.1 e3 (kvs := []) (as := []) (bs := []) (by rw [en]; exact .nil) (by rw [en]; exact .nil), fun _ a z => ?_⟩
      rcases List.mem_cons.mp z with e | e
      · exact e ▸ beq_eq_false_iff_ne.mp sm
      · cases e
theorem Sh.readsAll (I : L2.Inv X pins σ H s) : ∀ (ds : List PyData) (vs : List V) (us : List Value), ShAll H P b vs ds → Vals vs us → ∃ as, ReadsAll s.heap us ds as ∧ (b = true → ∀ a ∈ as, a ≠ sysModules)
  | [], _, _, h, r => by
    cases h; cases r
    exact ⟨_, .nil, fun _ _ z => nomatch z⟩
  | d :: ds, _, _, h, r => by
    cases h with
    | cons h1 h2 =>
      cases r with
      | cons r1 r2 =>
        obtain ⟨as, q1, p1⟩ := Sh.reads I d _ _ h1 r1
        obtain ⟨bs, q2, p2⟩ := Sh.readsAll I ds _ _ h2 r2
        exact ⟨_, .cons q1 q2, fun hb a z => (List.mem_append.mp z).elim (p1 hb a) (p2 hb a)⟩
end
end
mutual
theorem Sh.nodict {H : Hp} {P : Addr → Prop} : ∀ (d : PyData) (v : V), Sh H P false v d → d.hasDict = false
  | .none, _, _ => by simp only [PyData.hasDict]
  | .bool _, _, _ => by simp only [PyData.hasDict]
  | .int _, _, _ => by simp only [PyData.hasDict]
  | .str _, _, _ => by simp only [PyData.hasDict]
  | .list ds, _, h => by
    cases h with
    | lst _ _ _ r => simp only [PyData.hasDict]; exact ShAll.nodict ds _ r
  | .tuple ds, _, h => by
    cases h with
    | tup _ _ r => simp only [PyData.hasDict]; exact ShAll.nodict ds _ r
  | .dict _, _, h => by
    cases h with
    | emp hb _ _ => cases hb
theorem ShAll.nodict {H : Hp} {P : Addr → Prop} : ∀ (ds : List PyData) (vs : List V), ShAll H P false vs ds → PyData.hasDictAll ds = false
  | [], _, _ => by simp only [PyData.hasDictAll]
  | d :: ds, _, h => by
    cases h with
    | cons h r =>
      simp only [PyData.hasDictAll, Sh.nodict d _ h, ShAll.nodict ds _ r, Bool.or_self]
end
section
variable {X : Cx}
/-- repr(x) -/
def rRepr : List V → Hp → VK → Prop := fun xs H Q => ∃ (x : V) (P : Addr → Prop) (b : Bool) (d : PyData), xs = [x] ∧ Sh H P b x d ∧ d.showable = true ∧ d.depth ≤ 60 ∧ d.shown.length ≤ sizeLine ∧ Q (.str d.shown) H
theorem call_repr (hA : X.A.guards = some []) (hu : X.A.units + 64 < cLine) : CallR X (.builtin "repr") rRepr := by
  intro pins s σ H xs us Q I r h
  obtain ⟨x, P, b, d, rfl, hs, sw, dp, sz, q⟩ := h
  obtain ⟨u, rfl, rx⟩ := vals1 r
  obtain ⟨as, rd, hp⟩ := Sh.reads I d x u hs rx
  have nodict : d.hasDict = true → sysModules ∉ as := fun hd z => by
    cases b with
    | false => rw [Sh.nodict d x hs] at hd; cases hd
    | true => exact hp rfl _ z rfl
  have fin : ∀ (t : Tok) (tk : Nat), EP X pins σ Q (.str d.shown t) { s with toks := tk } := fun t tk => ⟨.str d.shown, H, I.tok tk, ⟨t, rfl⟩, q⟩
  have finH : ∀ h' t tk, (∀ b o, s.heap.get? b = some o → h'.get? b = some o) → EP X pins σ Q (.str d.shown t) { s with heap := h', toks := tk } := fun h' t tk k => ⟨.str d.shown, H, I.kept k, ⟨t, rfl⟩, q⟩
  have big : ∀ {a : Addr}, u = .ref a → wpAny (model X.prog X.w) X.A (call (.builtin "repr") [u]) (EP X pins σ Q) X.xe s := fun {a} e => by
    subst e
    exact repr_of_reads' rd sw nodict hA (by omega) (fun _ _ z => z) finH sz
  cases rd with
  | none => exact PySem.P.repr_of_none (by have z := fin s.toks (s.toks + 1); simp only [PyData.shown] at z; exact z)
  | bool c => exact PySem.P.repr_of_bool (by have z := fin s.toks (s.toks + 1); simp only [PyData.shown] at z; exact z)
  | int i t => exact PySem.P.repr_of_int (by simpa [PyData.showable] using sw) (by have z := fin s.toks (s.toks + 1); simp only [PyData.shown] at z; exact z)
  | str z t => exact PySem.P.repr_of_str (by have z := fin s.toks (s.toks + 1); simp only [PyData.shown] at z; exact z) (by simp only [PyData.shown] at sz; exact sz)
  | list _ _ _ _ => exact big rfl
  | tuple _ _ _ _ => exact big rfl
  | dict _ _ _ _ _ => exact big rfl
/-- a list of written items, not the module table -/
def tLstN (t : TA) : TE := fun σ H Q => t σ H fun xs H1 => xs.length ≤ 1000 ∧ ∀ p, H1 p = none → p ≠ sysModules → Q (.ref p) (upd H1 p (.lst xs))
theorem pe_lstN {es : List Expr} {pos : Pos} {t : TA} (h : PA X es t) : PE X (.List es pos) (tLstN t) := ⟨fun pins s σ H Q I hq => by
  refine wpAny_List_spliced (thn (h.run pos pins s σ H _ I hq) fun us s1 z => ?_)
  obtain ⟨xs, H1, I1, r, sz, q⟩ := z
  have le : xs.length ≤ sizeLine := Nat.le_trans sz (by decide)
  refine ⟨r.length ▸ le, .ref s1.heap.objs.size, upd H1 s1.heap.objs.size (.lst xs), I1.laid (t' := s1.toks) (fun _ _ e => Heap.get?_push_of_some _ e) (Nat.le_refl _) ⟨le, us, 0, r, Heap.get?_push_size _ rfl⟩, rfl, ?_⟩
  exact q _ (I1.hok.fresh (Nat.le_refl _)) (Nat.ne_of_gt I1.big)⟩
end

/-! ### the law's end -/
section
open PySem.W
variable {l : PySem.W.OpenLaw} {n k : Nat} {q : Program} {loose : List Str} {XP : (Str → Option Value) → Heap → Prop} {YP : World → Heap → Prop} {d : DefRec} {K : Params → PySem.W.Frag} {sp : PySem.W.Frag → Sp} {x : Str}
theorem walkG (hn : l.most = some n) (hn2 : n ≤ 1000) (hdf : d.params.defaults = []) (hr : Room k callerA) (hY : ∀ (w : World) (h : Heap), YP w h → (K w.params).In h)
    (F : ∀ (w : World) (mg : Str → Option Value) (fa : Addr) (h : Heap), (K w.params).In h → h.Ns mainGlobals mg → mg d.name = some (.ref fa) →
      ∃ fd : FuncData, (∀ (s : Shared) (u : Value), BindsTo s fd ⟨[u], []⟩ [(x, u)]) ∧ ∀ base : Heap, (K w.params).In base → base.Ns mainGlobals mg → FnG l.prog w (K w.params) mg base CX0 k fa fd [x] (sp (K w.params)))
    (hsp : ∀ (K : PySem.W.Frag) (H : Hp) (a : Addr) (ns : List Int), ns.length ≤ n → SqL K H a (ns.map V.int) → (∀ b, H b = none ∨ b = a) → sp K [.ref a] H (fun v _ => v = .bl true) fun _ _ _ => False) :
    WalkO q loose XP YP l.row.toRowW d [] (fun f vs => PySem.call f vs) := by
  refine Att.attach_call hn hdf fun w s0 s1 mg mb fa o pm cd doc a vs ns G Y _ _ _ hmg ha hi hl hg => ?_
  have KX := hY w _ Y
  obtain ⟨fd, bind, go⟩ := F w mg fa _ KX G.T.g hmg
  have hle : ns.length ≤ sizeLine := Nat.le_trans hl (Nat.le_trans hn2 (by decide))
  have rv := vals_ints hi
  -- the abstract heap: the script, locked, unless it is the module's own
  have mid : ∀ H : Hp, SqL (K w.params) H a (ns.map V.int) → HOk l.prog w H s1.heap → (∀ b, H b = none ∨ (b = a ∧ (K w.params).lookup a = none ∧ ∃ o xs, H a = some (.frz o (.lst xs)))) →
      codeAny (model l.prog w) callerA (.call (.ref fa) ⟨[.ref a], []⟩) (fun r s' => r = .ok (.ret (.bool true)) ∧ OldK s1.heap s'.heap ∧ s'.os = s1.os ∧ AllBare s'.gens) s1 := fun H hS ok hA => by
    have nsK : ∀ {b : Addr} {m : Str → Option Value}, s1.heap.Ns b m → (hidT s1.heap H).Ns b m := fun {b m} z => by
      obtain ⟨o, es, ep, e, dd, r⟩ := z
      refine ⟨o, es, ep, hidT_get e ((hA b).resolve_right fun y => ?_), dd, r⟩
      rw [y.1, ha] at e
      cases e
      cases dd
    have kin : (K w.params).In (hidT s1.heap H) := fun b o e => hidT_get (KX b o e) ((hA b).resolve_right fun y => by
      rw [y.1, y.2.1] at e
      cases e)
    have md : Mod (K w.params) mg (hidT s1.heap H) := ⟨kin, nsK G.T.g, ⟨mb, nsK G.T.b, G.T.builtins⟩, let ⟨mc, h1, h2⟩ := G.T.nolimit; ⟨mc, nsK h1, h2⟩⟩
    refine codeAny_mono ((go _ kin (nsK G.T.g)).go callerA [] s1 H ⟨[.ref a], []⟩ [.ref a] [.ref a] _ _ rfl hr
      ⟨rfl, md, fun _ _ e => of_hidT e, Nat.le_of_eq (hidT_size _ _), trivial, (fun _ z => nomatch z), ok, .of_eq hg⟩ (bind s1 (.ref a)) (.cons rfl .nil) (hsp _ H a ns hl hS fun b => (hA b).imp_right (·.1))) fun r s' h => ?_
    cases r with
    | error e => exact h.elim
    | ok fl =>
      cases fl with
      | next => exact h.elim
      | brk => exact h.elim
      | cont => exact h.elim
      | ret u =>
        obtain ⟨v, H', os, bare, un, ok', rv', e⟩ := h
        cases (show v = .bl true from e)
        cases (show u = .bool true from rv')
        refine ⟨rfl, OldK.of_keep fun b o e => ?_, os, bare⟩
        rcases hA b with z | ⟨rfl, _, ob, xs, z⟩
        · exact un.keep b o e z (fun y => nomatch y) (fun y => nomatch y)
        · have e1 := (ok _ _ z).1
          rw [e] at e1
          cases e1
          exact (ok' _ _ (un.frzs _ _ _ z)).1
  cases hk : (K w.params).lookup a with
  | some o =>
    have e := KX a o hk
    rw [ha] at e
    cases e
    exact mid (fun _ => none) (.inr ⟨_, vs.toArray, _, hk, rfl, rfl, rfl, by rw [List.size_toArray, hi.length]; exact hle, by simpa using rv⟩) (fun _ _ z => nomatch z) fun _ => .inl rfl
  | none =>
    have at_ : ∀ b, b = a → (fun c => if c = a then some (HO.frz { cls := .type "list", data := .seq vs.toArray } (.lst (ns.map V.int))) else none) b = some (HO.frz { cls := .type "list", data := .seq vs.toArray } (.lst (ns.map V.int))) := fun b e => if_pos e
    refine mid (fun c => if c = a then some (.frz { cls := .type "list", data := .seq vs.toArray } (.lst (ns.map V.int))) else none) (.inl (.inr ⟨_, at_ a rfl⟩)) (fun b u z => ?_) fun b => ?_
    · by_cases hb : b = a
      · cases (at_ b hb).symm.trans z
        cases hb
        exact ⟨ha, by rw [List.length_map]; exact hle, vs, _, rv, ha⟩
      · cases (if_neg hb).symm.trans z
    · by_cases hb : b = a
      · exact .inr ⟨hb, hk, _, _, at_ a rfl⟩
      · exact .inl (if_neg hb)
end
end Bf

set_option linter.all false
set_option maxHeartbeats 4000000
/-! Own rules: exceptions of own classes as values: made, asked by isinstance, written by repr. -/
namespace PySem.W
open PySem PySem.Spec PySem.Calls PyProof.Rows
section
variable {prog : Program} {w : World} {A : Around} {E : Value → Shared → Prop} {s : Shared} {K : Frag} {x D : Addr} {ox : Obj} {od : Option Obj}
theorem bf_findObj_data {C : Addr} {name : Str} {a g : Value} (hc : (clsIn K C).isSome = true) (ha : findIn K (.ref C) name = some (some a)) (hg : specialIn K a "__get__" = some (some g)) (ht : takesIn K a = some true) : findObj K C od name = some (.bind g a) := by
  obtain ⟨cd, hc⟩ := Option.isSome_iff_exists.mp hc
  unfold findObj
  rw [hc, Option.bind_some, ha, Option.bind_some]
  simp [hg, ht]
theorem bf_kin_class {Q : Option Value → Shared → Prop} (hga : findIn K (.ref D) "__getattribute__" = some (some (.builtin "BaseException.__getattribute__"))) (hgt : findIn K (.ref D) "__getattr__" = some none) (hsub : subIn K (.ref D) (.type "BaseException") = some true)
    (hdct : hasDictIn K D = true) (ha : findIn K (.ref D) "__class__" = some (some (.builtin "object.__class__")))
    (hn : specialIn K (.builtin "object.__class__") "__get__" = some (some (.builtin "getset_descriptor.__get__"))) (htk : takesIn K (.builtin "object.__class__") = some true) (hm : mroIn K D (.type "object") = some true)
    (X : K.In s.heap) (I : InstAt s.heap x ox D od) (h : Q (some (.ref D)) { s with toks := s.toks + 1 }) : wpAny (model prog w) A (getAttr? (.ref x) "__class__") Q E s := by
  have hf : findObj K D od "__class__" = some (.bind (.builtin "getset_descriptor.__get__") (.builtin "object.__class__")) := bf_findObj_data (by obtain ⟨cd, hc, _⟩ := any_some hdct; rw [hc]; rfl) ha hn htk
  obtain ⟨hp, g, d, t, os⟩ := s
  have L0 := I.type (M := model prog w)
  have L1 := looks_findIn (M := model prog w) X hga
  have L2 := looks_findIn (M := model prog w) X hgt
  have L3 := looks_find (M := model prog w) X I hf
  have sub : Looks (model prog w) hp (isInstance (.ref x) (.type "BaseException")) true := L0.andThen (looks_subIn X hsub)
  have hx0 : (false && onTheHeap (Value.builtin "BaseException.__getattribute__")) = false := rfl
  have hx2 : (Value.builtin "BaseException.__getattribute__" == Value.builtin "object.__getattribute__") = false := by decide +kernel
  have hx1 : (onTheHeap (Value.ref D) && Value.builtin "BaseException.__getattribute__" == Value.builtin "object.__getattribute__") = false := by rw [hx2]; rfl
  unfold getAttr? getAttrBy? getAttrBy
  refine wpAny_bind (wpAny_mkText (wpAny_bind (wpAny_attempt (wpAny_holding (wpAny_bind (L0.at (wpAny_bind (L1.at ?_))))))))
  show wpAny _ _ (if (onTheHeap (Value.ref D) && Value.builtin "BaseException.__getattribute__" == Value.builtin "object.__getattribute__") = true then _ else _) _ _ _
  rw [hx1, if_neg Bool.false_ne_true]
  unfold getAttrByItsOwn hookBefore
  refine wpAny_bind ?_
  rw [if_pos (show onTheHeap (Value.ref D) = true from rfl)]
  refine L2.at ?_
  refine wpAny_bind (wpAny_attempt (wpAny_holding ?_))
  unfold callGetattribute
  rw [hx0, if_neg Bool.false_ne_true]
  unfold boundAndCalled
  rw [PySem.F.excAttr_ValueError.ga.bind (.ref x)]
  refine wpAny_bind (wpAny_pure ?_)
  show wpAny _ _ (call (.builtin "BaseException.__getattribute__") [.ref x, .str "__class__" t]) _ _ _
  refine wpAny_call (codeAny_call_builtin PySem.F.excAttr_ValueError.ga.plain PySem.F.entry_bexc_ga ?_)
  refine @check_slot (model prog w) _ _ ⟨hp, g, d, t + 1, os⟩ "BaseException.__getattribute__" "BaseException" "__getattribute__" (.ref x) [.str "__class__" t] [] _ (by decide +kernel) (by decide +kernel) sub (PySem.F.args_bexc_ga (.ref x) (.str "__class__" t)) ?_
  unfold Builtin.«object.__getattribute__»
  refine wpAny_bind (wpAny_of_eq (a := ((Value.ref x : Value), [Value.str "__class__" t])) (by first | rfl | (simp only [slotArgs]; rfl)) ?_)
  refine wpAny_bind (wpAny_pure (wpAny_bind (L0.at (wpAny_bind (L3.at ?_)))))
  show wpAny _ _ (holding [Value.builtin "object.__class__"] (call (.builtin "getset_descriptor.__get__") [.builtin "object.__class__", .ref x, .ref D]) >>= ret) _ _ _
  refine wpAny_bind (wpAny_holding (wpAny_call (class_get (s := ⟨hp, g, d, t + 1, os⟩) (ox := ox) (od := od) X I hm ?_)))
  refine wpAny_pure ?_
  show wpAny _ _ (handedOut (.ref D)) _ _ _
  rw [handedOut_of (v := .ref D) rfl]
  first
    | exact wpAny_pure (wpAny_pure h)
    | exact wpAny_pure h
    | exact wpAny_pure (wpAny_bind (wpAny_pure (wpAny_pure h)))
theorem bf_kitx_exc (hga : findIn K (.ref D) "__getattribute__" = some (some (.builtin "BaseException.__getattribute__"))) (hgt : findIn K (.ref D) "__getattr__" = some none) (hsub : subIn K (.ref D) (.type "BaseException") = some true) (hdct : hasDictIn K D = true) (ha : findIn K (.ref D) "__class__" = some (some (.builtin "object.__class__")))
    (hn : specialIn K (.builtin "object.__class__") "__get__" = some (some (.builtin "getset_descriptor.__get__"))) (htk : takesIn K (.builtin "object.__class__") = some true) (hm : mroIn K D (.type "object") = some true) :
    KitX K (.ref x) (.ref D) (fun h => InstAt h x ox D od) where
  ty := fun _ _ _ I => I.type
  it := fun _ _ X _ => by
    obtain ⟨cdD, hcD, _⟩ := any_some hdct
    unfold clsIn at hcD
    split at hcD
    · rename_i c' d' cd' sl' ho
      intro A' Q' E' s' k q
      unfold isType loadHead
      exact wpAny_bind (wpAny_loadPart (k _ _ (X _ _ ho)) (wpAny_pure q))
    · cases hcD
  ne := fun h tp dd its n sl X htp => by
    obtain ⟨cdD, hcD, _⟩ := any_some hdct
    refine Bool.eq_false_iff.mpr fun q => ?_
    have e : D = tp := Value.ref.inj (beq_iff_eq.mp q)
    subst e
    unfold clsIn at hcD
    split at hcD
    · rename_i c' d' cd' sl' ho
      have z := (X _ _ ho).symm.trans htp
      cases z
    · cases hcD
  ca := fun X I k => bf_kin_class hga hgt hsub hdct ha hn htk hm X I k
end
end PySem.W

namespace PySem
open Sem (wp)
open Builtin Builtin.Str Builtin.BaseException Builtin.Exceptions
open PySem.W (Looks Frag findIn subIn clsIn looks_findIn looks_subIn looks_clsIn)
section
variable {prog : Program} {w : World} {A : Around} {E : Value → Shared → Prop} {s : Shared} {K : Frag} {C e t0 : Addr} {cd : ClassData}
theorem bf_typeNameWhole {M : Model} {Q : String → Shared → Prop} (x : ExcC K C e t0 s.heap) (hc : clsIn K C = some cd) (hq : Q cd.name.toString s) : wpAny M A (typeNameOfWhole (.ref e)) Q E s := by
  unfold typeNameOfWhole shownTypeOf
  refine wpAny_bind (wpAny_bind (x.LT.here ?_))
  rw [if_neg (show ¬(Value.ref C == Value.type "builtin_function_or_method") = true from fun z => nomatch (beq_iff_eq.mp z))]
  refine wpAny_pure ?_
  unfold typeNameWhole
  exact wpAny_bind ((looks_clsIn x.1 hc).here (wpAny_pure hq))
/-- what repr writes of an own exception with one text -/
def excTold (cd : ClassData) (m : Str) : Str := Str.ofString ((cd.name.toString.cutAt '.').getLastD "") ++ Str.ofString "(" ++ reprText m ++ Str.ofString ")"
theorem bf_bexcRepr {m : Str} {tk : Tok} {Q : Fin → Shared → Prop} (x : ExcC K C e t0 s.heap) (hc : clsIn K C = some cd) (ht : s.heap.TupAt t0 [.str m tk])
    (hq : Q (.done (.ret (.str (excTold cd m) (s.toks + 1)))) { s with toks := s.toks + 1 + 1 }) (hsz : (excTold cd m).length ≤ sizeLine) : wpAny (model prog w) A (Builtin.«BaseException.__repr__» ⟨[.ref e], []⟩) Q E s := by
  have hsz2 : (Str.ofString ((cd.name.toString.cutAt '.').getLastD "") ++ Str.ofString "(" ++ reprText m ++ Str.ofString ")").length ≤ sizeLine := hsz
  have e1 := hsz2
  have eP : (Str.ofString "(").length = 1 := by rw [ofString_length]; rfl
  rw [strLen_append, strLen_append, strLen_append, eP] at e1
  have hsz1 : (reprText m).length ≤ sizeLine := by omega
  have hpile : 0 + ((Str.ofString ((cd.name.toString.cutAt '.').getLastD "")).length + 1) ≤ sizeLine := by omega
  unfold Builtin.«BaseException.__repr__» Builtin.bexcReprAt
  repeat (first | with_reducible refine bf_typeNameWhole x hc ?_ | with_reducible refine bexcArgs_C x ht ?_ | rw [pyReprUnder_leaf (v := .str m tk) hpile (by intro a; nofun)] | with_reducible refine wpAny_pyRepr_str ?_ | wp_step)
  exact hq
theorem bf_call_bexcRepr {m : Str} {tk : Tok} {Q : Value → Shared → Prop} (x : ExcC K C e t0 s.heap) (hc : clsIn K C = some cd) (hB : subIn K (.ref C) (.type "BaseException") = some true) (ht : s.heap.TupAt t0 [.str m tk])
    (hq : Q (.str (excTold cd m) (s.toks + 1)) { s with toks := s.toks + 1 + 1 }) (hsz : (excTold cd m).length ≤ sizeLine) : wpAny (model prog w) A (call (.builtin "BaseException.__repr__") [.ref e]) Q E s := by
  refine wpAny_call (codeAny_call_builtin F.excStr_Exception.repr.plain F.entry_bexc_repr (@PySem.W.check_slot (model prog w) _ _ s "BaseException.__repr__" "BaseException" "__repr__" (.ref e) [] [] _ (by decide +kernel) (by decide +kernel) (x.LI hB) (F.args_bexc_repr _) ?_))
  exact wpAny_mono (bf_bexcRepr x hc ht (Q := fun fin s' => ∃ v, fin = .done (.ret v) ∧ Q v s') ⟨_, rfl, hq⟩ hsz) (fun fin s' hv => by obtain ⟨v, rfl, q⟩ := hv; exact q) fun _ _ z => z
theorem bf_callSpecialIfBound {v tp : Value} {name : Str} {i : String} {Q : Option Value → Shared → Prop} (hT : Looks (model prog w) s.heap (typeOf v) tp) (hf : Looks (model prog w) s.heap (typeLookup tp name) (some (.builtin i))) (hb : bindSpecial (.builtin i) v = pure (.builtin i, [v]))
    (hc : wpAny (model prog w) A (call (.builtin i) [v]) (fun r => Q (some r)) E s) : wpAny (model prog w) A (callSpecialIfBound? v name) Q E s := by
  simp only [callSpecialIfBound?, bindSpecialIfBound?]
  refine wpAny_holding (wpAny_bind (wpAny_bind ?_))
  unfold specialOf
  refine wpAny_bind (hT.here (hf.here ?_))
  simp only [hb]
  refine wpAny_bind (wpAny_askSetting (wpAny_ite ?_))
  have fin : wpAny (model prog w) A (call (.builtin i) ([v] ++ []) >>= fun v => pure (some v)) Q E s :=
    wpAny_bind (wpAny_mono hc (fun v s' h' => wpAny_pure h') fun _ _ h' => h')
  split
  · exact wpAny_bind (wpAny_pure (wpAny_pure fin))
  · exact wpAny_tryCatch (wpAny_bind (wpAny_pure (wpAny_pure fin)))
theorem bf_call_repr {m : Str} {tk : Tok} {Q : Value → Shared → Prop} (hu : A.units + 1 < cLine) (x : ExcC K C e t0 s.heap) (hc : clsIn K C = some cd) (hB : subIn K (.ref C) (.type "BaseException") = some true)
    (hs : findIn K (.ref C) "__repr__" = some (some (.builtin "BaseException.__repr__"))) (ht : s.heap.TupAt t0 [.str m tk])
    (h : Q (.str (excTold cd m) (s.toks + 1)) { s with toks := s.toks + 1 + 1 }) (hsz : (excTold cd m).length ≤ sizeLine) : wpAny (model prog w) A (call (.builtin "repr") [.ref e]) Q E s := by
  have hf : Looks (model prog w) s.heap (typeLookup (.ref C) "__repr__") (some (.builtin "BaseException.__repr__")) := looks_findIn x.1 hs
  refine Calls.call_function_entry F.kind_repr F.plain_repr F.entry_repr (F.args_repr1 _) ?_
  unfold Builtin.«repr»
  refine wpAny_bind (m := oneArg "repr" _) (wpAny_pure ?_)
  refine wpAny_bind (wpAny_cRoomFor (show A.in1.units < cLine from hu) ?_)
  refine wpAny_bind (show wpAny _ _ (specialOf (.ref e) (Str.ofString "__repr__")) _ _ _ from ?_)
  unfold specialOf
  refine wpAny_bind (x.LT.here (hf.here ?_))
  refine wpAny_bind (m := callSpecialIfBound? (.ref e) (Str.ofString "__repr__")) (bf_callSpecialIfBound x.LT hf (F.excStr_Exception.repr.bind _) (bf_call_bexcRepr x hc hB ht ?_ hsz))
  refine wpAny_bind (wpAny_isInstance (T := "str") (b := true) rfl isSubtype_str_str ?_)
  exact wpAny_pure ⟨_, rfl, h⟩
end
end PySem

set_option linter.all false
set_option maxHeartbeats 4000000
/-! Own rules: exceptions of own classes as values: made. -/
namespace PySem
namespace HandSPX
section
variable {prog : Program} {w : World} {A : Around} {E : Value → Shared → Prop} {R : Result → Shared → Prop} {h : Heap} {g : Array GenState} {d : Drawn} {t : Nat} {os : OsState}
variable {nm q : Str} {C N : Addr} {bs bm bmB : List Value} {hdct : Bool} {sn : List Str} {sub : List Value} {ab : Bool} {col : Option Bool} {dd : Option Addr} {k0 k1 k2 k3 k5 : Option Value} {B newId initId : String}
/-- as init_base, the new args told -/
theorem init_baseT (F : ExcBaseFacts B newId initId bmB) (hT : ∀ X : String, bm.contains (.type X) = bmB.contains (.type X)) {e t0 : Addr} {rest : List Value}
    (hC : h.get? C = some (excClassObj nm q C N bs bm hdct sn sub ab col dd k0 k1 k2 k3 k5 newId)) (he : h.get? e = some (excO C t0)) (hrest : rest.length ≤ sizeLine)
    (hq : ∀ h' t1, (∀ b o, b ≠ e → h.get? b = some o → h'.get? b = some o) → h.objs.size ≤ t1 → t1 ≠ e → h'.get? e = some (excO C t1) → (∃ o n, h'.get? t1 = some o ∧ o.cls = .type "tuple" ∧ o.data = .seq rest.toArray n) → R (.ok (.ret .none)) ⟨h', g, d, t, os⟩) :
    codeAny (model prog w) A (.call (.builtin initId) ⟨.ref e :: rest, []⟩) R ⟨h, g, d, t, os⟩ := by
  refine codeAny_call_builtin F.init.plain F.initEntry (check_init_own F hT hC he rfl ?_)
  wp_walk
  have ne : h.objs.size ≠ e := Nat.ne_of_gt (Heap.lt_size he)
  refine hq _ h.objs.size (fun b o hb ho => ?_) (Nat.le_refl _) ne ?_ ?_
  · rw [Heap.get?_update_other _ _ (Ne.symm hb)]
    exact Heap.get?_push_of_some _ ho
  · rw [Heap.get?_update_self _ (Heap.get?_push_of_some _ he) rfl]
    rfl
  · refine ⟨{ cls := Value.type "tuple", data := Data.seq rest.toArray }, _, ?_, rfl, rfl⟩
    rw [Heap.get?_update_other _ _ (Ne.symm ne)]
    exact Heap.get?_push_size _ rfl
end
end HandSPX
end PySem

namespace Bf
open PySem PySem.Spec PyProof.Rows L2
/-- at e: an exception of the class at C, its dict (none as yet | at d), its args at t -/
def exoT (e C : Addr) (d : Option Addr) (t : Addr) : HO := .ext fun h => h.get? e = some ({ cls := .ref C, dict := d, data := .fields #[.ref t, .none, .none, .none, .bool false, .none] } : Obj)
theorem exoT_own {e C t x : Addr} {d : Option Addr} : exoT e C d t ≠ .own x := fun z => by
  have z' : HO.ext _ = HO.own x := z
  cases z'
theorem exoT_tup {e C t : Addr} {d : Option Addr} {xs : List V} : exoT e C d t ≠ .tup xs := fun z => by
  have z' : HO.ext _ = HO.tup xs := z
  cases z'
theorem exoT_frz {e C t : Addr} {d : Option Addr} {o : Obj} {u : HO} : exoT e C d t ≠ .frz o u := fun z => by
  have z' : HO.ext _ = HO.frz o u := z
  cases z'
theorem exoT_tbl {e C t : Addr} {d : Option Addr} {ps : Array Value} : exoT e C d t ≠ .tbl ps := fun z => by
  have z' : HO.ext _ = HO.tbl ps := z
  cases z'
theorem exoT_ok {P : Program} {w : World} {H : Hp} {h : Heap} {e C t : Addr} {d : Option Addr} (he : h.get? e = some ({ cls := .ref C, dict := d, data := .fields #[.ref t, .none, .none, .none, .bool false, .none] } : Obj)) : ObjOk P w H h e (exoT e C d t) :=
  ⟨he, ⟨_, he⟩, fun h1 h2 z k => k _ z⟩
theorem exoT_at {P : Program} {w : World} {H : Hp} {h : Heap} {e C t : Addr} {d : Option Addr} (hok : HOk P w H h) (he : H e = some (exoT e C d t)) : h.get? e = some ({ cls := .ref C, dict := d, data := .fields #[.ref t, .none, .none, .none, .bool false, .none] } : Obj) := by
  have x : ObjOk P w H h e (.ext fun h => h.get? e = some ({ cls := .ref C, dict := d, data := .fields #[.ref t, .none, .none, .none, .bool false, .none] } : Obj)) := hok e _ he
  exact x.1

section
variable {X : Cx} {pins : List (Addr × Obj)} {σ : L2.St} {H : Hp} {s : Shared} {a C t0 dx : Addr} {f : Str} {y : V} {u : Value} {fs : List (Str × V)} {Q : Unit → Shared → Prop} {E : Value → Shared → Prop} {A : Around}
/-- a new object beside a changed one -/
theorem two_un {h' : Heap} {o1 o2 oa : HO} (hok : HOk X.prog X.w H s.heap) (ea : H a = some oa) (hdn : s.heap.objs.size ≤ dx) (hx : ∃ o, h'.get? a = some o) (k : ∀ b o, b ≠ a → s.heap.get? b = some o → h'.get? b = some o)
    (tu : ∀ xs, oa ≠ .tup xs) (fr : ∀ o u, oa ≠ .frz o u) (tb : ∀ ps, oa ≠ .tbl ps) : Un X.fs [] H (upd (upd H dx o1) a o2) s.heap h' := by
  have hnd : H dx = none := hok.fresh hdn
  have nd : ∀ {b : Addr} {o : Obj}, s.heap.get? b = some o → b ≠ dx := fun {b o} q => Nat.ne_of_lt (Nat.lt_of_lt_of_le (Heap.lt_size q) hdn)
  have na : ∀ {b : Addr}, H b = none → b ≠ a := fun {b} n z => by
    rw [z, ea] at n
    cases n
  exact {
    keep := fun b o q n _ _ => k b o (na n) q
    slot := fun b o q n _ _ => ⟨o.slots, k b o (na n) q⟩
    free := fun b o q n _ => by rw [upd_ne (na n), upd_ne (nd q)]; exact n
    there := fun b o q _ => by
      by_cases hb : b = a
      · rw [hb]; exact hx
      · exact ⟨o, k b o hb q⟩
    tups := fun b xs q => by rw [upd_ne (at_ne ea q (tu xs)), upd_ne (ne_of_none q hnd)]; exact q
    frzs := fun b o v q => by rw [upd_ne (at_ne ea q (fr o v)), upd_ne (ne_of_none q hnd)]; exact q
    tbls := fun b ps q => ⟨#[], by rw [upd_ne (at_ne ea q (tb ps)), upd_ne (ne_of_none q hnd), q]; simp⟩ }
/-- what stands beside stays -/
theorem two_ok {h' : Heap} {o1 o2 oa : HO} (hok : HOk X.prog X.w H s.heap) (ea : H a = some oa) (hdn : s.heap.objs.size ≤ dx) (k : ∀ b o, b ≠ a → s.heap.get? b = some o → h'.get? b = some o)
    (ow : ∀ x, oa ≠ .own x) (tu : ∀ xs, oa ≠ .tup xs) (q1 : ∀ H', ObjOk X.prog X.w H' h' dx o1) (q2 : ∀ H', ObjOk X.prog X.w H' h' a o2) : HOk X.prog X.w (upd (upd H dx o1) a o2) h' := fun b o q => by
  have hnd : H dx = none := hok.fresh hdn
  by_cases hb : b = a
  · subst hb
    rw [upd_same] at q
    cases q
    exact q2 _
  · rw [upd_ne hb] at q
    by_cases hd : b = dx
    · subst hd
      rw [upd_same] at q
      cases q
      exact q1 _
    · rw [upd_ne hd] at q
      exact (hok b o q).stay (fun c v hc z => k c v (by
          rcases hc with hc | hc
          · rw [hc]
            exact hb
          · exact at_ne ea hc (ow _)) z)
        (fun c hc => by rw [upd_ne (at_ne ea hc (ow _)), upd_ne (ne_of_none hc hnd)]; exact hc) (fun c xs hc => by rw [upd_ne (at_ne ea hc (tu xs)), upd_ne (ne_of_none hc hnd)]; exact hc)
/-- self.f = y, the first one -/
theorem ostT_new (T : OexC X.K C) (I : L2.Inv X pins σ H s) (e : H a = some (exoT a C none t0)) (hno : PySem.W.findIn X.K (.ref C) f = some none) (ry : RelV y u)
    (h : ∀ dx s', H dx = none → dx ≠ a → L2.Inv X pins σ (upd (upd H dx (exd dx [(f, y)])) a (exoT a C (some dx) t0)) s' → Q () s') : wpAny (model X.prog X.w) A (setAttr (.ref a) f u) Q E s := by
  obtain ⟨nm, q, N, bs, bm, sn, sub, ab, col, dd, k0, k1, k2, k3, k5, hC, hbm⟩ := T.cls
  have hcl : PySem.W.clsIn X.K C = some { name := nm, bases := bs, mro := .ref C :: bm, ns := N, qualname := q, hasDict := true, slotNames := sn, subclasses := sub, abstract := ab, collection := col, hasDel := false } := by unfold PySem.W.clsIn; rw [hC] <;> rfl
  have ho := exoT_at I.hok e
  obtain ⟨hp, g, d, t, os⟩ := s
  refine PySem.W.set_plain I.kIn (ox := { cls := .ref C, dict := none, data := .fields #[.ref t0, .none, .none, .none, .bool false, .none] }) (od := none) ⟨ho, rfl, rfl, trivial⟩ T.sa ?_
  refine PySem.HandSPX.exc_osa I.kIn ho hcl (show PySem.HandSPX.refsVE (.ref C :: bm) = true from hbm) rfl hno (fun h' tk' dx k dn dne hx hn => ?_)
  exact h dx _ (I.hok.fresh dn) dne (I.un (t' := tk') (two_un I.hok e dn ⟨_, hx⟩ k (fun _ => exoT_tup) (fun _ _ => exoT_frz) fun _ => exoT_tbl)
    (two_ok I.hok e dn k (fun _ => exoT_own) (fun _ => exoT_tup) (fun _ => exd_ok hn (relO_put (fs := []) ry fun g => True.intro)) fun _ => exoT_ok hx))
/-- ValueError.__init__(self, ..): the args are laid anew -/
theorem oinitT {us : List Value} {vs : List V} {Q : Value → Shared → Prop} (T : OexC X.K C) (I : L2.Inv X pins σ H s) (e : H a = some (exoT a C none t0)) (rv : Vals vs us) (hl : us.length ≤ sizeLine)
    (h : ∀ t1 s', H t1 = none → t1 ≠ a → L2.Inv X pins σ (upd (upd H t1 (.tup vs)) a (exoT a C none t1)) s' → Q .none s') : wpAny (model X.prog X.w) A (call (.builtin "ValueError.__init__") (.ref a :: us)) Q E s := by
  obtain ⟨nm, q, N, bs, bm, sn, sub, ab, col, dd, k0, k1, k2, k3, k5, hC, hbm⟩ := T.cls
  have ho := exoT_at I.hok e
  obtain ⟨hp, g, d, t, os⟩ := s
  refine wpAny_call (PySem.HandSPX.init_baseT F.excBase_ValueError (fun Y => PySem.HandSPX.refsVE_contains Y bm hbm) (I.kIn _ _ hC) ho hl fun h' t1 k dn dne hx ht => ?_)
  obtain ⟨o, n, g1, g2, g3⟩ := ht
  exact h t1 _ (I.hok.fresh dn) dne (I.un (t' := t) (two_un I.hok e dn ⟨_, hx⟩ k (fun _ => exoT_tup) (fun _ _ => exoT_frz) fun _ => exoT_tbl)
    (two_ok I.hok e dn k (fun _ => exoT_own) (fun _ => exoT_tup) (fun _ => ⟨by rw [Paired.length rv]; exact hl, us, rv, o, g1, g2, n, g3⟩) fun _ => exoT_ok hx))
end

/-! ### readings and rules -/
/-- ValueError.__init__(self, ..) -/
def tVeIT (K : PySem.W.Frag) (ta : TA) : TE := fun σ H Q => ta σ H fun vs H1 => ∃ (a C t : Addr) (ws : List V), vs = .ref a :: ws ∧ ws.length ≤ 1000 ∧ OexC K C ∧ H1 a = some (exoT a C none t) ∧
  ∀ t1, H1 t1 = none → t1 ≠ a → Q .non (upd (upd H1 t1 (.tup ws)) a (exoT a C none t1))
/-- self.f = e, the first field -/
def tOstT (K : PySem.W.Frag) (f : Str) (to te : TE) : TS := fun D σ H => te σ H fun y H1 => to σ H1 fun x H2 => ∃ a C t : Addr, x = .ref a ∧ OexC K C ∧ PySem.W.findIn K (.ref C) f = some none ∧
  H2 a = some (exoT a C none t) ∧ ∀ dx, H2 dx = none → dx ≠ a → D.nx σ (upd (upd H2 dx (exd dx [(f, y)])) a (exoT a C (some dx) t))
/-- C(e, ..) as a value, C's own __init__ keeping sp -/
def tMkT (C : Addr) (sp : Sp) (ta : TA) : TE := fun σ H Q => ta σ H fun vs H1 => vs.length ≤ 1000 ∧ ∀ a t, H1 a = none → sp (.ref a :: vs) (upd H1 a (exoT a C none t)) (fun v H2 => v = .non ∧ Q (.ref a) H2) (fun _ _ _ => False)
section
variable {X : Cx} {o e : Expr} {es : List Expr} {to te : TE} {ta : TA} {f : Str} {p p' p1 p2 pos : Pos}
theorem pe_veinitT {pl : Sem Bool} (hg : Gl X "ValueError") (hm : X.mg "ValueError" = none) (vV : PySem.W.findCls X.K (.type "ValueError") (.type "type") "__init__" = some (.val (.builtin "ValueError.__init__"))) (ha : PA X (e :: es) ta)
    (hc : eval (.Call (.Attribute (.Name "ValueError" p1) "__init__" p2) (e :: es) [] pos) X.env = (do
      let ov ← eval (.Name "ValueError" p1) X.env
      standAt p2.atName
      let (f, first) ← holding [ov] (getMethod ov "__init__" pl)
      callWith pos f first (backTo pos (starEach (e :: es) X.env)) (backToKw pos (keywordEach [] X.env))) := by rfl)
    (he : starEach (e :: es) X.env = (false, eval e X.env) :: starEach es X.env := by rfl) (hpl : (backTo pos (starEach es X.env)).any (·.1) = false := by rfl) :
    PE X (.Call (.Attribute (.Name "ValueError" p1) "__init__" p2) (e :: es) [] pos) (tVeIT X.K ta) := by
  refine ⟨fun pins s σ H Q I h => ?_⟩
  refine PySem.W.methodCall_KW (ld_blt I hg hm PyProof.Rows.Boot.«ValueError» ?_ (by decide) (by decide)) hc
  obtain ⟨m, fr⟩ := I.fr
  refine PySem.W.method_type fr I.ok.mod.kin PySem.OEX.typ_VE (by decide +kernel) vV (by decide +kernel) ?_
  show wpAny _ _ (callWith pos (Value.builtin "ValueError.__init__") [] (backTo pos (starEach (e :: es) X.env)) []) _ _ _
  refine PyProof.Rows.callWith_method1 (thn (ha.run pos pins _ σ H _ (I.tok _) h) fun us s1 ⟨vs, H1, I1, r1, a, C, t, ws, ev, hl, T, ea, q⟩ => ?_) he hpl
  subst ev
  cases r1 with
  | @cons _ u0 _ ur ra rw' =>
    obtain rfl : u0 = Value.ref a := ra
    have hlen : ur.length ≤ sizeLine := by
      rw [← Paired.length rw', sizeLine_eq]
      omega
    exact oinitT T I1 ea rw' hlen fun t1 s' n ne J => ⟨.non, _, J, rfl, q t1 n ne⟩
theorem ps_ostT (ho : PE X o to) (he : PE X e te) (hs : swapsWith e (some (.Attribute o f p')) pos.line X.env = pure false := by rfl) : PS X (.Assign [.Attribute o f p'] e pos) (tOstT X.K f to te) := by
  refine ⟨fun pins s σ H D I h => ?_⟩
  refine plainObj_wpAny_Assign_Attribute (thn (he.run pins s σ H _ I h) fun v s1 ⟨y, H1, I1, r1, q1⟩ => thn (ho.run pins s1 σ H1 _ I1 q1) fun u s2 ⟨x, H2, I2, r2, a, C, t, ex, T, hno, ea, q⟩ => ?_) hs
  subst ex
  obtain rfl : u = Value.ref a := r2
  exact ostT_new T I2 ea hno r1 fun dx s' n ne J => ⟨σ, _, J, q dx n ne⟩
theorem pe_oexT {CX : CXT} {x : Str} {C fI : Addr} {k : Nat} {fd : FuncData} {ps : List Str} {sp : Sp} (T : OexC X.K C) (iC : PySem.W.findIn X.K (.ref C) "__init__" = some (some (.ref fI))) (tI : PySem.W.typeIn X.K (.ref fI) = some (.type "function"))
    (F1 : FnOk X.prog X.w X.K X.mg X.base CX k fI fd ps sp) (hr : Room (k + 1) X.A) (hb : Binds X.K fd ps []) (hx : Passes CX X (fun _ _ _ => False)) (hg : Gl X x) (hm : X.mg x = some (.ref C)) (ha : PA X (e :: es) ta)
    (hdb : (x == ("__debug__" : Str)) = false := by decide) (he : starEach (e :: es) X.env = (false, eval e X.env) :: starEach es X.env := by rfl) (hpl : (backTo pos (starEach es X.env)).any (·.1) = false := by rfl) :
    PE X (.Call (.Name x p) (e :: es) [] pos) (tMkT C sp ta) := by
  refine ⟨fun pins s σ H Q I h => ?_⟩
  obtain ⟨nm, q, N, bs, bm, sn, sub, ab, col, dd, k0, k1, k2, k3, k5, hC, hbm⟩ := T.cls
  refine wpAny_Call_Name_kw (ld_glob I hg hm ?_ hdb)
  refine PySem.W.callWith_K (h₀ := X.base) I.ok.mod.kin T.kC (thn (ha.run pos pins s σ H _ I h) fun us s1 ⟨vs, H1, I1, r1, hz, q1⟩ => ⟨I1.kIn, ?_⟩) he hpl
  show wpAny _ _ (call (.ref C) us) _ _ _
  obtain ⟨hp, g, dr, tk, os⟩ := s1
  have hsz : hp.objs.size ≤ hp.objs.size + 1 := Nat.le_succ _
  have hn : H1 (hp.objs.size + 1) = none := I1.hok.fresh hsz
  have hq := q1 (hp.objs.size + 1) hp.objs.size hn
  have kk : ∀ b o, hp.get? b = some o → ((hp.push (PySem.W.kdv_tup us)).push (PySem.HandSPX.excO C hp.objs.size)).get? b = some o := fun b o e => Heap.get?_push_of_some _ (Heap.get?_push_of_some _ e)
  have hget : ((hp.push (PySem.W.kdv_tup us)).push (PySem.HandSPX.excO C hp.objs.size)).get? (hp.objs.size + 1) = some (PySem.HandSPX.excO C hp.objs.size) := by heap_get
  have I2 : L2.Inv X pins σ (upd H1 (hp.objs.size + 1) (exoT (hp.objs.size + 1) C none hp.objs.size)) ⟨(hp.push (PySem.W.kdv_tup us)).push (PySem.HandSPX.excO C hp.objs.size), g, dr, tk, os⟩ :=
    I1.laid (t' := tk) (a := hp.objs.size + 1) (o := exoT (hp.objs.size + 1) C none hp.objs.size) (h' := (hp.push (PySem.W.kdv_tup us)).push (PySem.HandSPX.excO C hp.objs.size)) kk hsz (exoT_ok hget)
  have r2 : Vals (V.ref (hp.objs.size + 1) :: vs) (Value.ref (hp.objs.size + 1) :: us) := .cons rfl r1
  have hl : (Value.ref (hp.objs.size + 1) :: us ++ []).length = ps.length := by
    have e := r2.length
    rw [F1.len _ _ _ _ hq] at e
    rw [List.append_nil]
    exact e.symm
  have hus : us.length ≤ sizeLine := by
    rw [← Paired.length r1, sizeLine_eq]
    omega
  have bd : BindsTo ⟨(hp.push (PySem.W.kdv_tup us)).push (PySem.HandSPX.excO C hp.objs.size), g, dr, tk, os⟩ fd ⟨Value.ref (hp.objs.size + 1) :: us, []⟩ (ps.zip (Value.ref (hp.objs.size + 1) :: us)) := by
    have z := hb _ (Value.ref (hp.objs.size + 1) :: us) I2.kIn hl
    rw [List.append_nil] at z
    exact z
  refine wpAny_call (PySem.HandSPX.call_own F.excBase_ValueError (fun Y => PySem.HandSPX.refsVE_contains Y bm hbm) (I1.kIn _ _ hC) (PySem.W.looks_findIn I1.kIn iC) (fun self => PySem.W.bind_fn I1.kIn self tI) hus
    (codeAny_mono (F1.run _ X.stack _ _ ⟨Value.ref (hp.objs.size + 1) :: us, []⟩ (Value.ref (hp.objs.size + 1) :: us) _ _ (fun _ _ _ => False) (hr.make C us []) (I2.env0.make C us []) bd r2 hq) fun r s' hq' => ?_))
  cases r with
  | error er => exact hx pins σ _ _ er s' I2 hq'
  | ok fl =>
    cases fl with
    | ret u =>
      obtain ⟨v, H2, os2, bare2, un2, hok2, rv, ev, q2⟩ := hq'
      subst ev
      exact ⟨rv, L2.Inv.after (Q := fun z H' => Q z H') (u := .ref (hp.objs.size + 1)) I2 ⟨.ref (hp.objs.size + 1), H2, os2, bare2, un2, hok2, rfl, q2⟩⟩
    | next => exact False.elim hq'
    | brk => exact False.elim hq'
    | cont => exact False.elim hq'
end
end Bf

set_option linter.all false
/-! Own rules: own exceptions with one text as values: isinstance and repr. -/
namespace Bf
open PySem PySem.Spec PyProof.Rows L2
/-- at a: an exception of the class at C, made of the text z -/
def ExV (H : Hp) (a C : Addr) (z : Str) : Prop := ∃ (d t : Addr) (fs : List (Str × V)), H a = some (exoT a C (some d) t) ∧ H d = some (exd d fs) ∧ H t = some (.tup [.str z])
theorem ExV.same {H H' : Hp} {a C : Addr} {z : Str} (e : Same H H') (h : ExV H a C z) : ExV H' a C z := by
  obtain ⟨d, t, fs, h1, h2, h3⟩ := h
  exact ⟨d, t, fs, e _ _ h1, e _ _ h2, e _ _ h3⟩
/-- what the class C must say, so that its instances are asked and written rightly -/
structure ExF (K : PySem.W.Frag) (C : Addr) (cd : ClassData) : Prop where
  cl : PySem.W.clsIn K C = some cd
  hg : PySem.W.findIn K (.ref C) "__getattribute__" = some (some (.builtin "BaseException.__getattribute__"))
  hk : PySem.W.findIn K (.ref C) "__getattr__" = some none
  hs : PySem.W.subIn K (.ref C) (.type "BaseException") = some true
  hd : PySem.W.hasDictIn K C = true
  ha : PySem.W.findIn K (.ref C) "__class__" = some (some (.builtin "object.__class__"))
  hn : PySem.W.specialIn K (.builtin "object.__class__") "__get__" = some (some (.builtin "getset_descriptor.__get__"))
  ht : PySem.W.takesIn K (.builtin "object.__class__") = some true
  hm : PySem.W.mroIn K C (.type "object") = some true
  hr : PySem.W.findIn K (.ref C) "__repr__" = some (some (.builtin "BaseException.__repr__"))
/-- isinstance(e, c) -/
def rIsiE (K : PySem.W.Frag) : List V → Hp → VK → Prop := fun xs H Q => ∃ (a C : Addr) (z : Str) (cd : ClassData) (c : V) (u : Value) (b : Bool), xs = [.ref a, c] ∧ ClsV c u ∧ ExV H a C z ∧ ExF K C cd ∧ PySem.W.kitOne K (.ref C) u = some b ∧ Q (.bl b) H
/-- repr(e) -/
def rReprE (K : PySem.W.Frag) : List V → Hp → VK → Prop := fun xs H Q => ∃ (a C : Addr) (z : Str) (cd : ClassData), xs = [.ref a] ∧ ExV H a C z ∧ ExF K C cd ∧ (excTold cd z).length ≤ sizeLine ∧ Q (.str (excTold cd z)) H
section
variable {X : Cx}
theorem call_isiE : CallR X (.builtin "isinstance") (rIsiE X.K) := by
  intro pins s σ H xs us Q I r h
  obtain ⟨a, C, z, cd, c, u, b, rfl, k, ev, F, e, q⟩ := h
  obtain ⟨u1, u2, rfl, r1, r2⟩ := vals2 r
  have e2 := k.eq r2
  subst e2
  cases (show u1 = Value.ref a from r1)
  obtain ⟨d, t, fs, h1, h2, h3⟩ := ev
  have ho := exoT_at I.hok h1
  obtain ⟨mA, hns, _⟩ := exd_at I.hok h2
  obtain ⟨oD, _, _, hoD, _⟩ := hns
  have J : PySem.W.InstAt s.heap a { cls := .ref C, dict := some d, data := .fields #[.ref t, .none, .none, .none, .bool false, .none] } C (some oD) := ⟨ho, rfl, rfl, hoD⟩
  exact PySem.W.kia_one (PySem.W.bf_kitx_exc F.hg F.hk F.hs F.hd F.ha F.hn F.ht F.hm) I.kIn J e (fun z => nomatch z) fun tk => ⟨.bl b, H, I.tok tk, rfl, q⟩
theorem call_reprE (hu : X.A.units + 64 < cLine) : CallR X (.builtin "repr") (rReprE X.K) := by
  intro pins s σ H xs us Q I r h
  obtain ⟨a, C, z, cd, rfl, ev, F, sz, q⟩ := h
  obtain ⟨u, rfl, rx⟩ := vals1 r
  cases (show u = Value.ref a from rx)
  obtain ⟨d, t, fs, h1, h2, h3⟩ := ev
  have ho := exoT_at I.hok h1
  obtain ⟨_, its, rv, o, e1, e2, n, e3⟩ := (show ObjOk X.prog X.w H s.heap t (.tup [.str z]) from I.hok t _ h3)
  obtain ⟨u, rfl, ru⟩ := vals1 rv
  obtain ⟨tk, rfl⟩ := (show ∃ t, u = Value.str z t from ru)
  exact PySem.bf_call_repr (m := z) (tk := tk) (t0 := t) (K := X.K) (C := C) (cd := cd) (by omega) ⟨I.kIn, _, _, ho, rfl, rfl, rfl⟩ F.cl F.hs F.hr ⟨o, n, e1, e2, e3⟩ ⟨.str (excTold cd z), H, I.tok _, ⟨_, rfl⟩, q⟩ sz
/-- isinstance of data, or of an exception -/
theorem call_isi2 {r : List V → Hp → VK → Prop} (h1 : ∀ xs H Q, r xs H Q → rIsi X.K xs H Q ∨ rIsiE X.K xs H Q) : CallR X (.builtin "isinstance") r := fun pins s σ H xs us Q I rv h =>
  (h1 xs H Q h).elim (fun z => call_isi pins s σ H xs us Q I rv z) fun z => call_isiE pins s σ H xs us Q I rv z
end
end Bf

set_option linter.all false
set_option maxHeartbeats 4000000
/-! Own rules: exceptions of own classes over ValueError, KeyError and LookupError alike: made as values, their fields. -/
namespace PySem
namespace HandSPX
open Builtin Builtin.ObjectAttr
abbrev keTail : List Value := [.type "KeyError", .type "LookupError", .type "Exception", .type "BaseException", .type "object"]
abbrev leTail : List Value := [.type "LookupError", .type "Exception", .type "BaseException", .type "object"]
/-- what the mro behind an own class must say, and how such an instance is laid -/
structure Fam (newId : String) (bm : List Value) : Prop where
  ba : ∃ B i bB, ExcBaseFacts B newId i bB ∧ bm.contains (.type B) = true
  noA : bm.contains (.type "AttributeError") = false
  noN : bm.contains (.type "NameError") = false
  ob : bm.contains (.type "object") = true
  ps : ∀ self, refuseLoop self "__setattr__" bm = pure ()
/-- what T.__init__ is -/
structure InitF (B initId : String) : Prop where
  plain : plainId initId = true
  entry : entryFor table initId = some Builtin.«BaseException.__init__»
  split : splitId initId = some (B, "__init__")
  kind : builtinKind initId = some .slot
  row : Manifest.signature? initId = some ⟨.positional, "*", B, .self, [⟨"args", .varPos, false⟩]⟩
  star : (B != "*") = true
theorem initF_of {B newId initId : String} (F : ExcCallFacts B newId initId) : InitF B initId := ⟨F.init.plain, F.initEntry, F.initSplit, F.initKind, F.initRow, F.noStar⟩
theorem initF_KE : InitF "KeyError" "KeyError.__init__" where
  plain := by decide +kernel
  entry := entryFor_alias (id' := "BaseException.__init__") (by rw [fastTable_eq_tree]; kernel_rfl) (by first | rfl | decide +kernel) (by decide +kernel) (by rw [fastTable_eq_tree]; kernel_rfl)
  split := by kernel_rfl
  kind := by kernel_rfl
  row := by kernel_rfl
  star := by decide +kernel
theorem initF_VE : InitF "ValueError" "ValueError.__init__" := initF_of F.excBase_ValueError.toExcCallFacts
theorem initF_LE : InitF "LookupError" "LookupError.__init__" := initF_of F.excBase_LookupError.toExcCallFacts
theorem ref_ne_type {C : Addr} {X : String} : (Value.type X == Value.ref C) = false := rfl
theorem has_ref {C : Addr} {X : String} (l : List Value) : (Value.ref C :: l).contains (.type X) = l.contains (.type X) := by
  rw [List.contains_cons, ref_ne_type, Bool.false_or]
theorem Fam.under {newId : String} {bm : List Value} (f : Fam newId bm) (C : Addr) : Fam newId (.ref C :: bm) where
  ba := let ⟨B, i, bB, F, h⟩ := f.ba; ⟨B, i, bB, F, by rw [has_ref]; exact h⟩
  noA := by rw [has_ref]; exact f.noA
  noN := by rw [has_ref]; exact f.noN
  ob := by rw [has_ref]; exact f.ob
  ps := fun self => by rw [refuseLoop_ref]; exact f.ps self
theorem fam_VE : Fam "ValueError.__new__" veTail := ⟨⟨_, _, _, F.excBase_ValueError, by decide +kernel⟩, by decide +kernel, by decide +kernel, by decide +kernel, F.store_ValueError.passes⟩
theorem fam_LE : Fam "LookupError.__new__" leTail := ⟨⟨_, _, _, F.excBase_LookupError, by decide +kernel⟩, by decide +kernel, by decide +kernel, by decide +kernel, fun self => by kernel_rfl⟩
theorem fam_KE : Fam "LookupError.__new__" keTail := ⟨⟨_, _, _, F.excBase_LookupError, by decide +kernel⟩, by decide +kernel, by decide +kernel, by decide +kernel, fun self => by kernel_rfl⟩
section
variable {M : Model} {A : Around} {E : Value → Shared → Prop} {h : Heap} {g : Array GenState} {d : Drawn} {t : Nat} {os : OsState}
variable {nm q : Str} {C N : Addr} {bs bm bmB : List Value} {hdct : Bool} {sn : List Str} {sub : List Value} {ab : Bool} {col : Option Bool} {dd : Option Addr} {k0 k1 k2 k3 k5 : Option Value} {B newId initId : String}
theorem z_checkNew (F : ExcBaseFacts B newId initId bmB) (hT : bm.contains (.type B) = true) {xs : List Value} {Q : Unit → Shared → Prop}
    (cC : h.get? C = some (excClassObj nm q C N bs bm hdct sn sub ab col dd k0 k1 k2 k3 k5 newId)) (z : Q () ⟨h, g, d, t, os⟩) : wpAny M A (checkBuiltinCall newId ⟨.ref C :: xs, []⟩) Q E ⟨h, g, d, t, os⟩ := by
  have c1 : (Value.ref C :: bm).contains (.type B) = true := (has_ref bm).trans hT
  have c2 := F.noStar
  simp only [checkBuiltinCall, F.newKind, F.newRow, F.newSplit]
  repeat (first | refine wpAny_loadPart_at cC ?_ | (refine wpAny_isSubtype_exc cC ?_; rw [c1]) | refine wpAny_staticBase_exc cC ?_ | refine wpAny_madeBy_exc cC ?_ | simp only [bne_self_eq_false, Bool.false_eq_true, if_false] | wp_step)
  exact z
theorem z_checkInit (F : InitF B initId) (hT : bm.contains (.type B) = true) {e : Addr} {oe : Obj} {xs : List Value} {Q : Unit → Shared → Prop}
    (cC : h.get? C = some (excClassObj nm q C N bs bm hdct sn sub ab col dd k0 k1 k2 k3 k5 newId)) (he : h.get? e = some oe) (ec : oe.cls = .ref C) (z : Q () ⟨h, g, d, t, os⟩) :
    wpAny M A (checkBuiltinCall initId ⟨.ref e :: xs, []⟩) Q E ⟨h, g, d, t, os⟩ := by
  have c1 : (Value.ref C :: bm).contains (.type B) = true := (has_ref bm).trans hT
  have c2 := F.star
  simp only [checkBuiltinCall, F.kind, F.row, F.split]
  repeat (first | (with_reducible refine wpAny_loadPart_at he ?_; rw [ec]) | with_reducible refine wpAny_loadPart_at cC ?_ | (with_reducible refine wpAny_isSubtype_exc cC ?_; rw [c1]) | wp_step)
  refine wpAny_onRaise ?_
  rw [show ∀ (a b : String) (n : Nat), Bind.check ⟨.positional, "*", B, .self, [⟨"args", .varPos, false⟩]⟩ a b n (List.map (fun x => x.fst) ({ pos := Value.ref e :: xs } : Args).kw) = pure () from fun a b n => check_star_args _ _ _ _ _ _]
  exact wpAny_pure z
end
section
variable {prog : Program} {w : World} {A : Around} {E : Value → Shared → Prop} {R : Result → Shared → Prop} {h : Heap} {g : Array GenState} {d : Drawn} {t : Nat} {os : OsState}
variable {nm q : Str} {C N : Addr} {bs bm bmB : List Value} {hdct : Bool} {sn : List Str} {sub : List Value} {ab : Bool} {col : Option Bool} {dd : Option Addr} {k0 k1 k2 k3 k5 : Option Value} {B newId initId : String}
theorem z_new (f : Fam newId bm) {xs : List Value}
    (cC : h.get? C = some (excClassObj nm q C N bs bm hdct sn sub ab col dd k0 k1 k2 k3 k5 newId))
    (z : R (.ok (.ret (.ref (h.objs.size + 1)))) ⟨(h.push { cls := .type "tuple", data := .seq xs.toArray }).push { cls := .ref C, data := .fields #[.ref h.objs.size, .none, .none, .none, .bool false, .none] }, g, d, t, os⟩) (hl : xs.length ≤ sizeLine) :
    codeAny (model prog w) A (.builtin newId ⟨.ref C :: xs, []⟩) R ⟨h, g, d, t, os⟩ := by
  obtain ⟨B, i, bB, F, hB⟩ := f.ba
  have hrest := hl
  have hends := F.ends
  have c1 : (Value.ref C :: bm).contains (.type B) = true := (has_ref bm).trans hB
  have c2 : (Value.ref C :: bm).contains (.type "AttributeError") = false := (has_ref bm).trans f.noA
  have c3 : (Value.ref C :: bm).contains (.type "NameError") = false := (has_ref bm).trans f.noN
  refine codeAny_builtinAt F.entry ?_
  unfold Builtin.«BaseException.__new__»
  refine wpAt_bind ?_
  show wpAt _ _ _ (stack >>= _) _ _ _
  refine wpAt_bind (wpAt_stack fun p u => wpAt_of_wpAny ?_)
  wp_walk
  refine wpAt_of_wpAny ?_
  rw [F.owner]
  repeat (first | with_reducible refine wpAny_madeHere_exc F.canon cC ?_ | with_reducible refine wpAny_loadPart_at cC ?_ | (with_reducible refine wpAny_isSubtype_exc cC ?_; first | rw [c1] | rw [c2] | rw [c3]) | wp_step)
  show R _ _
  rw [Heap.size_push]
  exact z
theorem z_typeCall (f : Fam newId bm) {xs : List Value} {fI : Addr} {Q : Fin → Shared → Prop}
    (cC : h.get? C = some (excClassObj nm q C N bs bm hdct sn sub ab col dd k0 k1 k2 k3 k5 newId))
    (hi : W.Looks (model prog w) h (typeLookup (.ref C) "__init__") (some (.ref fI))) (hb : ∀ self, W.Looks (model prog w) h (bindSpecial (.ref fI) self) (.ref fI, [self])) (hl : xs.length ≤ sizeLine)
    (z : codeAny (model prog w) A (.call (.ref fI) ⟨.ref (h.objs.size + 1) :: xs, []⟩) (fun r s' => match r with | .ok (.ret v) => v = .none ∧ Q (.done (.ret (.ref (h.objs.size + 1)))) s' | .ok _ => False | .error e => E e s')
      ⟨(h.push (W.kdv_tup xs)).push (excO C h.objs.size), g, d, t, os⟩) :
    wpAny (model prog w) A (Builtin.«type.__call__» ⟨.ref C :: xs, []⟩) Q E ⟨h, g, d, t, os⟩ := by
  obtain ⟨B, i, bB, F, hB⟩ := f.ba
  repeat (first | with_reducible refine wpAny_loadPart_at cC ?_ | with_reducible refine wpAny_madeBy_exc cC ?_ | wp_step)
  refine codeAny_call_builtin_code (Code.quiet_builtin _ F.quiet) (z_checkNew F hB cC ?_)
  refine z_new f cC ?_ hl
  show wpAny _ _ _ _ _ _
  have k : ∀ b o, h.get? b = some o → ((h.push (W.kdv_tup xs)).push (excO C h.objs.size)).get? b = some o := fun b o e => Heap.get?_push_of_some _ (Heap.get?_push_of_some _ e)
  have cC1 := k _ _ cC
  have gg : ((h.push (W.kdv_tup xs)).push (excO C h.objs.size)).get? (h.objs.size + 1) = some (excO C h.objs.size) := by heap_get
  have c0 : (Value.ref C :: bm).contains (.ref C) = true := by simp
  have i1 := hi.keeps k
  have b1 := (hb (.ref (h.objs.size + 1))).keeps k
  unfold isInstance
  repeat (first | with_reducible refine wpAny_loadPart_at gg ?_ | (with_reducible refine wpAny_isSubtype_exc cC1 ?_; rw [c0]) | wp_step)
  show wpAny _ _ (typeLookup (.ref C) _) _ _ _
  refine i1.at ?_
  refine wpAny_holding (wpAny_bind (b1.at ?_))
  refine wpAny_bind (wpAny_call (codeAny_mono z fun r s' y => ?_))
  rcases r with e | (v | _ | _ | _) <;> first | exact y | exact y.elim | skip
  obtain ⟨rfl, y⟩ := y
  first
    | exact wpAny_pure (wpAny_pure y)
    | (wp_walk; exact y)
theorem z_call (f : Fam newId bm) {xs : List Value} {fI : Addr}
    (cC : h.get? C = some (excClassObj nm q C N bs bm hdct sn sub ab col dd k0 k1 k2 k3 k5 newId))
    (hi : W.Looks (model prog w) h (typeLookup (.ref C) "__init__") (some (.ref fI))) (hb : ∀ self, W.Looks (model prog w) h (bindSpecial (.ref fI) self) (.ref fI, [self])) (hl : xs.length ≤ sizeLine)
    (z : codeAny (model prog w) (A.under (.builtin "type.__call__" ⟨.ref C :: xs, []⟩)) (.call (.ref fI) ⟨.ref (h.objs.size + 1) :: xs, []⟩) (W.InitBack (h.objs.size + 1) R)
      ⟨(h.push (W.kdv_tup xs)).push (excO C h.objs.size), g, d, t, os⟩) :
    codeAny (model prog w) A (.call (.ref C) ⟨xs, []⟩) R ⟨h, g, d, t, os⟩ := by
  have f1 := tc_lookup
  have f2 := tc_bind (.ref C)
  have tC : (⟨h, g, d, t, os⟩ : Shared).TypeIs (.ref C) "type" := ⟨_, cC, rfl⟩
  refine codeAny_of_tree ?_
  show wpAny _ _ (callAny (.ref C) _) _ _ _
  repeat (any_goals (first | assumption | with_reducible refine wpAny_loadPart_at cC ?_ | wp_step))
  refine ⟨rfl, ?_⟩
  refine codeAny_call_builtin_at (Code.quiet_builtin _ (by decide +kernel)) entry_typeCall (wpAny_check_type_call_sub cC (z_typeCall f cC hi hb hl ?_))
  refine codeAny_mono z fun r s' y => ?_
  rcases r with e | (v | _ | _ | _) <;> exact y
/-- T.__init__(e, ..): the args are laid anew, and told -/
theorem z_init (F : InitF B initId) (hT : bm.contains (.type B) = true) {e t0 : Addr} {xs : List Value}
    (cC : h.get? C = some (excClassObj nm q C N bs bm hdct sn sub ab col dd k0 k1 k2 k3 k5 newId)) (he : h.get? e = some (excO C t0)) (hl : xs.length ≤ sizeLine)
    (z : ∀ h' t1, (∀ b o, b ≠ e → h.get? b = some o → h'.get? b = some o) → h.objs.size ≤ t1 → t1 ≠ e → h'.get? e = some (excO C t1) → (∃ o n, h'.get? t1 = some o ∧ o.cls = .type "tuple" ∧ o.data = .seq xs.toArray n) → R (.ok (.ret .none)) ⟨h', g, d, t, os⟩) :
    codeAny (model prog w) A (.call (.builtin initId) ⟨.ref e :: xs, []⟩) R ⟨h, g, d, t, os⟩ := by
  have hrest := hl
  refine codeAny_call_builtin F.plain F.entry (z_checkInit F hT cC he rfl ?_)
  wp_walk
  have ne : h.objs.size ≠ e := Nat.ne_of_gt (Heap.lt_size he)
  refine z _ h.objs.size (fun b o hb ho => ?_) (Nat.le_refl _) ne ?_ ?_
  · rw [Heap.get?_update_other _ _ (Ne.symm hb)]
    exact Heap.get?_push_of_some _ ho
  · rw [Heap.get?_update_self _ (Heap.get?_push_of_some _ he) rfl]; rfl
  · refine ⟨{ cls := Value.type "tuple", data := Data.seq xs.toArray }, _, ?_, rfl, rfl⟩
    rw [Heap.get?_update_other _ _ (Ne.symm ne)]; exact Heap.get?_push_size _ rfl
end
/-! ### fields -/
section
variable {prog : Program} {w : World} {A : Around} {E : Value → Shared → Prop} {R : Result → Shared → Prop} {hp : Heap} {g : Array GenState} {d : Drawn} {t : Nat} {os : OsState} {K : W.Frag} {name : Str} {tk : Tok} {v : Value} {x C dx : Addr} {fv : Array Value} {cd : ClassData} {newId : String}
theorem z_set {od : Option Addr} {oD : Option Obj} (f : Fam newId cd.mro) (X : K.In hp) (I : W.InstAt hp x { cls := .ref C, dict := od, data := .fields fv } C oD) (kc : W.clsIn K C = some cd) (ka : W.findIn K (.ref C) name = some none)
    (z : wpAny (model prog w) (A.under (.builtin "object.__setattr__" ⟨[.ref x, .str name tk, v], []⟩)) (storeInOwnDict (.ref x) (.ref C) (.str name tk) name v false) (fun fin s' => match fin with | .done f => R (.ok f) s' | .again c' => c'.quiet = true ∧ codeAny (model prog w) A c' R s') (fun e s' => R (.error e) s') ⟨hp, g, d, t, os⟩) :
    codeAny (model prog w) A (.call (.builtin "object.__setattr__") ⟨[.ref x, .str name tk, v], []⟩) R ⟨hp, g, d, t, os⟩ := by
  have SF := F.store_object
  have ne : cd.mro.isEmpty = false := by
    cases e : cd.mro with
    | nil => have z := f.ob; rw [e] at z; cases z
    | cons _ _ => rfl
  have sub : W.Looks (model prog w) hp (isInstance (.ref x) (.type "object")) true := I.type.andThen (W.looks_mroIn X (by unfold W.mroIn; rw [kc, Option.bind_some, if_neg (by rw [ne]; decide), f.ob]))
  refine codeAny_call_builtin SF.slot.plain SF.entry (@W.check_slot (model prog w) _ _ ⟨hp, g, d, t, os⟩ "object.__setattr__" "object" "__setattr__" (.ref x) [.str name tk, v] [] _ SF.kind SF.split sub (SF.args (.ref x) (.str name tk) v) ?_)
  have m1 : W.Looks (model prog w) hp (mroOf (.ref C)) cd.mro := (W.looks_clsIn X kc).andThen .now
  have m2 : W.Looks (model prog w) hp (storeTaker? none) none := .now
  rw [W.osa_eq, refuse_eq]
  refine wpAny_bind (wpAny_bind (I.type.at (wpAny_bind (m1.at ?_))))
  rw [f.ps]
  exact wpAny_pure (wpAny_bind (I.type.at (wpAny_bind ((W.looks_findIn X ka).at (wpAny_bind (m2.at z))))))
theorem z_setNew (f : Fam newId cd.mro) (X : K.In hp) (hx : hp.get? x = some { cls := .ref C, data := .fields fv }) (kc : W.clsIn K C = some cd) (kh : cd.hasDict = true) (ka : W.findIn K (.ref C) name = some none)
    (z : ∀ h' tk' dx, (∀ b o, b ≠ x → hp.get? b = some o → h'.get? b = some o) → hp.objs.size ≤ dx → dx ≠ x → h'.get? x = some { cls := .ref C, dict := some dx, data := .fields fv } → h'.Ns1 dx (fun y => if y = name then some v else none) → R (.ok (.ret .none)) ⟨h', g, d, tk', os⟩) :
    codeAny (model prog w) A (.call (.builtin "object.__setattr__") ⟨[.ref x, .str name tk, v], []⟩) R ⟨hp, g, d, t, os⟩ := by
  have xs : x ≠ hp.objs.size := Nat.ne_of_lt (Heap.lt_size hx)
  refine z_set (od := none) (oD := none) f X ⟨hx, rfl, rfl, trivial⟩ kc ka ?_
  have hcls : W.Looks (model prog w) hp (classData C) cd := W.looks_clsIn X kc
  obtain ⟨nm, bs, mro, ns, qn, hd, sn, sb, ab, col, del⟩ := cd
  dsimp only at kh
  subst kh
  unfold storeInOwnDict ownDictForStores
  repeat (first | with_reducible refine store_in_new ?_ ?_ | with_reducible refine wpAny_loadPart_at hx ?_ | with_reducible refine hcls.at ?_ | wp_step)
  · exact ⟨_, #[], _, (Heap.get?_update_ne _ _ _ _ xs.symm).trans (Heap.get?_push_at rfl rfl), rfl, fun e he => absurd he (by simp), fun _ => rfl⟩
  · intro h' tk' hn' hs
    have hx1 : (hp.push { cls := .type "dict", data := .dict #[] }).get? x = some { cls := .ref C, data := .fields fv } := Heap.get?_push_of_some _ hx
    refine z h' tk' hp.objs.size (fun b o hb ho => ?_) (Nat.le_refl _) xs.symm ?_ hn'
    · exact (hs.2 b (Nat.ne_of_lt (Heap.lt_size ho))).trans ((Heap.get?_update_ne _ _ _ _ hb).trans (Heap.get?_push_of_some _ ho))
    · exact (hs.2 x xs).trans (Heap.get?_update_self _ hx1 rfl)
theorem z_setOld {m0 : Str → Option Value} {nl : List Str} (f : Fam newId cd.mro) (X : K.In hp) (hx : hp.get? x = some { cls := .ref C, dict := some dx, data := .fields fv }) (hns : hp.Ns1 dx m0) (hw : Within m0 nl) (hl : nl.length ≤ 1000) (kc : W.clsIn K C = some cd) (kh : cd.hasDict = true) (ka : W.findIn K (.ref C) name = some none)
    (z : ∀ h' tk', (∀ b o, b ≠ dx → hp.get? b = some o → h'.get? b = some o) → h'.Ns1 dx (fun y => if y = name then some v else m0 y) → R (.ok (.ret .none)) ⟨h', g, d, tk', os⟩) :
    codeAny (model prog w) A (.call (.builtin "object.__setattr__") ⟨[.ref x, .str name tk, v], []⟩) R ⟨hp, g, d, t, os⟩ := by
  obtain ⟨oD, esD, epD, hoD, hdD, _⟩ := hns.count hw
  refine z_set (od := some dx) (oD := some oD) f X ⟨hx, rfl, rfl, hoD⟩ kc ka ?_
  have hcls : W.Looks (model prog w) hp (classData C) cd := W.looks_clsIn X kc
  obtain ⟨nm, bs, mro, ns, qn, hd, sn, sb, ab, col, del⟩ := cd
  dsimp only at kh
  subst kh
  unfold storeInOwnDict ownDictForStores
  repeat (first | with_reducible refine PySem.OEX.store_in_old hns hw hl ?_ | with_reducible refine wpAny_loadPart_at hx ?_ | with_reducible refine hcls.at ?_ | wp_step)
  intro h' tk' hn' hs
  exact z h' tk' (fun b o hb ho => (hs.2 b hb).trans ho) hn'
end
end HandSPX
end PySem

/-! Own rule: enumerate over a tuple. -/
namespace Bf
open PySem PySem.Spec PyProof.Rows L2

/-- the tuple's cells behind enumerate(t) -/
theorem enum_new_tup (t : Addr) (items : Array Value) (n : Nat) (dct : Option Addr) (sl : Array (Option Value)) :
    Meets (Builtin.«enumerate.__new__» ⟨[.type "enumerate", .ref t], []⟩) (fun _ R s => s.heap.get? t = some { cls := .type "tuple", dict := dct, data := .seq items n, slots := sl } ∧
      R (.ok (.ret (.ref (s.heap.push { cls := .type "tuple_iterator", data := .fields #[.ref t, .int 0 0] }).objs.size)))
        { s with heap := (s.heap.push { cls := .type "tuple_iterator", data := .fields #[.ref t, .int 0 0] }).push { cls := .type "enumerate", data := .fields #[.none, .bool false, .ref s.heap.objs.size, rawInt 0, .none, .none] } }) :=
  .of_wp fun prog w A R s h => by
    obtain ⟨hp, g, d, tk, os⟩ := s
    obtain ⟨ht, h⟩ := h
    have sub := sub_enumerate
    have it : ∀ {A' : Around} {E : Value → Shared → Prop} {Q : Value → Shared → Prop}, Q (.ref hp.objs.size) ⟨hp.push { cls := .type "tuple_iterator", data := .fields #[.ref t, .int 0 0] }, g, d, tk, os⟩ →
        wpAny (model prog w) A' (pyIter (.ref t)) Q E ⟨hp, g, d, tk, os⟩ := fun q => wpAny_pyIter_tuple (s := ⟨hp, g, d, tk, os⟩) ⟨_, ht, rfl, n, rfl⟩ q
    wp_walk using it
    refine wpAny_stack_any fun st => wpAny_pure ?_
    split
    · rename_i c _ _ _ _ _
      cases (c == Value.type "enumerate") <;> (wp_walk using it; exact ⟨_, rfl, h⟩)
    · wp_walk using it
      exact ⟨_, rfl, h⟩

section
variable {prog : Program} {w : World} {A : Around} {E : Value → Shared → Prop} {s : Shared}
theorem enum_tup {t : Addr} {items : Array Value} {Q : Value → Shared → Prop} (T : s.heap.IsTuple t items)
    (h : ∀ h' : Heap, IsEnum h' (s.heap.objs.size + 1) s.heap.objs.size 0 .none → h'.IsTupleIter s.heap.objs.size t 0 → (∀ b o, s.heap.get? b = some o → h'.get? b = some o) → Q (.ref (s.heap.objs.size + 1)) { s with heap := h' }) :
    wpAny (model prog w) A (call (.type "enumerate") [.ref t]) Q E s := by
  obtain ⟨⟨c, dct, dt, sl⟩, e1, e2, n, e3⟩ := T
  cases (show c = .type "tuple" from e2)
  cases (show dt = .seq items n from e3)
  refine callType_new F.called_enumerate (by decide) (F.typeCall_enumerate_1 _) (F.newCall_enumerate_1 _) (fun obj => F.args_object_init_2 obj _) F.entry_enumerate_new (enum_new_tup t items n dct sl) ⟨e1, ?_⟩
  have sz : (s.heap.push { cls := .type "tuple_iterator", data := .fields #[.ref t, .int 0 0] }).objs.size = s.heap.objs.size + 1 := Heap.size_push ..
  have en := Heap.get?_push_size (s.heap.push { cls := .type "tuple_iterator", data := .fields #[.ref t, .int 0 0] })
    (o := { cls := .type "enumerate", data := .fields #[.none, .bool false, .ref s.heap.objs.size, rawInt 0, .none, .none] }) rfl
  rw [sz] at en
  show _ ∧ _
  rw [sz]
  exact ⟨⟨_, en, rfl⟩, h _ en ⟨_, Heap.get?_push_of_some _ (Heap.get?_push_size _ rfl), rfl, rfl⟩ fun b o x => Heap.get?_push_of_some _ (Heap.get?_push_of_some _ x)⟩
end

/-- the tuple at a, each item in a new pair -/
def Iet (K : PySem.W.Frag) (a : Addr) : It where
  go i H := ∃ (xs : List V) (x : V), SqT K H a xs ∧ xs[i]? = some x
  yld i H v H' := ∃ T x, v = .ref T ∧ H T = none ∧ H' = upd H T (.tup [.int (i : Nat), x]) ∧ ∀ xs, SqT K H a xs → xs[i]? = some x
  stop i H := ∃ xs : List V, SqT K H a xs ∧ i = xs.length
theorem turn_iet {P : Program} {w : World} {K : PySem.W.Frag} {elts : List Expr} {kk : Nat} {tpos : Pos} (a e it : Addr) :
    Turn P w K (.Tuple elts kk tpos) (Iet K a) [e, it] e (fun i h => (∃ old, IsEnum h e it ((i : Nat) : Int) old) ∧ h.IsTupleIter it a i ∧ e ≠ it) where
  mem := List.mem_cons_self
  obj i h st b hb := by
    obtain ⟨⟨old, he⟩, ⟨o, ho, hc, hd⟩, _⟩ := st
    rcases List.mem_cons.mp hb with z | z
    · cases z
      exact ⟨_, he, fun v q => nomatch q⟩
    · have z := List.mem_singleton.mp z
      exact ⟨o, z ▸ ho, fun v q => by rw [hd] at q; cases q⟩
  keep i h h' st k := by
    obtain ⟨⟨old, he⟩, hi, ne⟩ := st
    exact ⟨⟨old, k e (by simp) _ he⟩, hi.at fun o q => k it (by simp) o q, ne⟩
  item := by
    rintro X rfl rfl rfl hc i pins s σ H E I hf ⟨⟨old, he⟩, hit, ne⟩ ⟨xs, x, hq, hx⟩
    obtain ⟨its, rv, p, hz⟩ := I.tuple hq
    obtain ⟨u, hu, ru⟩ := rv.get hx
    have p' : s.heap.IsTuple a its.toArray := p
    obtain ⟨oa, hoa, hca, na, hda⟩ := id p'
    have nia : a ≠ it := fun z => by
      obtain ⟨o, ho, hc', hd'⟩ := hit
      rw [← z, hoa] at ho
      cases ho
      rw [hda] at hd'
      cases hd'
    have nea : e ≠ a := fun z => by
      have he2 : s.heap.get? e = _ := he
      rw [z, hoa] at he2
      cases he2
      cases hda
    have hel : e < s.heap.objs.size := Heap.lt_size he
    have hil : it < s.heap.objs.size := let ⟨_, q, _⟩ := hit; Heap.lt_size q
    refine wpAny_pyNext_enum_itemD (D := Draws.tuple (A := X.A.in1) (show X.A.in1.handled = none from I.ok.hd hc) it a nia its.toArray) he ⟨hit, p'⟩ (by have := (List.getElem?_eq_some_iff.mp hu).1; simpa using this) ne (by simp [ne, nea]) fun y h' tk hy ho hit' hT hsz hk => ?_
    have ey : y = u := by
      have z : its[i]? = some y := by simpa using hy
      rw [hu] at z
      exact (Option.some.inj z).symm
    subst ey
    refine ⟨_, rfl, wpAny_letOwnedTupleGo_enum (s := { s with heap := h', toks := tk + 1 }) ho fun h2 he2 sb => ?_⟩
    have hT2 : h2.get? s.heap.objs.size = some { cls := .type "tuple", data := .seq #[.int i tk, y] } := (sb.2 _ (Nat.ne_of_gt hel)).trans hT
    have low : ∀ b, b ∈ [e, it] → b < s.heap.objs.size := fun b hb => (List.mem_cons.mp hb).elim (fun z => z ▸ hel) fun z => List.mem_singleton.mp z ▸ hil
    have I1 : L2.Inv X pins σ (upd H s.heap.objs.size (.tup [.int (i : Nat), x])) { s with heap := h2, toks := tk + 1 } :=
      I.turnedNew (ch := [e, it]) (fun b ob hb q => (sb.2 b (fun z => hb (by simp [z]))).trans (hk b ob (fun z => hb (by simp [z])) (fun z => hb (by simp [z])) q)) hf (Nat.le_refl _)
        ⟨by show 2 ≤ sizeLine; decide, [.int i tk, y], .cons ⟨_, rfl⟩ (.cons ru .nil), ⟨_, hT2, rfl, _, rfl⟩⟩
    refine ⟨.ref s.heap.objs.size, _, I1, rfl, ⟨_, x, rfl, I.hok.fresh (Nat.le_refl _), rfl, fun ys hy => by rw [I.tuple_inj hy hq]; exact hx⟩, ⟨⟨y, ?_⟩, hit'.1.at fun o q => (sb.2 it (Ne.symm ne)).trans q, ne⟩, fun b hb => ?_⟩
    · rw [show ((i + 1 : Nat) : Int) = (i : Int) + 1 from by omega]
      exact he2
    · rw [upd_ne (Nat.ne_of_lt (low b hb))]
      exact (hf b hb).1
  done := by
    rintro X rfl rfl rfl hc i pins s σ H E I hf ⟨⟨old, he⟩, hit, ne⟩ ⟨xs, hq, rfl⟩
    obtain ⟨its, rv, p, hz⟩ := I.tuple hq
    have p' : s.heap.IsTuple a its.toArray := p
    obtain ⟨oa, hoa, hca, na, hda⟩ := id p'
    have nia : a ≠ it := fun z => by
      obtain ⟨o, ho, hc', hd'⟩ := hit
      rw [← z, hoa] at ho
      cases ho
      rw [hda] at hd'
      cases hd'
    obtain ⟨f0, f1, f2, f3, f4, f5⟩ := hf it (by simp)
    refine wpAny_pyNext_enum_endD (D := Draws.tuple (A := X.A.in1) (show X.A.in1.handled = none from I.ok.hd hc) it a nia its.toArray) he ⟨by rw [List.size_toArray, ← rv.length]; exact hit, p'⟩ fun h' eb => ⟨rfl, I.turned (t' := s.toks) (fun b o hb q => eb b o hb q) f0 f1 f3 f4 f5⟩
  self A i s Q E st h := let ⟨⟨_, he⟩, _⟩ := st; wpAny_pyIter_enum he h
def iEnumT (K : PySem.W.Frag) (ta : TA) : TI := fun σ H R => ta σ H fun vs H1 => ∃ a xs, vs = [.ref a] ∧ SqT K H1 a xs ∧ R (Iet K a) H1
theorem pi_enumT {X : Cx} {e : Expr} {ta : TA} {p pos tpos : Pos} {elts : List Expr} {kk : Nat} (hg : Gl X "enumerate") (hm : X.mg "enumerate" = none) (ha : PA X [e] ta)
    (hs : starEach [e] X.env = [(false, eval e X.env)] := by rfl) : PI X (.Tuple elts kk tpos) (.Call (.Name "enumerate" p) [e] [] pos) (iEnumT X.K ta) := ⟨fun pins s σ H R I h => by
  refine Call_ (ld_blt I hg hm boot_enumerate (PyProof.Rows.callWith_type1 (thn (ha.run pos pins s σ H _ I h) fun us s1 z => ?_) hs rfl))
  obtain ⟨vs, H1, I1, r1, a, xs, rfl, hq, q⟩ := z
  cases r1 with
  | cons r rr =>
    cases rr
    cases r
    obtain ⟨its, rv, p', hz⟩ := I1.tuple hq
    refine enum_tup (show s1.heap.IsTuple a its.toArray from p') fun h' he hit hk => wpAny_pyIter_enum he ?_
    refine ⟨s1.heap.objs.size + 1, [s1.heap.objs.size + 1, s1.heap.objs.size], _, _, H1, rfl, I1.kept (t' := s1.toks) hk, turn_iet a (s1.heap.objs.size + 1) s1.heap.objs.size, ⟨⟨.none, he⟩, hit, Nat.succ_ne_self _⟩, fun b hb => ?_, q⟩
    have le : s1.heap.objs.size ≤ b := (List.mem_cons.mp hb).elim (fun z => z ▸ Nat.le_succ _) fun z => List.mem_singleton.mp z ▸ Nat.le_refl _
    have I2 : L2.Inv X pins σ H1 { s1 with heap := h' } := I1.kept (t' := s1.toks) hk
    exact I1.fpOk le (I1.hok.fresh le)⟩
/-- the loop's reading -/
theorem for_iet {K : PySem.W.Frag} {a : Addr} {xs : List V} {g : TG} {tb : TS} {D : Ends} {σ : L2.St} {H : Hp} (Pv : Nat → L2.St → Hp → Prop) (h0 : Pv 0 σ H) (hl : ∀ i σ H, i ≤ xs.length → Pv i σ H → SqT K H a xs)
    (hs : ∀ i x σ H T, xs[i]? = some x → Pv i σ H → H T = none → g (.ref T) σ (upd H T (.tup [.int (i : Nat), x])) fun σ2 H2 => tb { D with nx := Pv (i + 1), ct := Pv (i + 1), bk := D.nx } σ2 H2) (hd : ∀ σ H, Pv xs.length σ H → D.nx σ H) :
    ∃ W : Nat → Nat → L2.St → Hp → Prop, (∃ m, W 0 m σ H) ∧ ∀ i m σ H, W i m σ H →
      ((Iet K a).stop i H ∧ D.nx σ H) ∨ ((Iet K a).go i H ∧ ∃ N : L2.St → Hp → Prop, (∀ σ' H', N σ' H' → ∃ m', m' < m ∧ W (i + 1) m' σ' H') ∧ ∀ x H', (Iet K a).yld i H x H' → g x σ H' fun σ2 H2 => tb { D with nx := N, ct := N, bk := D.nx } σ2 H2) := by
  refine ⟨fun i m σ H => m = xs.length - i ∧ i ≤ xs.length ∧ Pv i σ H, ⟨xs.length, by simp, Nat.zero_le _, h0⟩, ?_⟩
  rintro i m σ H ⟨rfl, hi, p⟩
  have q := hl i σ H hi p
  rcases Nat.lt_or_ge i xs.length with lt | ge
  · refine .inr ⟨⟨xs, xs[i], q, List.getElem?_eq_getElem lt⟩, Pv (i + 1), fun σ' H' p' => ⟨xs.length - (i + 1), by omega, rfl, lt, p'⟩, ?_⟩
    rintro x H' ⟨T, y, rfl, nT, rfl, hy⟩
    exact hs i y σ H T (hy xs q) p nT
  · have e : i = xs.length := Nat.le_antisymm hi ge
    exact .inl ⟨⟨xs, q, e⟩, hd σ H (e ▸ p)⟩
end Bf

/-! Own rules: x not in t, t a tuple of texts, x any thing; xs < ys of lists; comprehensions over enumerate and zip. -/
namespace Bf
open PySem PySem.Spec PyProof.Rows L2

theorem dict_eq_declines_str (l : Addr) (dt : Data) (dd : Option Addr) (sl : Array (Option Value)) (b : Str) (u : Tok) :
    Meets (Builtin.«dict.__eq__» ⟨[.ref l, .str b u], []⟩) (fun _ R s => s.heap.get? l = some { cls := .type "dict", dict := dd, data := dt, slots := sl } ∧ R (.ok (.ret .notImplemented)) s) :=
  .of_wp fun prog w A R s h => by
    obtain ⟨hp, g, d, tk, os⟩ := s
    obtain ⟨hl, h⟩ := h
    have f1 := F.sub_str_dict
    wp_walk using wpAny_loadPart' hl
    exact ⟨_, rfl, h⟩
theorem str_eq_declines_dict (b : Str) (u : Tok) (l : Addr) (es : Array DictEntry) (n : Nat) (dd : Option Addr) (sl : Array (Option Value)) :
    Meets (Builtin.«str.__eq__» ⟨[.str b u, .ref l], []⟩) (fun _ R s => s.heap.get? l = some { cls := .type "dict", dict := dd, data := .dict es n, slots := sl } ∧ R (.ok (.ret .notImplemented)) s) :=
  .of_wp fun prog w A R s h => by
    obtain ⟨hp, g, d, tk, os⟩ := s
    obtain ⟨hl, h⟩ := h
    wp_walk using wpAny_loadPart' hl, wpAny_load hl
    exact ⟨_, rfl, h⟩
theorem eqAt_str_dict {A : Around} {s : Shared} {l : Addr} {o : Obj} {es : Array DictEntry} {n : Nat} (b : Str) (u : Tok) (ho : s.heap.get? l = some o) (hc : o.cls = .type "dict") (hd : o.data = .dict es n) (hu : A.units < cLine) :
    SeqAt.EqAt A s (.str b u) (.ref l) false := fun prog w E Q h => by
  obtain ⟨cls, dd, data, sl⟩ := o
  simp only at hc hd
  subst hc hd
  unfold eqBool
  refine wpAny_holding ?_
  refine wpAny_ite_split (fun hab => absurd (eq_of_beq hab) nofun) (fun _ => ?_)
  refine wpAny_bind (SeqAt.rc_eq_decline_or (k := false) (typeIs_str s b u) ⟨_, ho, rfl⟩ (by decide) F.sub_dict_str F.slot_str_eq F.slot_dict_eq_refl
    (fun _ hq => call_meets F.slot_str_eq (typeIs_str s b u) F.entry_str_eq (F.args_str_eq_2 _ _) (str_eq_declines_dict b u l es n dd sl) ⟨ho, hq⟩)
    (fun _ hq => call_meets F.slot_dict_eq_refl ⟨_, ho, rfl⟩ F.entry_dict_eq (F.args_dict_eq_2 _ _) (dict_eq_declines_str l _ dd sl b u) ⟨ho, hq⟩)
    (fun _ hq => wpAny_of_eq (rfl : isSame (.str b u) (.ref l) = pure false) hq) (.inr hu) (wpAny_truthy_bool h))

/-- a thing that is compared with texts -/
inductive Odd (H : Hp) : V → Prop
  | non : Odd H .non
  | bl (b : Bool) : Odd H (.bl b)
  | int (i : Int) : Odd H (.int i)
  | str (z : Str) : Odd H (.str z)
  | lst {a : Addr} {xs : List V} (h : H a = some (.lst xs)) : Odd H (.ref a)
  | tup {a : Addr} {xs : List V} (h : H a = some (.tup xs)) : Odd H (.ref a)
  | emp {a : Addr} (h : H a = some (.dK [])) : Odd H (.ref a)
section
variable {X : Cx}
theorem eqAt_odd {pins : List (Addr × Obj)} {σ : L2.St} {H : Hp} {s : Shared} {x : V} {v : Value} {z : Str} {t : Tok} {A : Around} (hu : A.units < cLine) (I : L2.Inv X pins σ H s) (h : Odd H x) (r : RelV x v) :
    SeqAt.EqAt A s (.str z t) v (eqV (.str z) x) := by
  have fl : flatV x = true → SeqAt.EqAt A s (.str z t) v (eqV (.str z) x) := fun f => eqAt_V (y := .str z) ⟨t, rfl⟩ r rfl f
  cases h with
  | non => exact fl rfl
  | bl b => exact fl rfl
  | int i => exact fl rfl
  | str z => exact fl rfl
  | lst h =>
    cases r
    obtain ⟨_, its, n, rv, e⟩ := I.hok _ _ h
    exact SeqAt.EqAt.str_list z t (items := its.toArray) ⟨_, e, rfl, _, rfl⟩ hu
  | tup h =>
    cases r
    obtain ⟨_, its, rv, o, e1, e2, n, e3⟩ := I.hok _ _ h
    exact SeqAt.EqAt.str_tuple z t ⟨o, e1, e2, n, e3⟩ hu
  | emp h =>
    cases r
    obtain ⟨_, sm, vs, kv, o, es, ep, e1, e2, e3, _, e4, _⟩ := I.hok _ _ h
    exact eqAt_str_dict z t e1 e2.1 e3 hu
def rNotInW (K : PySem.W.Frag) : R2 := fun x y H Q => ∃ (p : Addr) (ws : List Str), y = .ref p ∧ SqT K H p (ws.map V.str) ∧ Odd H x ∧ Q (.bl (!inV x (ws.map V.str))) H
theorem op_notInW (hu : X.A.units + 64 < cLine) : OpR X (compareOp .NotIn) (rNotInW X.K) := by
  intro pins s σ H x y v u Q I rx ry h
  obtain ⟨p, ws, rfl, hq, od, q⟩ := h
  cases ry
  obtain ⟨its, r, pl, hz⟩ := I.tuple hq
  have fs : (ws.map V.str).all flatV = true := by
    rw [List.all_map, List.all_eq_true]
    intro z _
    rfl
  have each : ∀ {vs : List V} {us : List Value}, Vals vs us → (∀ y ∈ vs, ∃ z, y = V.str z) → ∀ w ∈ us, SeqAt.EqAt X.A.in1 s w v (eqU x w) := by
    intro vs us r
    induction r with
    | nil => exact fun _ _ m => nomatch m
    | cons r1 r2 ih =>
      intro hv w m
      rcases List.mem_cons.mp m with rfl | m
      · obtain ⟨z, rfl⟩ := hv _ List.mem_cons_self
        obtain ⟨t, rfl⟩ := r1
        exact eqAt_odd (by show X.A.units + 1 < cLine; omega) I od rx
      · exact ih (fun y my => hv y (List.mem_cons_of_mem _ my)) w m
  refine SeqAt.notIn_tupleAt (eqU x) pl (fun w hw => each r (fun y my => by obtain ⟨z, _, rfl⟩ := List.mem_map.mp my; exact ⟨z, rfl⟩) w (by simpa using hw)) ⟨.bl _, H, I, rfl, ?_⟩
  rw [show its.toArray.any (eqU x) = its.any (eqU x) by simp, any_eqU r fs]
  exact q
/-- xs < ys, lists of whole numbers -/
theorem alike_ints : ∀ ns ms : List Int, PySem.W.alikeAll (ns.map PyData.int) (ms.map PyData.int) = true
  | [], [] => by simp only [List.map_nil, PySem.W.alikeAll]
  | [], _ :: _ => by simp only [List.map_nil, PySem.W.alikeAll]
  | _ :: _, [] => by simp only [List.map_nil, List.map_cons, PySem.W.alikeAll]
  | a :: ns, b :: ms => by simp only [List.map_cons, PySem.W.alikeAll, PySem.W.alike, alike_ints ns ms, Bool.and_self]
theorem dpI {K : PySem.W.Frag} {H : Hp} : ∀ is : List Int, DpAll K H (is.map V.int) (is.map PyData.int)
  | [] => .nil
  | i :: r => .cons (.int i) (dpI r)
theorem depth_ints : ∀ ns : List Int, PyData.depthAll (ns.map PyData.int) = 0
  | [] => by simp only [List.map_nil, PyData.depthAll]
  | n :: r => by simp only [List.map_cons, PyData.depthAll, PyData.depth, depth_ints r]; decide
def ltI (ns ms : List Int) : Bool := PySem.W.dataLt (.list (ns.map PyData.int)) (.list (ms.map PyData.int))
def rLtI (K : PySem.W.Frag) : R2 := fun x y H Q => ∃ (a b : Addr) (ns ms : List Int), x = .ref a ∧ y = .ref b ∧ SqL K H a (ns.map V.int) ∧ SqL K H b (ms.map V.int) ∧ Q (.bl (ltI ns ms)) H
theorem op_ltI (hu : X.A.units + 64 < cLine) : OpR X (compareOp .Lt) (rLtI X.K) := by
  intro pins s σ H x y v u Q I rx ry h
  obtain ⟨a, b, ns, ms, rfl, rfl, ha, hb, q⟩ := h
  obtain ⟨as, r1⟩ := Dp.reads I (.list (ns.map PyData.int)) (.ref a) v (.lst ha (dpI ns)) rx
  obtain ⟨bs, r2⟩ := Dp.reads I (.list (ms.map PyData.int)) (.ref b) u (.lst hb (dpI ms)) ry
  refine PySem.W.lt_data r1 r2 (by simp only [PySem.W.alike]; exact alike_ints ns ms) (fun z => nomatch z) ?_ ⟨.bl (ltI ns ms), H, I, rfl, q⟩
  have d1 : PyData.depth (.list (ns.map PyData.int)) = 1 := by simp only [PyData.depth, depth_ints]
  have : min (PyData.depth (.list (ns.map PyData.int))) (PyData.depth (.list (ms.map PyData.int))) ≤ 1 := by rw [d1]; exact Nat.min_le_left _ _
  omega
end

/-! ### comprehensions over enumerate(list) and zip(list, list) -/
theorem lc_ite {K : PySem.W.Frag} {a : Addr} {xs : List V} {g : TG} {tt : TT} {te : TE} {vs : List Nat} {σ : L2.St} {H1 : Hp} {D : Addr} {Qd : Hp → Prop} (Pv : Nat → Hp → Prop) (h0 : Pv 0 (upd H1 D (.lst []))) (hl : ∀ i H, i ≤ xs.length → Pv i H → SqL K H a xs)
    (hs : ∀ i x H T, xs[i]? = some x → Pv i H → H T = none → g (.ref T) (wipe σ vs) (upd H T (.tup [.int (i : Nat), x])) fun σ2 H2 => wipe σ2 vs = wipe σ vs ∧ tt σ2 H2 fun b H3 =>
      if b = true then te σ2 H3 fun y H4 => ∃ acc, H4 D = some (.lst acc) ∧ acc.length < sizeLine ∧ Pv (i + 1) (upd H4 D (.lst (acc ++ [y]))) else Pv (i + 1) H3) (hd : ∀ H, Pv xs.length H → Qd H) :
    ∃ W : Nat → Nat → Hp → Prop, (∃ m, W 0 m (upd H1 D (.lst []))) ∧ ∀ i m H, W i m H →
      ((Ite K a).stop i H ∧ Qd H) ∨ ((Ite K a).go i H ∧ ∃ Nx : Hp → Prop, (∀ H', Nx H' → ∃ m', m' < m ∧ W (i + 1) m' H') ∧ ∀ x H', (Ite K a).yld i H x H' → g x (wipe σ vs) H' fun σ2 H2 => wipe σ2 vs = wipe σ vs ∧ tt σ2 H2 fun b H3 =>
        if b = true then te σ2 H3 fun y H4 => ∃ acc, H4 D = some (.lst acc) ∧ acc.length < sizeLine ∧ Nx (upd H4 D (.lst (acc ++ [y]))) else Nx H3) := by
  refine ⟨fun i m H => m = xs.length - i ∧ i ≤ xs.length ∧ Pv i H, ⟨xs.length, by simp, Nat.zero_le _, h0⟩, ?_⟩
  rintro i m H ⟨rfl, hi, p⟩
  have q := hl i H hi p
  by_cases hlt : i < xs.length
  · refine .inr ⟨⟨xs, xs[i], q, by simp [hlt]⟩, Pv (i + 1), fun H' p' => ⟨xs.length - (i + 1), by omega, rfl, hlt, p'⟩, fun x H' y => ?_⟩
    obtain ⟨T, z, rfl, nT, rfl, hy⟩ := y
    exact hs i z H T (hy xs q) p nT
  · have e : i = xs.length := by omega
    subst e
    exact .inl ⟨⟨xs, q, Nat.le_refl _⟩, hd H p⟩
theorem lc_itz {K : PySem.W.Frag} {a b : Addr} {xs ys : List V} {g : TG} {tt : TT} {te : TE} {vs : List Nat} {σ : L2.St} {H1 : Hp} {D : Addr} {Qd : Hp → Prop} (hxy : xs.length = ys.length) (Pv : Nat → Hp → Prop) (h0 : Pv 0 (upd H1 D (.lst [])))
    (hl : ∀ i H, i ≤ xs.length → Pv i H → SqL K H a xs ∧ SqL K H b ys)
    (hs : ∀ i x y H T, xs[i]? = some x → ys[i]? = some y → Pv i H → H T = none → g (.ref T) (wipe σ vs) (upd H T (.tup [x, y])) fun σ2 H2 => wipe σ2 vs = wipe σ vs ∧ tt σ2 H2 fun b H3 =>
      if b = true then te σ2 H3 fun y H4 => ∃ acc, H4 D = some (.lst acc) ∧ acc.length < sizeLine ∧ Pv (i + 1) (upd H4 D (.lst (acc ++ [y]))) else Pv (i + 1) H3) (hd : ∀ H, Pv xs.length H → Qd H) :
    ∃ W : Nat → Nat → Hp → Prop, (∃ m, W 0 m (upd H1 D (.lst []))) ∧ ∀ i m H, W i m H →
      ((Itz K a b).stop i H ∧ Qd H) ∨ ((Itz K a b).go i H ∧ ∃ Nx : Hp → Prop, (∀ H', Nx H' → ∃ m', m' < m ∧ W (i + 1) m' H') ∧ ∀ x H', (Itz K a b).yld i H x H' → g x (wipe σ vs) H' fun σ2 H2 => wipe σ2 vs = wipe σ vs ∧ tt σ2 H2 fun b H3 =>
        if b = true then te σ2 H3 fun y H4 => ∃ acc, H4 D = some (.lst acc) ∧ acc.length < sizeLine ∧ Nx (upd H4 D (.lst (acc ++ [y]))) else Nx H3) := by
  refine ⟨fun i m H => m = xs.length - i ∧ i ≤ xs.length ∧ Pv i H, ⟨xs.length, by simp, Nat.zero_le _, h0⟩, ?_⟩
  rintro i m H ⟨rfl, hi, p⟩
  obtain ⟨q1, q2⟩ := hl i H hi p
  by_cases hlt : i < xs.length
  · have h2 : i < ys.length := by omega
    refine .inr ⟨⟨xs, ys, xs[i], ys[i], q1, q2, List.getElem?_eq_getElem hlt, List.getElem?_eq_getElem h2⟩, Pv (i + 1), fun H' p' => ⟨xs.length - (i + 1), by omega, rfl, hlt, p'⟩, fun x H' y => ?_⟩
    obtain ⟨T, z, z2, rfl, nT, rfl, hy, hy2⟩ := y
    exact hs i z z2 H T (hy xs q1) (hy2 ys q2) p nT
  · have e : i = xs.length := by omega
    subst e
    exact .inl ⟨⟨xs, ys, q1, q2, .inl (Nat.le_refl _)⟩, hd H p⟩
end Bf

/-! Own rules: f(e, .., k = v, ..) within a try's body. -/
namespace Bf
open PySem PySem.Spec PyProof.Rows L2
def tCallNS (n m : Nat) (sp : Sp) (gV : List V → List V → List V) (E : L2.St → XK) (t tk : TA) : TE := fun σ H Q => t σ H fun vs H1 => tk σ H1 fun zs H2 => vs.length = n ∧ zs.length = m ∧ sp (gV vs zs) H2 Q (E σ)
section
variable {X : Cx} {CX : CXT} {k n : Nat} {f : Addr} {fd : FuncData} {ps ks : List Str} {sp : Sp} {E : L2.St → XK} {x : Str} {p pos : Pos} {e : Expr} {es : List Expr} {kws : List Keyword} {t tk : TA} {g : List Value → List Value → List Value} {gV : List V → List V → List V}
theorem pe_callNS (F : FnOk X.prog X.w X.K X.mg X.base CX k f fd ps sp) (hr : Room k X.A) (hg : Gl X x) (hm : X.mg x = some (.ref f)) (hk : PySem.W.keepIn X.K (.ref f) = true) (hb : KBn X.K fd ps n ks g gV) (hx : ∀ σ, PassesAt CX X σ (E σ))
    (ha : PA X (e :: es) t) (hkw : PK X kws tk) (hall : (backToKw pos (keywordEach kws X.env)).all (·.1.isSome) = true := by rfl) (hks : (backToKw pos (keywordEach kws X.env)).filterMap (·.1) = ks := by rfl)
    (hdb : (x == ("__debug__" : Str)) = false := by decide) (he : starEach (e :: es) X.env = (false, eval e X.env) :: starEach es X.env := by rfl)
    (hpl : ((backTo pos (starEach (e :: es) X.env)).any (·.1) || (backToKw pos (keywordEach kws X.env)).any (·.1.isNone)) = false := by rfl) :
    PE X (.Call (.Name x p) (e :: es) kws pos) (tCallNS n ks.length sp gV E t tk) := by
  refine ⟨fun pins s σ H Q I h => ?_⟩
  refine wpAny_Call_Name_kw (ld_glob I hg hm ?_ hdb)
  refine PySem.W.callWith_KW (h₀ := X.base) I.ok.mod.kin hk hall (thn (ha.run pos pins s σ H _ I h) fun us s1 ⟨vs, H1, I1, r, q⟩ => ?_) hpl he
  refine thn (hkw.run pos pins s1 σ H1 _ I1 q) fun ws s2 ⟨zs, H2, I2, rz, l1, l2, q2⟩ => ⟨I2.kIn, ?_⟩
  rw [hks]
  have r2 := hb.rel r rz
  refine wpAny_call (codeAny_mono (F.run X.A X.stack s2 H2 ⟨us, ks.zip ws⟩ (g us ws) (gV vs zs) Q (E σ) hr I2.env0 (hb.to s2 us ws I2.kIn (r.length.symm.trans l1) (rz.length.symm.trans l2)) r2 q2) fun r s' hq => ?_)
  cases r with
  | error e => exact hx σ pins H2 s2 e s' I2 hq
  | ok fl =>
    cases fl with
    | ret u => exact I2.after hq
    | next => exact False.elim hq
    | brk => exact False.elim hq
    | cont => exact False.elim hq
end
end Bf
namespace Bf
open PySem PySem.Spec PyProof.Rows L2
/-! ### new lists, not the module table -/
section
variable {X : Cx}
def rCatN : R2 := fun x y H Q => ∃ (l b : Addr) (xs zs : List V), x = .ref l ∧ y = .ref b ∧ H l = some (.lst xs) ∧ H b = some (.lst zs) ∧ xs.length + zs.length ≤ sizeLine ∧ ∀ p, H p = none → p ≠ sysModules → Q (.ref p) (upd H p (.lst (xs ++ zs)))
theorem op_catN : OpR X (binaryOp .Add) rCatN := by
  intro pins s σ H x y v u Q I rx ry h
  obtain ⟨l, b, xs, zs, rfl, rfl, hH, hB, hz, q⟩ := h
  cases rx
  cases ry
  obtain ⟨z, its, n, r, hl, e⟩ := I.lstM hH
  obtain ⟨z2, its2, n2, r2, hl2, e2⟩ := I.lstM hB
  refine PySem.P.add_list e e2 ?_ (by rw [List.size_toArray, List.size_toArray]; omega)
  have ea : its.toArray ++ its2.toArray = (its ++ its2).toArray := by simp
  rw [ea]
  exact ⟨.ref _, _, I.lnew (t' := s.toks) (r.append r2) (by rw [List.length_append]; omega), rfl, q _ I.fresh (Nat.ne_of_gt I.big)⟩
def rSlN (K : PySem.W.Frag) : V → Option Int → Option Int → Hp → VK → Prop := fun x lo hi H Q => ∃ (a : Addr) (xs : List V), x = .ref a ∧ SqL K H a xs ∧ ∀ p, H p = none → p ≠ sysModules → Q (.ref p) (upd H p (.lst (cutV xs lo hi)))
theorem sl_listN : SlR X (rSlN X.K) := by
  intro pins s σ H x v vl vu lo hi sl Q I rx hs pl pu h
  obtain ⟨a, xs, rfl, hx, q⟩ := h
  cases rx
  obtain ⟨its, r, ht, hz⟩ := I.list hx
  have hlen := r.length
  refine ⟨"list", _, slot_list_getitem.lookup, ht.isList.typeIs, ?_⟩
  refine wpAny_getItem_list_slice ht.isList hs pl pu .none (by simp) ?_ (by rw [List.size_toArray] <;> omega)
  rw [slicePick_cut, ← hlen]
  refine ⟨.ref s.heap.objs.size, _, I.laid (t' := s.toks) (o := .lst (cutV xs lo hi)) (fun b ob q => Heap.get?_push_of_some _ q) (Nat.le_refl _) ?_, rfl, q _ (I.hok.fresh (Nat.le_refl _)) (Nat.ne_of_gt I.big)⟩
  exact ⟨Nat.le_trans (cutV_length xs lo hi) hz, _, 0, (r.drop (HT.sIx xs.length 0 lo)).take (HT.sIx xs.length xs.length hi - HT.sIx xs.length 0 lo), Heap.get?_push_size _ rfl⟩
def rRepN : R2 := fun x y H Q => ∃ (l : Addr) (k : Int) (xs : List V), x = .ref l ∧ y = .int k ∧ H l = some (.lst xs) ∧ -(2 ^ 63) ≤ k ∧ k < 2 ^ 63 ∧ xs.length * k.toNat ≤ sizeLine ∧
  ∀ p, H p = none → p ≠ sysModules → Q (.ref p) (upd H p (.lst (List.replicate k.toNat xs).flatten))
theorem op_repN : OpR X (binaryOp .Mult) rRepN := by
  intro pins s σ H x y v u Q I rx ry h
  obtain ⟨l, k, xs, rfl, rfl, hH, h1, h2, hz, q⟩ := h
  cases rx
  obtain ⟨t, rfl⟩ := ry
  obtain ⟨z, its, n, r, hl, e⟩ := I.lstM hH
  have hlen : its.toArray.size * k.toNat ≤ sizeLine := by rw [List.size_toArray, ← hl]; exact hz
  have hcap : ¬ its.toArray.size * k.toNat > (2 ^ 63 - 1) / 8 := by
    have : (sizeLine : Nat) ≤ (2 ^ 63 - 1) / 8 := by decide
    omega
  have hfit : ¬ (!Builtin.List.listFitsIndex k) = true := by
    rw [fitsIndex_both h1 h2]
    exact Bool.false_ne_true
  have hlong : ¬ Builtin.List.listTooLong (its.toArray.size * k.toNat) = true := by
    rw [notLongL hlen]
    exact Bool.false_ne_true
  have hnew : List.foldl (fun x1 x2 => x1 ++ x2) #[] (List.replicate (if its.toArray.isEmpty = true then 0 else k.toNat) its.toArray) = (List.replicate k.toNat its).flatten.toArray := by
    have f0 : ∀ m : Nat, List.foldl (fun x1 x2 => x1 ++ x2) #[] (List.replicate m its.toArray) = (List.replicate m its).flatten.toArray := fun m => by
      have := foldl_rep its m []
      rw [List.nil_append] at this
      exact this
    rw [f0]
    cases its with
    | nil => simp
    | cons a r' => rw [if_neg (by simp)]
  refine wpAny_binaryOp_repeat_ref (T := "list") (U := "int") (by decide) ⟨_, e, rfl⟩ (fun s' => typeIs_int s' k t) noFill_list_mul F.fills_int_mul F.slot_int_rmul repeat_list F.slot_int_index.lookup
    (call_meets F.slot_int_rmul (typeIs_int s k t) F.entry_int_rmul (F.args_int_rmul_2 _ _) (int___rmul___int_list k t l its.toArray n)
      ⟨e, rfl, ⟨_, e, rfl⟩, call_meets F.slot_list_mul ⟨_, e, rfl⟩ F.entry_list_mul (F.args_list_mul_2 _ _) (AutoListH.list___mul___list_int_3 l its.toArray n k t hfit hcap hlong) ⟨e, ?_⟩⟩)
  rw [hnew]
  exact ⟨.ref _, _, I.lnew (t' := s.toks) (r.rep k.toNat) (by rw [PyProof.Rows.lm_len_rep_flat, Nat.mul_comm]; exact hz), rfl, q _ I.fresh (Nat.ne_of_gt I.big)⟩
end
end Bf

/-! Own rules: dicts of the module by their tables; xs.extend(t); comprehensions over zip of tuples. -/
namespace Bf
open PySem PySem.Spec PyProof.Rows L2
/-- the rows of a written dict -/
inductive Rows : List DictEntry → List (Str × V) → Prop
  | nil : Rows [] []
  | cons {e : DictEntry} {k : Str} {t : Tok} {v : V} {es : List DictEntry} {tb : List (Str × V)} (hk : e.key = .str k t) (r : RelV v e.val) (rs : Rows es tb) : Rows (e :: es) ((k, v) :: tb)
def lk {α : Type} (z : Str) : List (Str × α) → Option α
  | [] => none
  | (k, v) :: r => if (k == z) = true then some v else lk z r
theorem rows_find (z : Str) : ∀ {es : List DictEntry} {tb : List (Str × V)}, Rows es tb → (lk z tb = none ∧ es.find? (fun x => x.key.isStr z) = none ∧ (es.any fun x => x.refKey) = false) ∨ ∃ v e, lk z tb = some v ∧ es.find? (fun x => x.key.isStr z) = some e ∧ RelV v e.val
  | _, _, .nil => .inl ⟨rfl, rfl, rfl⟩
  | _, _, .cons (e := e) (k := k) (t := t) hk r rs => by
    have hs : e.key.isStr z = (k == z) := by rw [hk]; rfl
    have hr : e.refKey = false := by unfold DictEntry.refKey; rw [hk]
    by_cases h : (k == z) = true
    · refine .inr ⟨_, e, by unfold lk; rw [if_pos h], ?_, r⟩
      rw [List.find?_cons_of_pos (by rw [hs]; exact h)]
    · rcases rows_find z rs with ⟨a, b, c⟩ | ⟨v, e', a, b, c⟩
      · exact .inl ⟨by unfold lk; rw [if_neg h]; exact a, by rw [List.find?_cons_of_neg (by rw [hs]; exact h)]; exact b, by rw [List.any_cons, hr, c]; rfl⟩
      · exact .inr ⟨v, e', by unfold lk; rw [if_neg h]; exact a, by rw [List.find?_cons_of_neg (by rw [hs]; exact h)]; exact b, c⟩
/-- a written dict and its table -/
structure Dct (K : PySem.W.Frag) (w : World) (a : Addr) (tb : List (Str × V)) : Prop where
  ex : ∃ es n, KDict K w a es n ∧ Rows es.toList tb
theorem Dct.get {K : PySem.W.Frag} {w : World} {a : Addr} {tb : List (Str × V)} (D : Dct K w a tb) (z : Str) : (lk z tb = none → PySem.W.nsIn K a z = some none) ∧ ∀ v, lk z tb = some v → ∃ u, PySem.W.nsIn K a z = some (some u) ∧ RelV v u := by
  obtain ⟨es, n, kd, rs⟩ := D.ex
  have un : PySem.W.nsIn K a z = (match es.toList.find? (fun x => x.key.isStr z) with | some e => some (some e.val) | none => if (es.toList.any fun x => x.refKey) = true then none else some none) := by
    unfold PySem.W.nsIn
    rw [kd.at_]
    rfl
  rcases rows_find z rs with ⟨h1, h2, h3⟩ | ⟨v, e, h1, h2, h3⟩
  · refine ⟨fun _ => ?_, fun v h => by rw [h1] at h; cases h⟩
    rw [un, h2, h3]
    rfl
  · refine ⟨(fun h => by rw [h1] at h; cases h), fun v' h => ?_⟩
    rw [h1] at h
    cases h
    exact ⟨e.val, by rw [un, h2], h3⟩
section
variable {X : Cx} {a : Addr} {tb : List (Str × V)}
theorem op_in_dct (D : Dct X.K X.w a tb) : OpR X (compareOp .In) (fun x y H Q => ∃ z : Str, x = .str z ∧ y = .ref a ∧ Q (.bl (lk z tb).isSome) H) := by
  obtain ⟨es, n, kd, rs⟩ := id D.ex
  intro pins s σ H x y v u Q I rx ry h
  obtain ⟨z, rfl, rfl, q⟩ := h
  cases e : lk z tb with
  | none =>
    rw [e] at q
    exact op_in_kd kd pins s σ H _ _ v u Q I rx ry ⟨z, none, rfl, rfl, (D.get z).1 e, q⟩
  | some w =>
    rw [e] at q
    obtain ⟨u', h1, h2⟩ := (D.get z).2 w e
    exact op_in_kd kd pins s σ H _ _ v u Q I rx ry ⟨z, some u', rfl, rfl, h1, q⟩
theorem op_notIn_dct (D : Dct X.K X.w a tb) : OpR X (compareOp .NotIn) (fun x y H Q => ∃ z : Str, x = .str z ∧ y = .ref a ∧ Q (.bl (!(lk z tb).isSome)) H) := by
  obtain ⟨es, n, kd, rs⟩ := id D.ex
  intro pins s σ H x y v u Q I rx ry h
  obtain ⟨z, rfl, rfl, q⟩ := h
  cases e : lk z tb with
  | none =>
    rw [e] at q
    exact op_notIn_kd kd pins s σ H _ _ v u Q I rx ry ⟨z, none, rfl, rfl, (D.get z).1 e, q⟩
  | some w =>
    rw [e] at q
    obtain ⟨u', h1, h2⟩ := (D.get z).2 w e
    exact op_notIn_kd kd pins s σ H _ _ v u Q I rx ry ⟨z, some u', rfl, rfl, h1, q⟩
theorem op_item_dct (D : Dct X.K X.w a tb) : OpR X getItem (fun x y H Q => ∃ (z : Str) (v : V), x = .ref a ∧ y = .str z ∧ lk z tb = some v ∧ Q v H) := by
  obtain ⟨es, n, kd, rs⟩ := id D.ex
  intro pins s σ H x y v u Q I rx ry h
  obtain ⟨z, v', rfl, rfl, e, q⟩ := h
  obtain ⟨u', h1, h2⟩ := (D.get z).2 v' e
  exact op_item_kd kd pins s σ H _ _ v u Q I rx ry ⟨z, u', v', rfl, rfl, h1, h2, q⟩
theorem extend_tup (l : Addr) (items : Array Value) (n : Nat) (b : Addr) (items2 : Array Value) (n2 : Nat) (dd : Option Addr) (sl : Array (Option Value)) (hs0 : ¬(!items.isEmpty && Builtin.List.listTooLong (items.size + items2.size)) = true) (hs1 : items.size ≤ sizeLine) (hs2 : items.size + items2.size ≤ sizeLine + 1) :
    Meets (Builtin.«list.extend» ⟨[.ref l, .ref b], []⟩) (fun _ R s => s.heap.get? l = some { cls := .type "list", data := .seq items n } ∧ s.heap.get? b = some { cls := .type "tuple", dict := dd, data := .seq items2 n2, slots := sl } ∧
      R (.ok (.ret Value.none)) { s with heap := s.heap.update l (Obj.mapSeq fun x => x ++ items2), toks := s.toks }) :=
  .of_wp fun prog w A R s h => by
    obtain ⟨hp, g, d, tk, os⟩ := s
    obtain ⟨hl, hb, h⟩ := h
    have f1 := AutoSeq1.idx_int
    have f2 := AutoSeq1.sub_tuple_tuple
    have f3 := AutoSeq1.sub_list_list
    have f4 := AutoSeq1.sub_tuple_list
    have f5 := AutoSeq1.sub_list_tuple
    have hz' : (items ++ items2).size ≤ sizeLine + 1 := by rw [Array.size_append]; exact hs2
    wp_walk using (wpAny_updateSeq hl rfl (hz := hs1) (_hz' := hz')), wpAny_loadPart' hl, wpAny_loadPart' hb
    exact ⟨_, rfl, h⟩
/-- d[key] -/
theorem ix_dct (D : Dct X.K X.w a tb) : IxR X (fun x y H Q => ∃ (z : Str) (v : V), x = .ref a ∧ y = .str z ∧ lk z tb = some v ∧ Q v H) := by
  obtain ⟨es, n, kd, rs⟩ := id D.ex
  intro value slice pins s σ H x y v u Q I rx ry h hs
  obtain ⟨z, v', rfl, rfl, e, q⟩ := h
  obtain ⟨u', h1, h2⟩ := (D.get z).2 v' e
  cases rx
  obtain ⟨t, rfl⟩ := ry
  refine tail_any (kd_type kd I) PySem.F.slot_dict_getitem.lookup ?_ hs
  exact wpAny_getItem_of (PySem.strKind_is X.prog X.w z t) (PySem.W.mapOf_K (prog := X.prog) I.kIn kd.at_ kd.lit) (PySem.W.find_K kd.at_ h1) ⟨v', H, I.tok _, h2, q⟩
/-- xs.extend(t), t a tuple -/
def rExtT : V → List V → Hp → VK → Prop := fun x vs H Q => ∃ (l b : Addr) (xs zs : List V), x = .ref l ∧ vs = [.ref b] ∧ H l = some (.lst xs) ∧ H b = some (.tup zs) ∧ xs.length + zs.length ≤ sizeLine ∧ Q .non (upd H l (.lst (xs ++ zs)))
theorem mt_extT : MtM X "list.extend" rExtT := by
  intro pins s σ H x vs v us Q I rx rv h
  obtain ⟨l, b, xs, zs, rfl, rfl, hH, hB, hz, q⟩ := h
  cases rx
  obtain ⟨u, rfl, ru⟩ := rv.one
  cases ru
  obtain ⟨z, its, n, r, hl, e⟩ := I.lstM hH
  obtain ⟨_, its2, r2, ⟨cls, dd, data, sl⟩, e2, c2, n2, d2⟩ := I.hok _ _ hB
  simp only at c2 d2
  subst c2 d2
  have hl2 := r2.length
  have hsz : its.toArray.size + its2.toArray.size ≤ sizeLine := by rw [List.size_toArray, List.size_toArray]; omega
  have hlong : ¬ (!its.toArray.isEmpty && Builtin.List.listTooLong (its.toArray.size + its2.toArray.size)) = true := by
    rw [notLongL hsz, Bool.and_false]
    exact Bool.false_ne_true
  refine call_meets F.slot_list_extend ⟨_, e, rfl⟩ F.entry_list_extend (F.args_list_extend_2 _ _)
    (extend_tup l its.toArray n b its2.toArray n2 dd sl hlong (by rw [List.size_toArray]; omega) (by omega)) ⟨e, e2, ?_⟩
  refine ⟨.non, _, I.lset (its' := its ++ its2) hH e (by simp) (r.append r2) ?_, rfl, q⟩
  rw [List.length_append]
  omega
end
/-- comprehensions over zip of two tuples of one length -/
theorem lc_itzT {K : PySem.W.Frag} {a b : Addr} {xs ys : List V} {g : TG} {tt : TT} {te : TE} {vs : List Nat} {σ : L2.St} {H1 : Hp} {D : Addr} {Qd : Hp → Prop} (hxy : xs.length = ys.length) (Pv : Nat → Hp → Prop) (h0 : Pv 0 (upd H1 D (.lst [])))
    (hl : ∀ i H, i ≤ xs.length → Pv i H → SqT K H a xs ∧ SqT K H b ys)
    (hs : ∀ i x y H T, xs[i]? = some x → ys[i]? = some y → Pv i H → H T = none → g (.ref T) (wipe σ vs) (upd H T (.tup [x, y])) fun σ2 H2 => wipe σ2 vs = wipe σ vs ∧ tt σ2 H2 fun b H3 =>
      if b = true then te σ2 H3 fun y H4 => ∃ acc, H4 D = some (.lst acc) ∧ acc.length < sizeLine ∧ Pv (i + 1) (upd H4 D (.lst (acc ++ [y]))) else Pv (i + 1) H3) (hd : ∀ H, Pv xs.length H → Qd H) :
    ∃ W : Nat → Nat → Hp → Prop, (∃ m, W 0 m (upd H1 D (.lst []))) ∧ ∀ i m H, W i m H →
      ((RZ.ItzT K a b).stop i H ∧ Qd H) ∨ ((RZ.ItzT K a b).go i H ∧ ∃ Nx : Hp → Prop, (∀ H', Nx H' → ∃ m', m' < m ∧ W (i + 1) m' H') ∧ ∀ x H', (RZ.ItzT K a b).yld i H x H' → g x (wipe σ vs) H' fun σ2 H2 => wipe σ2 vs = wipe σ vs ∧ tt σ2 H2 fun b H3 =>
        if b = true then te σ2 H3 fun y H4 => ∃ acc, H4 D = some (.lst acc) ∧ acc.length < sizeLine ∧ Nx (upd H4 D (.lst (acc ++ [y]))) else Nx H3) := by
  refine ⟨fun i m H => m = xs.length - i ∧ i ≤ xs.length ∧ Pv i H, ⟨xs.length, by simp, Nat.zero_le _, h0⟩, ?_⟩
  rintro i m H ⟨rfl, hi, p⟩
  obtain ⟨q1, q2⟩ := hl i H hi p
  by_cases hlt : i < xs.length
  · have h2 : i < ys.length := by omega
    refine .inr ⟨⟨xs, ys, xs[i], ys[i], q1, q2, List.getElem?_eq_getElem hlt, List.getElem?_eq_getElem h2⟩, Pv (i + 1), fun H' p' => ⟨xs.length - (i + 1), by omega, rfl, hlt, p'⟩, fun x H' y => ?_⟩
    obtain ⟨T, z, z2, rfl, nT, rfl, hy, hy2⟩ := y
    exact hs i z z2 H T (hy xs q1) (hy2 ys q2) p nT
  · have e : i = xs.length := by omega
    subst e
    exact .inl ⟨⟨xs, ys, q1, q2, .inl (Nat.le_refl _)⟩, hd H p⟩
end Bf

/-! Own rules: a list or a tuple held against an empty one; any thing held against a text; list(t) and lists that are no module table. -/
namespace Bf
open PySem PySem.Spec PyProof.Rows L2
section
variable {X : Cx}
theorem isEmpty_size {xs : List V} {its : List Value} (h : xs.length = its.length) : xs.isEmpty = (its.toArray.size == ([] : List Value).toArray.size) := by
  rw [List.size_toArray, ← h]
  cases xs <;> rfl
/-- xs == [] -/
def rEqNil (K : PySem.W.Frag) : R2 := fun x y H Q => ∃ (a b : Addr) (xs : List V), x = .ref a ∧ y = .ref b ∧ SqL K H a xs ∧ SqL K H b [] ∧ Q (.bl xs.isEmpty) H
theorem op_eqNil (hu : X.A.units + 64 < cLine) : OpR X (compareOp .Eq) (rEqNil X.K) := by
  intro pins s σ H x y v u Q I rx ry h
  obtain ⟨a, b, xs, rfl, rfl, hx, hy, q⟩ := h
  cases rx
  cases ry
  obtain ⟨its, r, pl, hz⟩ := I.list hx
  obtain ⟨its2, r2, pl2, hz2⟩ := I.list hy
  cases r2
  have u0 : X.A.units < cLine := by omega
  cases r with
  | nil => exact SeqAt.eq_listAt (e := fun _ => true) pl.isList pl2.isList rfl u0 (fun j h1 _ => absurd h1 (by simp)) ⟨.bl true, H, I, rfl, q⟩
  | cons _ _ => exact SeqAt.eq_list_lengthsAt pl.isList pl2.isList (by simp) u0 ⟨.bl false, H, I, rfl, q⟩
/-- xs != [] -/
def rNeNil (K : PySem.W.Frag) : R2 := fun x y H Q => ∃ (a b : Addr) (xs : List V), x = .ref a ∧ y = .ref b ∧ SqL K H a xs ∧ SqL K H b [] ∧ Q (.bl (!xs.isEmpty)) H
theorem op_neNil (hu : X.A.units + 64 < cLine) : OpR X (compareOp .NotEq) (rNeNil X.K) := by
  intro pins s σ H x y v u Q I rx ry h
  obtain ⟨a, b, xs, rfl, rfl, hx, hy, q⟩ := h
  cases rx
  cases ry
  obtain ⟨its, r, pl, hz⟩ := I.list hx
  obtain ⟨its2, r2, pl2, hz2⟩ := I.list hy
  cases r2
  have u0 : X.A.units < cLine := by omega
  cases r with
  | nil => exact SeqAt.RcNeAt.lists (e := fun _ => true) pl.isList pl2.isList rfl u0 (fun j h1 _ => absurd h1 (by simp)) _ _ _ _ ⟨.bl false, H, I, rfl, q⟩
  | cons _ _ => exact SeqAt.RcNeAt.lists_lengths pl.isList pl2.isList (by simp) u0 _ _ _ _ ⟨.bl true, H, I, rfl, q⟩
/-- t == () -/
def rEqNilT (K : PySem.W.Frag) : R2 := fun x y H Q => ∃ (a b : Addr) (xs : List V), x = .ref a ∧ y = .ref b ∧ SqT K H a xs ∧ SqT K H b [] ∧ Q (.bl xs.isEmpty) H
theorem op_eqNilT (hu : X.A.units + 64 < cLine) : OpR X (compareOp .Eq) (rEqNilT X.K) := by
  intro pins s σ H x y v u Q I rx ry h
  obtain ⟨a, b, xs, rfl, rfl, hx, hy, q⟩ := h
  cases rx
  cases ry
  obtain ⟨its, r, pl, hz⟩ := I.tuple hx
  obtain ⟨its2, r2, pl2, hz2⟩ := I.tuple hy
  cases r2
  have u0 : X.A.units < cLine := by omega
  have e : xs.isEmpty = ((List.range (min its.toArray.size ([] : List Value).toArray.size)).all (fun _ => true) && its.toArray.size == ([] : List Value).toArray.size) := by
    rw [isEmpty_size r.length]
    simp
  rw [e] at q
  exact SeqAt.eq_tupleAt (e := fun _ => true) pl pl2 u0 (fun j _ h2 => absurd h2 (by simp)) ⟨.bl _, H, I, rfl, q⟩
theorem rc_dict_str {A : Around} {s : Shared} {l : Addr} {o : Obj} {es : Array DictEntry} {n : Nat} (b : Str) (u : Tok) (ho : s.heap.get? l = some o) (hc : o.cls = .type "dict") (hd : o.data = .dict es n) (hu : A.units < cLine) :
    SeqAt.RcAt A s (.ref l) (.str b u) false := fun prog w E Q h => by
  obtain ⟨cls, dd, data, sl⟩ := o
  simp only at hc hd
  subst hc hd
  exact SeqAt.rc_eq_decline_or (k := false) ⟨_, ho, rfl⟩ (typeIs_str s b u) (by decide) F.sub_str_dict F.slot_dict_eq F.slot_str_eq_refl
    (fun _ hq => call_meets F.slot_dict_eq ⟨_, ho, rfl⟩ F.entry_dict_eq (F.args_dict_eq_2 _ _) (dict_eq_declines_str l _ dd sl b u) ⟨ho, hq⟩)
    (fun _ hq => call_meets F.slot_str_eq_refl (typeIs_str s b u) F.entry_str_eq (F.args_str_eq_2 _ _) (str_eq_declines_dict b u l es n dd sl) ⟨ho, hq⟩)
    (fun _ hq => wpAny_of_eq (rfl : isSame (.ref l) (.str b u) = pure false) hq) (.inr hu) h
/-- x == "…", x any thing -/
def rEqS : R2 := fun x y H Q => ∃ z : Str, y = .str z ∧ Odd H x ∧ Q (.bl (decide (x = .str z))) H
theorem op_eqS (hu : X.A.units + 64 < cLine) : OpR X (compareOp .Eq) rEqS := by
  intro pins s σ H x y v u Q I rx ry h
  obtain ⟨z, rfl, od, q⟩ := h
  have u0 : X.A.units < cLine := by omega
  cases od with
  | non => exact op_eq pins s σ H _ _ v u Q I rx ry ⟨rfl, q⟩
  | bl b => exact op_eq pins s σ H _ _ v u Q I rx ry ⟨rfl, q⟩
  | int i => exact op_eq pins s σ H _ _ v u Q I rx ry ⟨rfl, q⟩
  | str y => exact op_eq pins s σ H _ _ v u Q I rx ry ⟨rfl, q⟩
  | lst h =>
    cases rx
    obtain ⟨t, rfl⟩ := ry
    obtain ⟨_, its, n, rv, e⟩ := I.hok _ _ h
    exact SeqAt.RcAt.list_str z t (items := its.toArray) ⟨_, e, rfl, _, rfl⟩ u0 _ _ _ _ ⟨.bl false, H, I, rfl, q⟩
  | tup h =>
    cases rx
    obtain ⟨t, rfl⟩ := ry
    obtain ⟨_, its, rv, o, e1, e2, n, e3⟩ := I.hok _ _ h
    exact SeqAt.RcAt.tuple_str z t ⟨o, e1, e2, n, e3⟩ u0 _ _ _ _ ⟨.bl false, H, I, rfl, q⟩
  | emp h =>
    cases rx
    obtain ⟨t, rfl⟩ := ry
    obtain ⟨_, sm, vs, kv, o, es, ep, e1, e2, e3, _, e4, _⟩ := I.hok _ _ h
    exact rc_dict_str z t e1 e2.1 e3 u0 _ _ _ _ ⟨.bl false, H, I, rfl, q⟩
/-- list(x): a new list, not the module table -/
def rListN (K : PySem.W.Frag) : List V → Hp → VK → Prop := fun xs H Q => ∃ p ys, xs = [.ref p] ∧ (SqL K H p ys ∨ SqT K H p ys) ∧ ∀ l, H l = none → l ≠ sysModules → Q (.ref l) (upd H l (.lst ys))
theorem call_listN : CallR X (.type "list") (rListN X.K) := by
  intro pins s σ H xs us Q I rv w
  obtain ⟨p, ys, rfl, seq, ask⟩ := w
  obtain ⟨u, rfl, ru⟩ := vals1 rv
  cases ru
  obtain ⟨its, rel, small, o, at_, n, dat, cl⟩ : ∃ (its : List Value), Vals ys its ∧ ys.length ≤ sizeLine ∧ ∃ (o : Obj), s.heap.get? p = some o ∧ ∃ n, o.data = .seq its.toArray n ∧ (o.cls = .type "list" ∨ o.cls = .type "tuple") := by
    rcases seq with seq | seq
    · obtain ⟨its, rel, pl, small⟩ := I.list seq
      obtain ⟨o, at_, cl, n, dat⟩ := pl.isList
      exact ⟨its, rel, small, o, at_, n, dat, .inl cl⟩
    · obtain ⟨its, rel, ⟨o, at_, cl, n, dat⟩, small⟩ := I.tuple seq
      exact ⟨its, rel, small, o, at_, n, dat, .inr cl⟩
  have len := rel.length
  have fits : its.toArray.size ≤ sizeLine := by rw [List.size_toArray]; omega
  have done : ∀ (G : Heap) (m : Nat), (∀ b z, s.heap.get? b = some z → G.get? b = some z) → G.get? s.heap.objs.size = some { cls := .type "list", dict := none, data := .seq its.toArray m, slots := #[] } → EP X pins σ Q (.ref s.heap.objs.size) { s with heap := G } := fun G m kp e =>
    ⟨.ref s.heap.objs.size, _, I.laid (t' := s.toks) (o := .lst ys) kp (Nat.le_refl _) ⟨small, its, m, rel, e⟩, rfl, ask _ (I.hok.fresh (Nat.le_refl _)) (Nat.ne_of_gt I.big)⟩
  rcases cl with cl | cl
  · exact call_list_seq p (.inl rfl) at_ cl dat done (by omega)
  · exact call_list_seq p (.inr rfl) at_ cl dat done (by omega)
end
end Bf

namespace Bf
open PySem PySem.Spec PyProof.Rows L2
section
variable {X : Cx}
/-- repr(x), x a list of any address -/
def rReprL : List V → Hp → VK → Prop := fun xs H Q => ∃ (a : Addr) (ys : List V) (P : Addr → Prop) (b : Bool) (ds : List PyData), xs = [.ref a] ∧ H a = some (.lst ys) ∧ ShAll H P b ys ds ∧ (PyData.list ds).showable = true ∧ (PyData.list ds).depth ≤ 60 ∧ (PyData.list ds).shown.length ≤ sizeLine ∧ Q (.str (PyData.list ds).shown) H
theorem call_reprL (hA : X.A.guards = some []) (hu : X.A.units + 64 < cLine) : CallR X (.builtin "repr") rReprL := by
  intro pins s σ H xs us Q I r h
  obtain ⟨a, ys, P, b, ds, rfl, ha, hs, sw, dp, sz, q⟩ := h
  obtain ⟨u, rfl, rx⟩ := vals1 r
  cases rx
  obtain ⟨_, its, n, rv, e⟩ := I.hok _ _ ha
  obtain ⟨as, rd, hp⟩ := Sh.readsAll I ds ys its hs rv
  have nodict : PyData.hasDictAll ds = true → sysModules ∉ as := fun hd z => by
    cases b with
    | false => rw [ShAll.nodict ds ys hs] at hd; cases hd
    | true => exact hp rfl _ z rfl
  have sz' : (listText (PyData.shownAll ds)).length ≤ sizeLine := by simpa only [PyData.shown] using sz
  have sw' : PyData.showableAll ds = true := by simpa only [PyData.showable] using sw
  obtain ⟨bs, hb, hk⟩ := ReprAllK.of_readsAll (prog := X.prog) (w := X.w) rd sw' nodict (fun t ht => Nat.le_trans (listText_mem_le ht) sz')
  have whole : Reads s.heap (.ref a) (.list ds) (a :: as) := .list e rfl rfl (by simpa using rd)
  have hna : a ∉ bs := not_mem_of_deeper whole (by simp only [PyData.depth]; omega) hb
  simp only [PyData.depth] at dp
  have fin : ∀ h' u tk, (∀ b o, s.heap.get? b = some o → h'.get? b = some o) → EP X pins σ Q (.str (PyData.list ds).shown u) { s with heap := h', toks := tk } := fun h' u tk k => ⟨.str (PyData.list ds).shown, H, I.kept k, ⟨u, rfl⟩, q⟩
  simp only [PyData.shown] at fin
  refine call_repr_slot (by omega) ⟨_, e, rfl⟩ F.slot_list_repr.toG ?_
  cases its with
  | nil =>
    cases rd
    simp only [PyData.shownAll, listText_nil] at fin
    exact call_list_repr_empty ⟨_, e, rfl⟩ e rfl ⟨_, _, rfl, fin s.heap _ _ fun _ _ e => e⟩
  | cons x l =>
    exact call_list_reprK e rfl rfl hna (by simpa using hk.length_eq) (fun i y e => hk.item i y (by simpa using e)) hA (fun b _ => Clear.nil b) (by show X.A.units + 1 + _ < cLine; omega) (fun _ _ e => e) (fun h' u tk hk => ⟨_, _, rfl, fin h' u tk hk⟩) sz'
end
end Bf

set_option linter.all false
set_option maxHeartbeats 4000000
/-! Own rules: repr of an own exception within a list, and of lists whose items are data or own exceptions. -/
namespace PySem
open Sem (wp)
open Builtin Builtin.Str Builtin.BaseException Builtin.Exceptions
open PySem.W (Looks Frag findIn subIn clsIn looks_findIn looks_subIn looks_clsIn)
section
variable {prog : Program} {w : World} {A : Around} {E : Value → Shared → Prop} {s : Shared} {K : Frag} {C e t0 : Addr} {cd : ClassData}
theorem bf_bexcReprAt {b : Nat} {m : Str} {tk : Tok} {Q : Fin → Shared → Prop} (x : ExcC K C e t0 s.heap) (hc : clsIn K C = some cd) (ht : s.heap.TupAt t0 [.str m tk])
    (hq : Q (.done (.ret (.str (excTold cd m) (s.toks + 1)))) { s with toks := s.toks + 1 + 1 }) (hsz : b + (excTold cd m).length ≤ sizeLine) : wpAny (model prog w) A (Builtin.bexcReprAt b ⟨[.ref e], []⟩) Q E s := by
  have e1 : b + (Str.ofString ((cd.name.toString.cutAt '.').getLastD "") ++ Str.ofString "(" ++ reprText m ++ Str.ofString ")").length ≤ sizeLine := hsz
  have hsz2 : (Str.ofString ((cd.name.toString.cutAt '.').getLastD "") ++ Str.ofString "(" ++ reprText m ++ Str.ofString ")").length ≤ sizeLine := Nat.le_trans (Nat.le_add_left _ b) e1
  have eP : (Str.ofString "(").length = 1 := by rw [ofString_length]; rfl
  rw [strLen_append, strLen_append, strLen_append, eP] at e1
  have hsz1 : (reprText m).length ≤ sizeLine := by omega
  have hpile : b + ((Str.ofString ((cd.name.toString.cutAt '.').getLastD "")).length + 1) ≤ sizeLine := by omega
  unfold Builtin.bexcReprAt
  repeat (first | with_reducible refine bf_typeNameWhole x hc ?_ | with_reducible refine bexcArgs_C x ht ?_ | rw [pyReprUnder_leaf (v := .str m tk) hpile (by intro a; nofun)] | with_reducible refine wpAny_pyRepr_str ?_ | wp_step)
  exact hq
theorem bf_call_bexcUnder {b : Nat} {m : Str} {tk : Tok} {Q : Value → Shared → Prop} (x : ExcC K C e t0 s.heap) (hc : clsIn K C = some cd) (hB : subIn K (.ref C) (.type "BaseException") = some true) (ht : s.heap.TupAt t0 [.str m tk])
    (hq : Q (.str (excTold cd m) (s.toks + 1)) { s with toks := s.toks + 1 + 1 }) (hsz : b + (excTold cd m).length ≤ sizeLine) : wpAny (model prog w) A (call (.builtin "BaseException.__repr__.under") [.ref e, rawInt b]) Q E s := by
  refine wpAny_call (codeAny_call_builtin (by decide +kernel) F.entry_bexc_repr_under ?_)
  rw [F.check_bexc_repr_under]
  refine wpAny_pure ?_
  show wpAny _ _ (reprTwin "BaseException.__repr__" bexcReprAt ⟨[.ref e, rawInt b], []⟩) _ _ _
  rw [reprTwin_eq]
  refine wpAny_bind (@PySem.W.check_slot (model prog w) _ _ s "BaseException.__repr__" "BaseException" "__repr__" (.ref e) [] [] _ (by decide +kernel) (by decide +kernel) (x.LI hB) (F.args_bexc_repr _) ?_)
  exact wpAny_mono (bf_bexcReprAt x hc ht (Q := fun fin s' => ∃ v, fin = .done (.ret v) ∧ Q v s') ⟨_, rfl, hq⟩ hsz) (fun fin s' hv => by obtain ⟨v, rfl, q⟩ := hv; exact q) fun _ _ z => z
theorem bf_callSpecialIfBoundBy {last : Value → List Value → Sem Value} {v tp : Value} {name : Str} {i : String} {Q : Option Value → Shared → Prop} (hT : Looks (model prog w) s.heap (typeOf v) tp) (hf : Looks (model prog w) s.heap (typeLookup tp name) (some (.builtin i))) (hb : bindSpecial (.builtin i) v = pure (.builtin i, [v]))
    (hc : wpAny (model prog w) A (last (.builtin i) [v]) (fun r => Q (some r)) E s) : wpAny (model prog w) A (callSpecialIfBoundBy? last v name) Q E s := by
  simp only [callSpecialIfBoundBy?, bindSpecialIfBound?]
  refine wpAny_holding (wpAny_bind (wpAny_bind ?_))
  unfold specialOf
  refine wpAny_bind (hT.here (hf.here ?_))
  simp only [hb]
  refine wpAny_bind (wpAny_askSetting (wpAny_ite ?_))
  have fin : wpAny (model prog w) A (last (.builtin i) [v] >>= fun v => pure (some v)) Q E s :=
    wpAny_bind (wpAny_mono hc (fun v s' h' => wpAny_pure h') fun _ _ h' => h')
  split
  · exact wpAny_bind (wpAny_pure (wpAny_pure fin))
  · exact wpAny_tryCatch (wpAny_bind (wpAny_pure (wpAny_pure fin)))
theorem bf_reprK {h₀ : Heap} {as : List Addr} {d : Nat} {m : Str} {tk : Tok} (x : ExcC K C e t0 h₀) (hc : clsIn K C = some cd) (hB : subIn K (.ref C) (.type "BaseException") = some true)
    (hs : findIn K (.ref C) "__repr__" = some (some (.builtin "BaseException.__repr__"))) (ht : h₀.TupAt t0 [.str m tk]) : ReprK prog w as h₀ d (.ref e) (excTold cd m) := by
  intro base hb A g E s Q hg hcl hu hk0 hQ
  have x' : ExcC K C e t0 s.heap := by
    obtain ⟨X, oe, dd, e1, e2⟩ := x
    exact ⟨fun b o z => hk0 b o (X b o z), oe, dd, hk0 _ _ e1, e2⟩
  have ht' : s.heap.TupAt t0 [.str m tk] := by
    obtain ⟨o, n, e1, e2⟩ := ht
    exact ⟨o, n, hk0 _ _ e1, e2⟩
  have hf : Looks (model prog w) s.heap (typeLookup (.ref C) "__repr__") (some (.builtin "BaseException.__repr__")) := looks_findIn x'.1 hs
  refine wpAny_pyReprUnder_ref (by omega) ?_
  unfold pyReprObjUnder pyReprObjBy
  refine wpAny_bind (wpAny_cRoomFor (by omega) ?_)
  refine wpAny_bind (show wpAny _ _ (specialOf (.ref e) (Str.ofString "__repr__")) _ _ _ from ?_)
  unfold specialOf
  refine wpAny_bind (x'.LT.here (hf.here ?_))
  refine wpAny_bind (show wpAny _ _ (callSpecialIfBoundBy? _ (.ref e) (Str.ofString "__repr__")) _ _ _ from ?_)
  refine bf_callSpecialIfBoundBy x'.LT hf (F.excStr_Exception.repr.bind _) ?_
  refine bf_call_bexcUnder x' hc hB ht' ?_ hb
  refine wpAny_bind (wpAny_isInstance (T := "str") (b := true) rfl isSubtype_str_str ?_)
  exact wpAny_pure ⟨_, _, rfl, hQ s.heap _ fun _ _ z => z⟩
end
/-! ### lists of such -/
theorem bf_reads_item {h : Heap} : ∀ {us : List Value} {ds : List PyData} {as : List Addr}, ReadsAll h us ds as → ∀ u ∈ us, ∃ d as', Reads h u d as' ∧ d.depth ≤ PyData.depthAll ds
  | _, _, _, .nil, _, m => nomatch m
  | _, _, _, .cons h1 h2, u, m => by
    rcases List.mem_cons.mp m with rfl | m
    · exact ⟨_, _, h1, by simp only [PyData.depthAll]; exact Nat.le_max_left _ _⟩
    · obtain ⟨d, as', r, l⟩ := bf_reads_item h2 u m
      exact ⟨d, as', r, Nat.le_trans l (by simp only [PyData.depthAll]; exact Nat.le_max_right _ _)⟩
/-- no item of a list reads the list -/
theorem bf_not_in {h : Heap} {a : Addr} {o : Obj} {its : Array Value} {n : Nat} {u : Value} {d : PyData} {as bs : List Addr} (ha : h.get? a = some o) (hc : o.cls = .type "list") (hd : o.data = .seq its n) (m : u ∈ its.toList)
    (r : Reads h u d as) (hb : ReadAtMost h d.depth bs) : a ∉ bs := by
  intro hm
  obtain ⟨d', as', r', hd'⟩ := hb a hm
  cases r' with
  | list h1 h2 h3 h4 =>
    rw [ha] at h1
    cases h1
    rw [hd] at h3
    cases h3
    obtain ⟨d2, as2, r2, l2⟩ := bf_reads_item h4 u m
    obtain ⟨e, _⟩ := PyProof.Rows.reads_det (fun _ _ e _ => e) r r2
    rw [e] at l2
    simp only [PyData.depth] at hd'
    omega
  | tuple h1 h2 _ _ =>
    rw [ha] at h1
    cases h1
    exact absurd (Value.type.inj (hc.symm.trans h2)) (by decide)
  | dict h1 h2 _ _ _ =>
    rw [ha] at h1
    cases h1
    exact absurd (Value.type.inj (hc.symm.trans h2)) (by decide)
end PySem
namespace Bf
open PySem PySem.Spec PyProof.Rows L2
/-- an item as repr shows it: data, or an own exception of one text -/
inductive RIt (K : PySem.W.Frag) (H : Hp) : V → Str → Prop
  | dat {P : Addr → Prop} {b : Bool} {v : V} {d : PyData} (sh : Sh H P b v d) (sw : d.showable = true) (dp : d.depth ≤ 50) : RIt K H v d.shown
  | exc {a C : Addr} {z : Str} {cd : ClassData} (ev : ExV H a C z) (ef : ExF K C cd) : RIt K H (.ref a) (excTold cd z)
inductive RIts (K : PySem.W.Frag) (H : Hp) : List V → List Str → Prop
  | nil : RIts K H [] []
  | cons {v : V} {t : Str} {vs : List V} {ts : List Str} (h : RIt K H v t) (r : RIts K H vs ts) : RIts K H (v :: vs) (t :: ts)
section
variable {X : Cx} {pins : List (Addr × Obj)} {σ : L2.St} {H : Hp} {s : Shared}
theorem ExV.at_ {a C : Addr} {z : Str} {cd : ClassData} (I : L2.Inv X pins σ H s) (ev : ExV H a C z) (F : ExF X.K C cd) : ∃ t tk, PySem.ExcC X.K C a t s.heap ∧ s.heap.TupAt t [.str z tk] := by
  obtain ⟨d, t, fs, h1, h2, h3⟩ := ev
  have ho := exoT_at I.hok h1
  obtain ⟨_, its, rv, o, e1, e2, n, e3⟩ := (show ObjOk X.prog X.w H s.heap t (.tup [.str z]) from I.hok t _ h3)
  obtain ⟨u, rfl, ru⟩ := vals1 rv
  obtain ⟨tk, rfl⟩ := (show ∃ t, u = Value.str z t from ru)
  exact ⟨t, tk, ⟨I.kIn, _, _, ho, rfl, rfl, rfl⟩, ⟨o, n, e1, e2, e3⟩⟩
theorem RIt.k {a : Addr} {o : Obj} {its : Array Value} {n : Nat} {v : V} {u : Value} {t : Str} (I : L2.Inv X pins σ H s) (ha : s.heap.get? a = some o) (hc : o.cls = .type "list") (hd : o.data = .seq its n) (m : u ∈ its.toList)
    (h : RIt X.K H v t) (r : RelV v u) (sz : t.length ≤ sizeLine) : ∃ bs, a ∉ bs ∧ ReprK X.prog X.w bs s.heap 50 u t := by
  cases h with
  | @dat P b _ d sh sw dp =>
    obtain ⟨as, rd, hp⟩ := Sh.reads I d v u sh r
    have nodict : d.hasDict = true → sysModules ∉ as := fun hd z => by
      cases b with
      | false => rw [Sh.nodict d v sh] at hd; cases hd
      | true => exact hp rfl _ z rfl
    obtain ⟨bs, hb, hk⟩ := ReprK.of_reads (prog := X.prog) (w := X.w) rd sw nodict sz
    exact ⟨bs, PySem.bf_not_in ha hc hd m rd hb, hk.level_le dp⟩
  | exc ev ef =>
    cases (show u = _ from r)
    obtain ⟨t, tk, x, ht⟩ := ev.at_ I ef
    exact ⟨[], (fun z => nomatch z), PySem.bf_reprK x ef.cl ef.hs ef.hr ht⟩
theorem RIts.k {a : Addr} {o : Obj} {its : Array Value} {n : Nat} (I : L2.Inv X pins σ H s) (ha : s.heap.get? a = some o) (hc : o.cls = .type "list") (hd : o.data = .seq its n) : ∀ {vs : List V} {ts : List Str} {us : List Value}, (∀ u ∈ us, u ∈ its.toList) →
    RIts X.K H vs ts → Vals vs us → (∀ t ∈ ts, t.length ≤ sizeLine) → ∃ bs, a ∉ bs ∧ ReprAllK X.prog X.w bs s.heap 50 us ts
  | _, _, _, _, .nil, .nil, _ => ⟨[], (fun z => nomatch z), .nil⟩
  | _, _, _, m, .cons h r, .cons r1 r2, sz => by
    obtain ⟨b1, n1, k1⟩ := RIt.k I ha hc hd (m _ List.mem_cons_self) h r1 (sz _ List.mem_cons_self)
    obtain ⟨b2, n2, k2⟩ := RIts.k I ha hc hd (fun u x => m u (List.mem_cons_of_mem _ x)) r r2 (fun t x => sz t (List.mem_cons_of_mem _ x))
    exact ⟨b1 ++ b2, fun z => (List.mem_append.mp z).elim n1 n2, .cons (k1.more fun b hb => List.mem_append_left _ hb) (k2.more_le (fun b hb => List.mem_append_right _ hb) (Nat.le_refl _))⟩
end
section
variable {X : Cx}
/-- repr(x), x a list of data and own exceptions -/
def rReprX (K : PySem.W.Frag) : List V → Hp → VK → Prop := fun xs H Q => ∃ (a : Addr) (ys : List V) (ts : List Str), xs = [.ref a] ∧ H a = some (.lst ys) ∧ RIts K H ys ts ∧ (listText ts).length ≤ sizeLine ∧ Q (.str (listText ts)) H
theorem call_reprX (hA : X.A.guards = some []) (hu : X.A.units + 64 < cLine) : CallR X (.builtin "repr") (rReprX X.K) := by
  intro pins s σ H xs us Q I r h
  obtain ⟨a, ys, ts, rfl, ha, hs, sz, q⟩ := h
  obtain ⟨u, rfl, rx⟩ := vals1 r
  cases rx
  obtain ⟨_, its, n, rv, e⟩ := I.hok _ _ ha
  obtain ⟨bs, hna, hk⟩ := RIts.k I e rfl rfl (us := its) (fun u m => by simpa using m) hs rv (fun t ht => Nat.le_trans (listText_mem_le ht) sz)
  have fin : ∀ h' u tk, (∀ b o, s.heap.get? b = some o → h'.get? b = some o) → EP X pins σ Q (.str (listText ts) u) { s with heap := h', toks := tk } := fun h' u tk k => ⟨.str (listText ts), H, I.kept k, ⟨u, rfl⟩, q⟩
  refine call_repr_slot (by omega) ⟨_, e, rfl⟩ F.slot_list_repr.toG ?_
  cases its with
  | nil =>
    cases hk
    simp only [listText_nil] at fin
    exact call_list_repr_empty ⟨_, e, rfl⟩ e rfl ⟨_, _, rfl, fin s.heap _ _ fun _ _ e => e⟩
  | cons x l =>
    exact call_list_reprK e rfl rfl hna (by simpa using hk.length_eq) (fun i y e => hk.item i y (by simpa using e)) hA (fun b _ => Clear.nil b) (by show X.A.units + 1 + _ < cLine; omega) (fun _ _ e => e) (fun h' u tk hk => ⟨_, _, rfl, fin h' u tk hk⟩) sz
end
end Bf

set_option linter.all false
set_option maxHeartbeats 4000000
/-! Own rules: exceptions of own classes of any built-in family as values: made, their fields stored and read, isinstance. -/
namespace Bf
open PySem PySem.Spec PyProof.Rows L2
/-- what the written part says of the class C, which stands under the built-in class B -/
structure OexG (K : PySem.W.Frag) (C : Addr) (B : String) : Prop where
  cls : ∃ nm q N bs bm sn sub ab col dd k0 k1 k2 k3 k5 newId, K.lookup C = some (excClassObj nm q C N bs bm true sn sub ab col dd k0 k1 k2 k3 k5 newId) ∧ PySem.HandSPX.Fam newId bm ∧ bm.contains (.type B) = true
  sa : PySem.W.findIn K (.ref C) "__setattr__" = some (some (.builtin "object.__setattr__"))
  kC : PySem.W.keepIn K (.ref C) = true
/-- what a built-in base's __init__ is -/
structure BaseB (B initId : String) (n : Str) : Prop where
  i : PySem.HandSPX.InitF B initId
  ty : typeOf (.type B) = pure (.type "type")
  st : Manifest.isStub B = false
  bt : bootBuiltins n = some (.type B)
  db : (n == ("__debug__" : Str)) = false
  nn : n ≠ ("__name__" : Str)
  ha : PySem.W.handedIn (.builtin initId) = true
theorem base_VE : BaseB "ValueError" "ValueError.__init__" "ValueError" := ⟨PySem.HandSPX.initF_VE, by kernel_rfl, by decide +kernel, PyProof.Rows.Boot.«ValueError», by decide, by decide, by decide +kernel⟩
theorem base_KE : BaseB "KeyError" "KeyError.__init__" "KeyError" := ⟨PySem.HandSPX.initF_KE, by kernel_rfl, by decide +kernel, PyProof.Rows.Boot.«KeyError», by decide, by decide, by decide +kernel⟩
theorem base_LE : BaseB "LookupError" "LookupError.__init__" "LookupError" := ⟨PySem.HandSPX.initF_LE, by kernel_rfl, by decide +kernel, PyProof.Rows.Boot.«LookupError», by decide, by decide, by decide +kernel⟩
section
variable {X : Cx} {pins : List (Addr × Obj)} {σ : L2.St} {H : Hp} {s : Shared} {a C dx t0 : Addr} {f : Str} {y : V} {u : Value} {fs : List (Str × V)} {E : Value → Shared → Prop} {A : Around} {B initId : String} {n : Str}
/-- self.f = y, the first one -/
theorem ostG_new {Q : Unit → Shared → Prop} (T : OexG X.K C B) (I : L2.Inv X pins σ H s) (e : H a = some (exoT a C none t0)) (hno : PySem.W.findIn X.K (.ref C) f = some none) (ry : RelV y u)
    (h : ∀ dx s', H dx = none → dx ≠ a → L2.Inv X pins σ (upd (upd H dx (exd dx [(f, y)])) a (exoT a C (some dx) t0)) s' → Q () s') : wpAny (model X.prog X.w) A (setAttr (.ref a) f u) Q E s := by
  obtain ⟨nm, q, N, bs, bm, sn, sub, ab, col, dd, k0, k1, k2, k3, k5, newId, hC, fam, _⟩ := T.cls
  have hcl : PySem.W.clsIn X.K C = some { name := nm, bases := bs, mro := .ref C :: bm, ns := N, qualname := q, hasDict := true, slotNames := sn, subclasses := sub, abstract := ab, collection := col, hasDel := false } := by unfold PySem.W.clsIn; rw [hC] <;> rfl
  have ho := exoT_at I.hok e
  obtain ⟨hp, g, d, t, os⟩ := s
  refine PySem.W.set_plain I.kIn (ox := { cls := .ref C, dict := none, data := .fields #[.ref t0, .none, .none, .none, .bool false, .none] }) (od := none) ⟨ho, rfl, rfl, trivial⟩ T.sa ?_
  refine PySem.HandSPX.z_setNew (fam.under C) I.kIn ho hcl rfl hno (fun h' tk' dx k dn dne hx hn => ?_)
  exact h dx _ (I.hok.fresh dn) dne (I.un (t' := tk') (two_un I.hok e dn ⟨_, hx⟩ k (fun _ => exoT_tup) (fun _ _ => exoT_frz) fun _ => exoT_tbl)
    (two_ok I.hok e dn k (fun _ => exoT_own) (fun _ => exoT_tup) (fun _ => exd_ok hn (relO_put (fs := []) ry fun g => True.intro)) fun _ => exoT_ok hx))
/-- self.f = y, a further one -/
theorem ostG_old {Q : Unit → Shared → Prop} (T : OexG X.K C B) (I : L2.Inv X pins σ H s) (e : H a = some (exoT a C (some dx) t0)) (ed : H dx = some (exd dx fs)) (hl : fs.length ≤ 900) (hno : PySem.W.findIn X.K (.ref C) f = some none) (ry : RelV y u)
    (h : ∀ s', L2.Inv X pins σ (upd H dx (exd dx ((f, y) :: fs))) s' → Q () s') : wpAny (model X.prog X.w) A (setAttr (.ref a) f u) Q E s := by
  obtain ⟨nm, q, N, bs, bm, sn, sub, ab, col, dd, k0, k1, k2, k3, k5, newId, hC, fam, _⟩ := T.cls
  have hcl : PySem.W.clsIn X.K C = some { name := nm, bases := bs, mro := .ref C :: bm, ns := N, qualname := q, hasDict := true, slotNames := sn, subclasses := sub, abstract := ab, collection := col, hasDel := false } := by unfold PySem.W.clsIn; rw [hC] <;> rfl
  have ho := exoT_at I.hok e
  obtain ⟨mA, hns, rel⟩ := exd_at I.hok ed
  have hw := within_of rel
  obtain ⟨hp, g, d, t, os⟩ := s
  obtain ⟨oD, _, _, hoD, _, _⟩ := hns.count hw
  refine PySem.W.set_plain I.kIn (ox := { cls := .ref C, dict := some dx, data := .fields #[.ref t0, .none, .none, .none, .bool false, .none] }) (od := some oD) ⟨ho, rfl, rfl, hoD⟩ T.sa ?_
  refine PySem.HandSPX.z_setOld (fam.under C) I.kIn ho hns hw (by rw [List.length_map]; omega) hcl rfl hno (fun h' tk' k hn => ?_)
  have hd : ∃ o, h'.get? dx = some o := by
    obtain ⟨o, _, _, e', _⟩ := hn
    exact ⟨o, e'⟩
  exact h _ (I.write (t' := tk') (x := dx) (e := dx) (o := exd dx ((f, y) :: fs)) (by rw [ed]; exact True.intro) (.inl rfl) k hd (exd_ok hn (relO_put ry rel)))
/-- B.__init__(self, ..): the args are laid anew -/
theorem oinitG {us : List Value} {vs : List V} {Q : Value → Shared → Prop} (BB : BaseB B initId n) (T : OexG X.K C B) (I : L2.Inv X pins σ H s) (e : H a = some (exoT a C none t0)) (rv : Vals vs us) (hl : us.length ≤ sizeLine)
    (h : ∀ t1 s', H t1 = none → t1 ≠ a → L2.Inv X pins σ (upd (upd H t1 (.tup vs)) a (exoT a C none t1)) s' → Q .none s') : wpAny (model X.prog X.w) A (call (.builtin initId) (.ref a :: us)) Q E s := by
  obtain ⟨nm, q, N, bs, bm, sn, sub, ab, col, dd, k0, k1, k2, k3, k5, newId, hC, fam, hB⟩ := T.cls
  have ho := exoT_at I.hok e
  obtain ⟨hp, g, d, t, os⟩ := s
  refine wpAny_call (PySem.HandSPX.z_init BB.i hB (I.kIn _ _ hC) ho hl fun h' t1 k dn dne hx ht => ?_)
  obtain ⟨o, n, g1, g2, g3⟩ := ht
  exact h t1 _ (I.hok.fresh dn) dne (I.un (t' := t) (two_un I.hok e dn ⟨_, hx⟩ k (fun _ => exoT_tup) (fun _ _ => exoT_frz) fun _ => exoT_tbl)
    (two_ok I.hok e dn k (fun _ => exoT_own) (fun _ => exoT_tup) (fun _ => ⟨by rw [Paired.length rv]; exact hl, us, rv, o, g1, g2, n, g3⟩) fun _ => exoT_ok hx))
end

/-! ### readings and rules -/
/-- B.__init__(self, ..) -/
def tBiG (K : PySem.W.Frag) (B : String) (ta : TA) : TE := fun σ H Q => ta σ H fun vs H1 => ∃ (a C t : Addr) (ws : List V), vs = .ref a :: ws ∧ ws.length ≤ 1000 ∧ OexG K C B ∧ H1 a = some (exoT a C none t) ∧
  ∀ t1, H1 t1 = none → t1 ≠ a → Q .non (upd (upd H1 t1 (.tup ws)) a (exoT a C none t1))
/-- self.f = e -/
def tOstG (K : PySem.W.Frag) (f : Str) (to te : TE) : TS := fun D σ H => te σ H fun y H1 => to σ H1 fun x H2 => ∃ (a C t : Addr) (B : String), x = .ref a ∧ OexG K C B ∧ PySem.W.findIn K (.ref C) f = some none ∧
  ((H2 a = some (exoT a C none t) ∧ ∀ dx, H2 dx = none → dx ≠ a → D.nx σ (upd (upd H2 dx (exd dx [(f, y)])) a (exoT a C (some dx) t))) ∨
    ∃ (dx : Addr) (fs : List (Str × V)), H2 a = some (exoT a C (some dx) t) ∧ H2 dx = some (exd dx fs) ∧ fs.length ≤ 900 ∧ D.nx σ (upd H2 dx (exd dx ((f, y) :: fs))))
/-- e.f, e an own exception -/
def tXfG (K : PySem.W.Frag) (f : Str) (te : TE) : TE := fun σ H Q => te σ H fun x H1 => ∃ (a C d t : Addr) (fs : List (Str × V)) (v : V), x = .ref a ∧ XfC K C ∧ PySem.W.findIn K (.ref C) f = some none ∧
  H1 a = some (exoT a C (some d) t) ∧ H1 d = some (exd d fs) ∧ fs.lookup f = some v ∧ Q v H1
section
variable {X : Cx} {o e : Expr} {es : List Expr} {to te : TE} {ta : TA} {f n : Str} {p p' p1 p2 pos : Pos} {B initId : String}
theorem pe_binitG {pl : Sem Bool} (BB : BaseB B initId n) (hg : Gl X n) (hm : X.mg n = none) (vV : PySem.W.findCls X.K (.type B) (.type "type") "__init__" = some (.val (.builtin initId))) (ha : PA X (e :: es) ta)
    (hc : eval (.Call (.Attribute (.Name n p1) "__init__" p2) (e :: es) [] pos) X.env = (do
      let ov ← eval (.Name n p1) X.env
      standAt p2.atName
      let (f, first) ← holding [ov] (getMethod ov "__init__" pl)
      callWith pos f first (backTo pos (starEach (e :: es) X.env)) (backToKw pos (keywordEach [] X.env))) := by rfl)
    (he : starEach (e :: es) X.env = (false, eval e X.env) :: starEach es X.env := by rfl) (hpl : (backTo pos (starEach es X.env)).any (·.1) = false := by rfl) :
    PE X (.Call (.Attribute (.Name n p1) "__init__" p2) (e :: es) [] pos) (tBiG X.K B ta) := by
  refine ⟨fun pins s σ H Q I h => ?_⟩
  refine PySem.W.methodCall_KW (ld_blt I hg hm BB.bt ?_ BB.nn BB.db) hc
  obtain ⟨m, fr⟩ := I.fr
  refine PySem.W.method_type fr I.ok.mod.kin BB.ty BB.st vV BB.ha ?_
  show wpAny _ _ (callWith pos (Value.builtin initId) [] (backTo pos (starEach (e :: es) X.env)) []) _ _ _
  refine PyProof.Rows.callWith_method1 (thn (ha.run pos pins _ σ H _ (I.tok _) h) fun us s1 ⟨vs, H1, I1, r1, a, C, t, ws, ev, hl, T, ea, q⟩ => ?_) he hpl
  subst ev
  cases r1 with
  | @cons _ u0 _ ur ra rw' =>
    obtain rfl : u0 = Value.ref a := ra
    have hlen : ur.length ≤ sizeLine := by
      rw [← Paired.length rw', sizeLine_eq]
      omega
    exact oinitG BB T I1 ea rw' hlen fun t1 s' n ne J => ⟨.non, _, J, rfl, q t1 n ne⟩
theorem ps_ostG (ho : PE X o to) (he : PE X e te) (hs : swapsWith e (some (.Attribute o f p')) pos.line X.env = pure false := by rfl) : PS X (.Assign [.Attribute o f p'] e pos) (tOstG X.K f to te) := by
  refine ⟨fun pins s σ H D I h => ?_⟩
  refine plainObj_wpAny_Assign_Attribute (thn (he.run pins s σ H _ I h) fun v s1 ⟨y, H1, I1, r1, q1⟩ => thn (ho.run pins s1 σ H1 _ I1 q1) fun u s2 ⟨x, H2, I2, r2, a, C, t, B, ex, T, hno, q⟩ => ?_) hs
  subst ex
  obtain rfl : u = Value.ref a := r2
  rcases q with ⟨ea, q⟩ | ⟨dx, fs, ea, ed, hl, q⟩
  · exact ostG_new T I2 ea hno r1 fun dx s' n ne J => ⟨σ, _, J, q dx n ne⟩
  · exact ostG_old T I2 ea ed hl hno r1 fun s' J => ⟨σ, _, J, q⟩
theorem pe_xfG (he : PE X e te) (hb : attributeBase e f X.env (eval e X.env) = eval e X.env := by rfl) : PE X (.Attribute e f pos) (tXfG X.K f te) := by
  refine ⟨fun pins s σ H Q I h => ?_⟩
  refine attr_of hb (thn (he.run pins s σ H _ I h) fun u s1 hh => ?_)
  obtain ⟨x, H1, I1, rx, a, C, d, t, fs, v, ex, T, hno, ea, ed, l, q⟩ := hh
  subst ex
  obtain rfl : u = Value.ref a := rx
  have ha := exoT_at I1.hok ea
  obtain ⟨mA, hns, hr⟩ := exd_at I1.hok ed
  obtain ⟨od, ho, hl⟩ := lookIn_ns hns
  obtain ⟨u, hu, ru⟩ := RelO.some_of (v := v) (o := mA f) (by rw [← l]; exact hr f)
  have J : PySem.W.InstAt s1.heap a { cls := .ref C, dict := some d, data := .fields #[.ref t, .none, .none, .none, .bool false, .none] } C (some od) := ⟨ha, rfl, rfl, ho⟩
  exact PySem.HandSPX.exc_get I1.kIn J T.ga T.gg T.exC (PySem.W.findObj_own T.hdC hno rfl (by rw [hl, hu])) (handed_of ru) ⟨v, H1, I1.tok _, ru, q⟩
theorem pe_mkG {CX : CXT} {x : Str} {C fI : Addr} {k : Nat} {fd : FuncData} {ps : List Str} {sp : Sp} (T : OexG X.K C B) (iC : PySem.W.findIn X.K (.ref C) "__init__" = some (some (.ref fI))) (tI : PySem.W.typeIn X.K (.ref fI) = some (.type "function"))
    (F1 : FnOk X.prog X.w X.K X.mg X.base CX k fI fd ps sp) (hr : Room (k + 1) X.A) (hb : Binds X.K fd ps []) (hx : Passes CX X (fun _ _ _ => False)) (hg : Gl X x) (hm : X.mg x = some (.ref C)) (ha : PA X (e :: es) ta)
    (hdb : (x == ("__debug__" : Str)) = false := by decide) (he : starEach (e :: es) X.env = (false, eval e X.env) :: starEach es X.env := by rfl) (hpl : (backTo pos (starEach es X.env)).any (·.1) = false := by rfl) :
    PE X (.Call (.Name x p) (e :: es) [] pos) (tMkT C sp ta) := by
  refine ⟨fun pins s σ H Q I h => ?_⟩
  obtain ⟨nm, q, N, bs, bm, sn, sub, ab, col, dd, k0, k1, k2, k3, k5, newId, hC, fam, _⟩ := T.cls
  refine wpAny_Call_Name_kw (ld_glob I hg hm ?_ hdb)
  refine PySem.W.callWith_K (h₀ := X.base) I.ok.mod.kin T.kC (thn (ha.run pos pins s σ H _ I h) fun us s1 ⟨vs, H1, I1, r1, hz, q1⟩ => ⟨I1.kIn, ?_⟩) he hpl
  show wpAny _ _ (call (.ref C) us) _ _ _
  obtain ⟨hp, g, dr, tk, os⟩ := s1
  have hsz : hp.objs.size ≤ hp.objs.size + 1 := Nat.le_succ _
  have hn : H1 (hp.objs.size + 1) = none := I1.hok.fresh hsz
  have hq := q1 (hp.objs.size + 1) hp.objs.size hn
  have kk : ∀ b o, hp.get? b = some o → ((hp.push (PySem.W.kdv_tup us)).push (PySem.HandSPX.excO C hp.objs.size)).get? b = some o := fun b o e => Heap.get?_push_of_some _ (Heap.get?_push_of_some _ e)
  have hget : ((hp.push (PySem.W.kdv_tup us)).push (PySem.HandSPX.excO C hp.objs.size)).get? (hp.objs.size + 1) = some (PySem.HandSPX.excO C hp.objs.size) := by heap_get
  have I2 : L2.Inv X pins σ (upd H1 (hp.objs.size + 1) (exoT (hp.objs.size + 1) C none hp.objs.size)) ⟨(hp.push (PySem.W.kdv_tup us)).push (PySem.HandSPX.excO C hp.objs.size), g, dr, tk, os⟩ :=
    I1.laid (t' := tk) (a := hp.objs.size + 1) (o := exoT (hp.objs.size + 1) C none hp.objs.size) (h' := (hp.push (PySem.W.kdv_tup us)).push (PySem.HandSPX.excO C hp.objs.size)) kk hsz (exoT_ok hget)
  have r2 : Vals (V.ref (hp.objs.size + 1) :: vs) (Value.ref (hp.objs.size + 1) :: us) := .cons rfl r1
  have hl : (Value.ref (hp.objs.size + 1) :: us ++ []).length = ps.length := by
    have e := r2.length
    rw [F1.len _ _ _ _ hq] at e
    rw [List.append_nil]
    exact e.symm
  have hus : us.length ≤ sizeLine := by
    rw [← Paired.length r1, sizeLine_eq]
    omega
  have bd : BindsTo ⟨(hp.push (PySem.W.kdv_tup us)).push (PySem.HandSPX.excO C hp.objs.size), g, dr, tk, os⟩ fd ⟨Value.ref (hp.objs.size + 1) :: us, []⟩ (ps.zip (Value.ref (hp.objs.size + 1) :: us)) := by
    have z := hb _ (Value.ref (hp.objs.size + 1) :: us) I2.kIn hl
    rw [List.append_nil] at z
    exact z
  refine wpAny_call (PySem.HandSPX.z_call fam (I1.kIn _ _ hC) (PySem.W.looks_findIn I1.kIn iC) (fun self => PySem.W.bind_fn I1.kIn self tI) hus
    (codeAny_mono (F1.run _ X.stack _ _ ⟨Value.ref (hp.objs.size + 1) :: us, []⟩ (Value.ref (hp.objs.size + 1) :: us) _ _ (fun _ _ _ => False) (hr.make C us []) (I2.env0.make C us []) bd r2 hq) fun r s' hq' => ?_))
  cases r with
  | error er => exact hx pins σ _ _ er s' I2 hq'
  | ok fl =>
    cases fl with
    | ret u =>
      obtain ⟨v, H2, os2, bare2, un2, hok2, rv, ev, q2⟩ := hq'
      subst ev
      exact ⟨rv, L2.Inv.after (Q := fun z H' => Q z H') (u := .ref (hp.objs.size + 1)) I2 ⟨.ref (hp.objs.size + 1), H2, os2, bare2, un2, hok2, rfl, q2⟩⟩
    | next => exact False.elim hq'
    | brk => exact False.elim hq'
    | cont => exact False.elim hq'
end
/-! ### isinstance -/
/-- at a: an exception of the class at C, its dict tracked if it has one -/
def ExG (H : Hp) (a C : Addr) : Prop := ∃ (d : Option Addr) (t : Addr), H a = some (exoT a C d t) ∧ ∀ d', d = some d' → ∃ fs, H d' = some (exd d' fs)
theorem ExG.same {H H' : Hp} {a C : Addr} (e : Same H H') (h : ExG H a C) : ExG H' a C := by
  obtain ⟨d, t, h1, h2⟩ := h
  exact ⟨d, t, e _ _ h1, fun d' z => let ⟨fs, q⟩ := h2 d' z; ⟨fs, e _ _ q⟩⟩
theorem ExV.g {H : Hp} {a C : Addr} {z : Str} (h : ExV H a C z) : ExG H a C := by
  obtain ⟨d, t, fs, h1, h2, _⟩ := h
  exact ⟨some d, t, h1, fun d' e => by cases e; exact ⟨fs, h2⟩⟩
/-- isinstance(e, c) -/
def rIsG (K : PySem.W.Frag) : List V → Hp → VK → Prop := fun xs H Q => ∃ (a C : Addr) (c : V) (u : Value) (b : Bool), xs = [.ref a, c] ∧ ClsV c u ∧ ExG H a C ∧ ExcC K C ∧ PySem.W.kitOne K (.ref C) u = some b ∧ Q (.bl b) H
/-- isinstance(e, c), e the exception that the suite holds, with fields -/
def rIsD (K : PySem.W.Frag) (D a d : Addr) : List V → Hp → VK → Prop := fun xs H Q => ∃ (fs : List (Str × V)), H d = some (.xd fs) ∧
  ((∃ (c : V) (u : Value) (b : Bool), xs = [.ref a, c] ∧ ClsV c u ∧ PySem.W.kitOne K (.ref D) u = some b ∧ Q (.bl b) H) ∨
   (∃ (tp : Addr) (cs : List V) (us : List Value) (b : Bool), xs = [.ref a, .ref tp] ∧ H tp = some (.tup cs) ∧ Paired ClsV cs us ∧ PySem.W.kitAny K (.ref D) us = some b ∧ Q (.bl b) H))
section
variable {X : Cx}
theorem call_isG : CallR X (.builtin "isinstance") (rIsG X.K) := by
  intro pins s σ H xs us Q I r h
  obtain ⟨a, C, c, u, b, rfl, k, ⟨d, t, h1, h2⟩, F, e, q⟩ := h
  obtain ⟨u1, u2, rfl, r1, r2⟩ := vals2 r
  have e2 := k.eq r2
  subst e2
  cases (show u1 = Value.ref a from r1)
  have ho := exoT_at I.hok h1
  have J : ∃ od, PySem.W.InstAt s.heap a { cls := .ref C, dict := d, data := .fields #[.ref t, .none, .none, .none, .bool false, .none] } C od := by
    cases d with
    | none => exact ⟨none, ho, rfl, rfl, trivial⟩
    | some d' =>
      obtain ⟨fs, q⟩ := h2 d' rfl
      obtain ⟨mA, hns, _⟩ := exd_at I.hok q
      obtain ⟨oD, _, _, hoD, _⟩ := hns
      exact ⟨some oD, ho, rfl, rfl, hoD⟩
  obtain ⟨od, J⟩ := J
  exact PySem.W.kia_one (PySem.W.bf_kitx_exc F.hg F.hk F.hs F.hd F.ha F.hn F.ht F.hm) I.kIn J e (fun z => nomatch z) fun tk => ⟨.bl b, H, I.tok tk, rfl, q⟩
theorem call_isD {a D d : Addr} {oe : Obj} {cls : Value} {pn : List (Addr × Obj)} (C : ExcC X.K D) (hz : Zc (.ref D) (some d) oe) (hf : ∃ vs, oe.data = .fields vs) : CallR (X.suite a ((a, oe) :: pn)) (.builtin "isinstance") (rIsD X.K D a d) := by
  intro pins s σ H xs us Q I r h
  obtain ⟨fs, hd, h⟩ := h
  obtain ⟨hget, _⟩ := I.pin (a, oe) (List.mem_append.mpr (.inl List.mem_cons_self))
  obtain ⟨vs, hv⟩ := hf
  have hx : ObjOk X.prog X.w H s.heap d (.xd fs) := I.hok d _ hd
  obtain ⟨mA, hns, hr⟩ := hx
  obtain ⟨oD, _, _, hoD, _⟩ := hns
  have J : PySem.W.InstAt s.heap a oe D (some oD) := ⟨hget, hz.1, by unfold PySem.W.notCls; rw [hv] <;> rfl, by rw [hz.2]; exact hoD⟩
  have Z := PySem.W.bf_kitx_exc (K := X.K) (x := a) (D := D) (ox := oe) (od := some oD) C.hg C.hk C.hs C.hd C.ha C.hn C.ht C.hm
  rcases h with ⟨c, u, b, rfl, k, e, q⟩ | ⟨tp, cs, ws, b, rfl, hT, k, e, q⟩
  · obtain ⟨u1, u2, rfl, r1, r2⟩ := vals2 r
    have e2 := k.eq r2
    subst e2
    cases (show u1 = Value.ref a from r1)
    exact PySem.W.kia_one Z I.kIn J e (fun z => nomatch z) fun tk => ⟨.bl b, H, I.tok tk, rfl, q⟩
  · obtain ⟨u1, u2, rfl, r1, r2⟩ := vals2 r
    cases (show u1 = Value.ref a from r1)
    cases (show u2 = Value.ref tp from r2)
    obtain ⟨_, its, rv, o, h1, h2, n, h3⟩ := (show ObjOk X.prog X.w H s.heap tp (.tup cs) from I.hok tp _ hT)
    have e3 := ClsV.all k rv
    subst e3
    obtain ⟨oc, od, dt, sl⟩ := o
    simp only at h2 h3
    subst h2 h3
    exact PySem.W.kia_tup Z I.kIn J h1 e (fun z => nomatch z) fun tk => ⟨.bl b, H, I.tok tk, rfl, q⟩
end
end Bf

set_option linter.all false
set_option maxHeartbeats 4000000
/-! Own rules: < between whole numbers and truths, range of a truth, list.count of texts. -/
namespace PySem
open Sem (wp)
theorem bf_lt_bi (a : Bool) (b : Int) (u : Tok) : Gives (Builtin.«int.__lt__» ⟨[.bool a, .int b u], []⟩) (.val (.bool (decide ((if a = true then (1 : Int) else 0) < b)))) := .of_eq rfl
theorem bf_gt_bi (a : Bool) (b : Int) (u : Tok) : Gives (Builtin.«int.__gt__» ⟨[.bool a, .int b u], []⟩) (.val (.bool (decide ((if a = true then (1 : Int) else 0) > b)))) := .of_eq rfl
section
variable {prog : Program} {w : World} {A : Around} {E : Value → Shared → Prop} {s : Shared} {Q : Value → Shared → Prop}
theorem bf_lt_bool_int {a : Bool} {b : Int} {u : Tok} (h : Q (.bool (decide ((if a = true then (1 : Int) else 0) < b))) s) : wpAny (model prog w) A (compareOp .Lt (.bool a) (.int b u)) Q E s :=
  show wpAny _ _ (richCompare .Lt _ _) _ _ _ from SeqAt.rc_left_or (op := .Lt) rfl (typeIs_int s b u) (by decide) F.sub_int_bool F.slot_bool_lt
    (call_gives F.slot_bool_lt rfl F.entry_int_lt (F.args_int_lt_2 _ _) (bf_lt_bi a b u) ⟨nofun, h⟩) (.inl rfl)
theorem bf_lt_int_bool {a : Int} {b : Bool} {t : Tok} (h : Q (.bool (decide (a < (if b = true then (1 : Int) else 0)))) s) : wpAny (model prog w) A (compareOp .Lt (.int a t) (.bool b)) Q E s :=
  show wpAny _ _ (richCompare .Lt _ _) _ _ _ from SeqAt.rc_sub_first_or (op := .Lt) (typeIs_int s a t) rfl (by decide) F.sub_bool_int F.slot_bool_gt_refl
    (call_gives F.slot_bool_gt_refl rfl F.entry_int_gt (F.args_int_gt_2 _ _) (bf_gt_bi b a t) ⟨nofun, h⟩) (.inl rfl)
theorem bf_range_bool (b : Bool) (hsub : isSubtype (.type "range") (.type "range") = pure true) :
    Meets (Builtin.«range.__new__» ⟨[.type "range", .bool b], []⟩) (fun _ R s => R (.ok (.ret (Value.ref s.heap.objs.size))) { s with heap := s.heap.push { cls := Value.type "range", data := Data.fields #[Value.int 0 s.toks, Value.int (if b = true then 1 else 0) (s.toks + 1), Value.int 1 (s.toks + 1 + 1)] }, toks := s.toks + 1 + 1 + 1 }) :=
  .of_wp fun prog w A R s h => by
    obtain ⟨hp, g, d, tk, os⟩ := s
    cases b <;> (wp_walk; exact ⟨_, rfl, h⟩)
theorem bf_call_range_bool {b : Bool}
    (h : Q (.ref s.heap.objs.size) { s with heap := s.heap.push { cls := .type "range", data := .fields #[.int 0 s.toks, .int (if b = true then 1 else 0) (s.toks + 1), .int 1 (s.toks + 1 + 1)] }, toks := s.toks + 1 + 1 + 1 }) :
    wpAny (model prog w) A (call (.type "range") [.bool b]) Q E s :=
  callType_new F.called_range (by decide) (F.typeCall_range_1 _) (F.newCall_range_1 _) (fun obj => F.initArgs_range_1 obj _) F.entry_range_new
    (bf_range_bool b F.called_range.sub) ⟨⟨_, Heap.get?_push_size _ rfl, rfl⟩, h⟩
end
end PySem
namespace Bf
open PySem PySem.Spec PyProof.Rows L2
/-- a whole number or a truth, as a number -/
def numV : V → Option Int
  | .int i => some i
  | .bl b => some (if b = true then 1 else 0)
  | _ => none
def rLtM : R2 := fun x y H Q => ∃ i j, numV x = some i ∧ numV y = some j ∧ Q (.bl (decide (i < j))) H
section
variable {X : Cx}
theorem op_ltM : OpR X (compareOp .Lt) rLtM := by
  intro pins s σ H x y v u Q I rx ry h
  obtain ⟨i, j, ex, ey, q⟩ := h
  cases x with
  | int a =>
    obtain ⟨t, rfl⟩ := rx
    cases ex
    cases y with
    | int b =>
      obtain ⟨t2, rfl⟩ := ry
      cases ey
      exact PySem.P.lt_int ⟨.bl _, H, I, rfl, q⟩
    | bl b =>
      cases (show u = Value.bool b from ry)
      cases ey
      exact PySem.bf_lt_int_bool ⟨.bl _, H, I, rfl, q⟩
    | _ => cases ey
  | bl a =>
    cases (show v = Value.bool a from rx)
    cases ex
    cases y with
    | int b =>
      obtain ⟨t2, rfl⟩ := ry
      cases ey
      exact PySem.bf_lt_bool_int ⟨.bl _, H, I, rfl, q⟩
    | bl b =>
      cases (show u = Value.bool b from ry)
      cases ey
      exact PyProof.Rows.lt_bool ⟨.bl _, H, I, rfl, q⟩
    | _ => cases ey
  | _ => cases ex
/-- range(x), x a whole number or a truth -/
def iRngM (ta : TA) : TI := fun σ H R => ta σ H fun vs H1 => ∃ (x : V) (j : Int), vs = [x] ∧ numV x = some j ∧ -(2 ^ 62) ≤ j ∧ j < 2 ^ 62 ∧ R (Itr 0 j.toNat) H1
theorem pi_rangeM {tg : Expr} {a : Expr} {ta : TA} {p pos : Pos} (hg : Gl X "range") (hm : X.mg "range" = none) (ha : PA X [a] ta) (hs : starEach [a] X.env = [(false, eval a X.env)] := by rfl) : PI X tg (.Call (.Name "range" p) [a] [] pos) (iRngM ta) := by
  refine ⟨fun pins s σ H R I h => ?_⟩
  refine Call_ (ld_blt I hg hm boot_range (PyProof.Rows.callWith_type1 (thn (ha.run pos pins s σ H _ I h) fun us s1 ⟨vs, H1, I1, r1, x, j, e, ex, q1, q2, q⟩ => ?_) hs rfl))
  subst e
  cases r1 with
  | cons r rr =>
    cases rr
    cases x with
    | int a =>
      obtain ⟨t, rfl⟩ := r
      cases ex
      exact call_range_1 (range_it I1 (by omega) (by omega) q1 q2 (by simpa using q))
    | bl b =>
      cases r
      cases ex
      exact PySem.bf_call_range_bool (range_it I1 (by omega) (by omega) q1 q2 (by simpa using q))
    | _ => cases ex
/-! ### list.count of texts -/
def eqs (z : Str) (v : Value) : Bool := match v with
  | .str n _ => n == z
  | _ => false
theorem eqs_gives {A : Around} {s : Shared} {z : Str} {t : Tok} : ∀ {us : List Value} {ns : List Str}, Vals (ns.map V.str) us → ∀ y ∈ us, SeqAt.EqAt A s y (.str z t) (eqs z y)
  | us, [], h, y, hy => by cases h; cases hy
  | us, n :: ns, h, y, hy => by
    cases h with
    | cons r rr =>
      obtain ⟨t', rfl⟩ := r
      rcases List.mem_cons.mp hy with e | e
      · rw [e]
        exact SeqAt.EqAt.str_str n t' z t
      · exact eqs_gives rr y e
theorem eqs_count {z : Str} : ∀ {us : List Value} {ns : List Str}, Vals (ns.map V.str) us → us.countP (eqs z) = ns.count z
  | us, [], h => by cases h; rfl
  | us, n :: ns, h => by
    cases h with
    | cons r rr =>
      obtain ⟨t', rfl⟩ := r
      have ih := eqs_count (z := z) rr
      rw [List.countP_cons, List.count_cons, ih]
      rfl
def rCntS (K : PySem.W.Frag) : V → List V → Hp → VK → Prop := fun x xs H Q => ∃ (p : Addr) (ns : List Str) (z : Str), x = .ref p ∧ xs = [.str z] ∧ SqL K H p (ns.map V.str) ∧ Q (.int (ns.count z : Nat)) H
theorem mt_lcountS : MtR X "list.count" (rCntS X.K) := by
  intro pins s σ H x xs v us Q I rx rxs h
  obtain ⟨p, ns, z, rfl, rfl, hs, q⟩ := h
  cases rx
  obtain ⟨u, rfl, ru⟩ := rxs.one
  obtain ⟨t, rfl⟩ := ru
  obtain ⟨its, rv, ⟨⟨cls, dd, data, sl⟩, n, ho, hc, hdn, hd⟩, hlen⟩ := I.list hs
  simp only at hc hd
  subst hc hd
  refine call_meets PySem.F.slot_list_count ⟨_, ho, rfl⟩ PySem.F.entry_list_count (PySem.F.args_list_count_2 _ _)
    (SeqAt.list_countAt p its.toArray n dd sl (.str z t) (eqs z)) ⟨ho, fun y hy => eqs_gives rv y (by simpa using hy), ?_⟩
  have ec : its.toArray.toList.countP (eqs z) = ns.count z := eqs_count rv
  refine ⟨.int (ns.count z : Nat), H, I.tok _, ⟨s.toks, ?_⟩, q⟩
  show Value.int ((its.toArray.toList.countP (eqs z) : Nat) : Int) s.toks = Value.int ((ns.count z : Nat) : Int) s.toks
  rw [ec]
end
end Bf

set_option linter.all false
set_option maxHeartbeats 4000000
/-! Own rules: set comprehensions whose elements are texts or whole numbers; len of such a set. -/
namespace Bf
open PySem PySem.Spec PyProof.Rows L2 PpSet
/-- {elt for target in iter if ..}, elt a key: D the new set -/
def tScK (P : Program) (w : World) (wi : TI) (g : TG) (tt : TT) (te : TE) (vs : List Nat) : TE := fun σ H Q => wi σ H fun J H1 => ∀ D, H1 D = none → ∃ W : Nat → Nat → Hp → Prop, (∃ m, W 0 m (upd H1 D (SetK P w D (fun _ => false) 0))) ∧ ∀ i m H, W i m H →
  (J.stop i H ∧ Q (.ref D) H) ∨ (J.go i H ∧ ∃ Nx : Hp → Prop, (∀ H', Nx H' → ∃ m', m' < m ∧ W (i + 1) m' H') ∧ ∀ x H', J.yld i H x H' → g x (wipe σ vs) H' fun σ2 H2 => wipe σ2 vs = wipe σ vs ∧ tt σ2 H2 fun b H3 =>
    if b = true then te σ2 H3 fun y H4 => ∃ (c : Key) (S : Key → Bool) (n : Nat), y = kV c ∧ H4 D = some (SetK P w D S n) ∧ n + 1 < scanBound ∧ Nx (upd H4 D (SetK P w D (fun j => S j || decide (j = c)) (if S c = true then n else n + 1))) else Nx H3)
/-- a freshly laid set, told as one of keys -/
theorem freshK {P : Program} (w : World) {h : Heap} : (h.push { cls := .type "set", dict := none, data := .set #[] 0 (.fresh 0 0 (!w.params.followText "set-order")) }).SetOf (mixKind P w) h.objs.size (fun _ => false) 0 :=
  ⟨_, #[], 0, _, Heap.get?_push_size _ rfl, ⟨rfl, rfl, rfl⟩, rfl, (fun e he => by simp at he), (fun k => by simp), (by decide), (by rfl), rfl⟩
section
variable {X : Cx}
theorem putK_ok {pins : List (Addr × Obj)} {σ : L2.St} {H : Hp} {s : Shared} {E : Value → Shared → Prop} {D : Addr} {S : Key → Bool} {n : Nat} {c : Key} {u : Value} {Q : Value → Shared → Prop} (I : L2.Inv X pins σ H s) (hD : H D = some (SetK X.prog X.w D S n)) (ru : RelV (kV c) u) (room : n + 1 < scanBound)
    (h : ∀ s', L2.Inv X pins σ (upd H D (SetK X.prog X.w D (fun j => S j || decide (j = c)) (if S c = true then n else n + 1))) s' → Q .none s') : wpAny (model X.prog X.w) X.A (call (.builtin "set.add") [.ref D, u]) Q E s :=
  call_set_add (kV_is ru) (key_scan ru) (setK_get I hD) room fun h' sb new =>
    h _ (I.write (e := D) (t' := s.toks + 1) (by rw [hD]; trivial) (.inl rfl) (fun b o nb e => (sb.2 b nb).trans e) (let ⟨o, _, _, _, q, _⟩ := new; ⟨o, q⟩) (setK_new new))
theorem pe_scK {elt tg iter : Expr} {ifs : List Expr} {scope : Scope} {own : List (PySem.Str × Nat)} {pos : Pos} {wi : TI} {g : TG} {tt : TT} {te : TE} (calm : X.calm = true) (nd : X.N.Nodup) (walk : PI X tg iter wi) (blk : BlkOk X.N X.env.scope scope own)
    (rg : ∀ (s : Shared) (H : Hp) (C : Addr) (cl : List (PySem.Str × Addr)) (fp : List Addr), PG (X.blk s H scope (compEnvC scope cl C X.env) fp) tg g) (rt : ∀ (s : Shared) (H : Hp) (C : Addr) (cl : List (PySem.Str × Addr)) (fp : List Addr), PTs (X.blk s H scope (compEnvC scope cl C X.env) fp) ifs tt)
    (re : ∀ (s : Shared) (H : Hp) (C : Addr) (cl : List (PySem.Str × Addr)) (fp : List Addr), PE (X.blk s H scope (compEnvC scope cl C X.env) fp) elt te) (plain : ∀ x, foldedSetIterable iter X.env x = pure x := by intro _; rfl) :
    PE X (.SetComp elt [⟨tg, iter, ifs, 0⟩] scope pos) (tScK X.prog X.w wi g tt te (own.map (·.2))) := by
  refine ⟨fun pins s σ H Q inv hq => ?_⟩
  have open_ : ∀ y ∈ scope.names, y.2 = .free → ∃ c, X.env.cells.lookup y.1 = some c := fun y my fr => (blk.free y my fr).elim (fun k => inv.ok.has _ (.inl k)) fun k => inv.ok.has _ (.inr k)
  rw [eval_SetComp]
  refine wpAny_comprehension_free (use := none) rfl plain (closure_ok open_) blk.kind (fun y my fr => by rw [blk.uniq y my, fr]) (thn (walk.run pins s σ H _ inv hq) fun _ _ there => thn there fun _ z there2 => ?_)
  obtain ⟨it, fp, tn, J, G, rfl, invZ, T, at0, offZ, per⟩ := there2
  refine newSet_ok (newEnv_comp ?_)
  obtain ⟨D, eD⟩ : ∃ D, z.heap.objs.size = D := ⟨_, rfl⟩
  rw [eD]
  have new_ : G D = none := invZ.hok.fresh (Nat.le_of_eq eD)
  obtain ⟨W, ⟨m0, w0⟩, turn⟩ := per D new_
  -- the heap with the new set in it
  obtain ⟨z1, ez1⟩ : ∃ z1 : Shared, z1 = { z with heap := z.heap.push { cls := .type "set", dict := none, data := .set #[] 0 (.fresh 0 0 (!X.w.params.followText "set-order")) } } := ⟨_, rfl⟩
  rw [← ez1]
  have heap1 : z1.heap = z.heap.push { cls := .type "set", dict := none, data := .set #[] 0 (.fresh 0 0 (!X.w.params.followText "set-order")) } := by rw [ez1]
  have keep1 : ∀ b o, z.heap.get? b = some o → z1.heap.get? b = some o := fun b o e => by rw [heap1]; exact Heap.get?_push_of_some _ e
  obtain ⟨G1, eG1⟩ : ∃ G1 : Hp, G1 = upd G D (SetK X.prog X.w D (fun _ => false) 0) := ⟨_, rfl⟩
  rw [← eG1] at w0
  have inv1 : L2.Inv X pins σ G1 z1 := by
    rw [eG1, ez1]
    exact invZ.laid (t' := z.toks) (fun b o e => Heap.get?_push_of_some _ e) (Nat.le_of_eq eD) (by rw [← eD]; exact setK_new (freshK X.w))
  have off1 : ∀ b ∈ fp, FpOk X pins G1 b ∧ b < z1.heap.objs.size := fun b mb => by
    obtain ⟨_, e, _⟩ := T.obj _ _ at0 b mb
    have lt := Heap.lt_size e
    refine ⟨⟨?_, (offZ b mb).2⟩, by rw [heap1, Heap.size_push]; exact Nat.lt_succ_of_lt lt⟩
    rw [eG1, upd_ne (by rw [← eD]; exact Nat.ne_of_lt lt)]
    exact (offZ b mb).1
  have at1 : tn 0 z1.heap := T.keep _ _ _ at0 fun b _ o e => keep1 b o e
  have inv2 := block_start inv1 blk nd off1
  obtain ⟨ce, ece⟩ : ∃ ce, ce = compEnvC scope (cellsFrom (z1.heap.objs.size + 1) scope.names (cloFrom X.env.cells scope.names [])) z1.heap.objs.size X.env := ⟨_, rfl⟩
  have pg := rg z1 G1 z1.heap.objs.size (cellsFrom (z1.heap.objs.size + 1) scope.names (cloFrom X.env.cells scope.names [])) fp
  have pt := rt z1 G1 z1.heap.objs.size (cellsFrom (z1.heap.objs.size + 1) scope.names (cloFrom X.env.cells scope.names [])) fp
  have pe := re z1 G1 z1.heap.objs.size (cellsFrom (z1.heap.objs.size + 1) scope.names (cloFrom X.env.cells scope.names [])) fp
  rw [← ece] at inv2 pg pt pe
  have locs : ce.locals = z1.heap.objs.size := by rw [ece]; rfl
  obtain ⟨z2, ez2⟩ : ∃ z2 : Shared, z2 = { z1 with heap := pushCells (z1.heap.push { cls := .type "dict", data := .dict #[] }) scope.names } := ⟨_, rfl⟩
  show codeAny _ _ (.compStart (.SetComp elt [⟨tg, iter, ifs, 0⟩] scope pos) 0 (.ref it) (.ref D) (compEnvC scope (cellsFrom (z1.heap.objs.size + 1) scope.names (cloFrom X.env.cells scope.names [])) z1.heap.objs.size X.env)) _ { z1 with heap := pushCells (z1.heap.push { cls := .type "dict", data := .dict #[] }) scope.names }
  rw [← ece, ← ez2]
  rw [← ez2] at inv2
  have at2 : tn 0 z2.heap := T.keep _ _ _ at1 fun b _ o e => by rw [ez2]; exact pushCells_keeps _ _ _ _ (Heap.get?_push_of_some _ e)
  -- what stands of the iterator's own objects amid the block
  have mine : ∀ {σ' : L2.St} {G' : Hp} {y : Shared}, L2.Inv (X.blk z1 G1 scope ce fp) [] σ' G' y → (∀ b ∈ fp, G' b = none) → ∀ b ∈ fp, FpOk (X.blk z1 G1 scope ce fp) [] G' b := fun {_ _ _} iv no b mb =>
    ⟨no b mb, (iv.ok.exf b mb).1, iv.ok.exfs b mb, .inl mb, fun x c e => (iv.ok.exf b mb).2 x c e, fun p hp => absurd (show p ∈ ([] : List (Addr × Obj)) ++ [] from hp) (by simp)⟩
  refine codeAny_compStart_set ?loop (T.self X.A 0 _ _ _ at2 ?loop)
  case loop =>
    refine compLoopS_any (fun n y => ∃ i G', L2.Inv (X.blk z1 G1 scope ce fp) [] (wipe σ (own.map (·.2))) G' y ∧ tn i y.heap ∧ (∀ b ∈ fp, G' b = none) ∧ W i n G') ?_ m0 ⟨0, G1, inv2, at2, fun b mb => (off1 b mb).1.1, w0⟩
    rintro n y ⟨i, G', iv, aty, no, wy⟩
    rcases turn i n G' wy with ⟨stop, fin⟩ | ⟨go, Nx, less, step⟩
    · refine thnF (T.done (X.blk z1 G1 scope ce fp) rfl rfl rfl calm i [] y _ G' (fun _ _ => False) iv (mine iv no) aty stop) fun r y2 ⟨er, iv2⟩ => ?_
      subst er
      have back : L2.Inv X pins σ G' y2 := inv1.call' (ch := fp) iv2.os iv2.base iv2.hok iv2.bare fun b mb => let q := (off1 b mb).1; ⟨q.2.2.2.1, q.2.1, q.2.2.2.2.1, q.2.2.2.2.2⟩
      obtain ⟨mp, ns, _⟩ := iv2.loc
      have ns' : y2.heap.Ns z1.heap.objs.size mp := locs ▸ (show y2.heap.Ns ce.locals mp from ns)
      have nf : G' z1.heap.objs.size = none := locs ▸ (show G' ce.locals = none from iv2.free)
      obtain ⟨f0, f1, f2, f3, f4, f5⟩ := inv1.fpOk (Nat.le_refl _) nf
      exact ⟨mp, ns', fun h'' sb => ⟨.ref D, G', back.turned (t' := y2.toks) (fun b o nb e => (sb.2 b nb).trans e) f0 f1 f3 f4 f5, rfl, fin⟩⟩
    · refine thnF (T.item (X.blk z1 G1 scope ce fp) rfl rfl rfl calm i [] y _ G' (fun _ _ => False) iv (mine iv no) aty go) fun r y2 ⟨u, er, more⟩ => ?_
      subst er
      refine thnF more fun _ y3 ⟨x, G3, iv3, rx, yl, at3, no3⟩ => ?_
      refine thnF (pg.run _ y3 _ G3 x u _ (iv3.pinned (mine iv3 no3) (T.obj _ _ at3)) rx (step x G3 yl)) fun _ y4 ⟨σ4, G4, iv4, same, told⟩ => ?_
      refine thnF (pt.run _ y4 σ4 G4 _ iv4 told) fun b y5 ⟨G5, iv5, q5⟩ => ?_
      have nextTurn : ∀ {y' : Shared} {G' : Hp}, L2.Inv (X.blk z1 G1 scope ce fp) ([] ++ pinsAt fp y3.heap) σ4 G' y' → Nx G' → ∃ m, m < n ∧ ∃ i G', L2.Inv (X.blk z1 G1 scope ce fp) [] (wipe σ (own.map (·.2))) G' y' ∧ tn i y'.heap ∧ (∀ b ∈ fp, G' b = none) ∧ W i m G' := fun {y' G'} iv' nx => by
        obtain ⟨m', lt, w'⟩ := less G' nx
        have pinned : ∀ b ∈ fp, ∀ o, y3.heap.get? b = some o → y'.heap.get? b = some o ∧ G' b = none := fun b mb o e => let q := iv'.pin (b, o) (List.mem_append_right _ (List.mem_append_right _ (mem_pinsAt mb e))); ⟨q.1, q.2.1⟩
        refine ⟨m', lt, i + 1, G', (iv'.unpinned (pins := [])).weak (by rw [← wipe_length (σ := σ4) (vs := own.map (·.2)), same, wipe_length]) (fun j v e => ?_), T.keep _ _ _ at3 fun b mb o e => (pinned b mb o e).1, fun b mb => ?_, w'⟩
        · rw [← same] at e; exact (wipe_some e).1
        · obtain ⟨o, e, _⟩ := T.obj _ _ at3 b mb; exact (pinned b mb o e).2
      cases b with
      | false => exact nextTurn iv5 q5
      | true =>
        refine thnF (pe.run _ y5 σ4 G5 _ iv5 q5) fun v y6 ⟨yv, G6, iv6, rv, c, S, k, ey, isD, room, nx⟩ => ?_
        subst ey
        exact putK_ok (X := X.blk z1 G1 scope ce fp) iv6 isD rv room fun y7 iv7 => nextTurn iv7 nx
/-- over a tuple that the block leaves as it is -/
theorem scK_tup {P : Program} {w : World} {K : PySem.W.Frag} {a : Addr} {xs : List V} {g : TG} {tt : TT} {te : TE} {vs : List Nat} {σ : L2.St} {H1 : Hp} {D : Addr} {Qd : Hp → Prop} (Pv : Nat → Hp → Prop) (start : Pv 0 (upd H1 D (SetK P w D (fun _ => false) 0))) (there : ∀ i H, i ≤ xs.length → Pv i H → SqT K H a xs)
    (one : ∀ i x H, xs[i]? = some x → Pv i H → g x (wipe σ vs) H fun σ2 H2 => wipe σ2 vs = wipe σ vs ∧ tt σ2 H2 fun b H3 =>
      if b = true then te σ2 H3 fun y H4 => ∃ (c : Key) (S : Key → Bool) (n : Nat), y = kV c ∧ H4 D = some (SetK P w D S n) ∧ n + 1 < scanBound ∧ Pv (i + 1) (upd H4 D (SetK P w D (fun j => S j || decide (j = c)) (if S c = true then n else n + 1))) else Pv (i + 1) H3) (fin : ∀ H, Pv xs.length H → Qd H) :
    ∃ W : Nat → Nat → Hp → Prop, (∃ m, W 0 m (upd H1 D (SetK P w D (fun _ => false) 0))) ∧ ∀ i m H, W i m H →
      ((Itt K a).stop i H ∧ Qd H) ∨ ((Itt K a).go i H ∧ ∃ Nx : Hp → Prop, (∀ H', Nx H' → ∃ m', m' < m ∧ W (i + 1) m' H') ∧ ∀ x H', (Itt K a).yld i H x H' → g x (wipe σ vs) H' fun σ2 H2 => wipe σ2 vs = wipe σ vs ∧ tt σ2 H2 fun b H3 =>
        if b = true then te σ2 H3 fun y H4 => ∃ (c : Key) (S : Key → Bool) (n : Nat), y = kV c ∧ H4 D = some (SetK P w D S n) ∧ n + 1 < scanBound ∧ Nx (upd H4 D (SetK P w D (fun j => S j || decide (j = c)) (if S c = true then n else n + 1))) else Nx H3) := by
  refine ⟨fun i m H => m = xs.length - i ∧ i ≤ xs.length ∧ Pv i H, ⟨_, rfl, Nat.zero_le _, start⟩, ?_⟩
  rintro i _ H ⟨rfl, le, p⟩
  have sq := there i H le p
  rcases Nat.lt_or_ge i xs.length with lt | ge
  · exact .inr ⟨⟨xs, xs[i], sq, by simp [lt]⟩, Pv (i + 1), fun H' p' => ⟨_, by omega, rfl, lt, p'⟩, fun x H' ⟨e, y⟩ => by subst e; exact one i x _ (y xs sq) p⟩
  · exact .inl ⟨⟨xs, sq, ge⟩, fin H (Nat.le_antisymm le ge ▸ p)⟩
/-- len of a set of keys -/
def rLenK (P : Program) (w : World) : List V → Hp → VK → Prop := fun xs H Q => ∃ (a : Addr) (S : Key → Bool) (n : Nat), xs = [.ref a] ∧ H a = some (SetK P w a S n) ∧ n ≤ 1000 ∧ Q (.int (n : Nat)) H
theorem call_lenK : CallR X (.builtin "len") (rLenK X.prog X.w) := by
  intro pins s σ H xs us Q I r h
  obtain ⟨a, S, n, rfl, ha, hn, q⟩ := h
  obtain ⟨u, rfl, rx⟩ := vals1 r
  cases rx
  obtain ⟨o, es, ep, t, ho, hex, hd, _, _, hb, hf, e⟩ := setK_get I ha
  exact call_len_set ho hex hd hf (by rw [e]; omega) ⟨.int (n : Nat), H, I.tok _, ⟨_, by rw [e]⟩, q⟩
end
end Bf

namespace Bf
open PySem PySem.Spec PyProof.Rows L2
/-! ### things by their types; an own exception is one -/
/-- an own exception's class is none of the built-in types that are asked for -/
structure ExK (K : PySem.W.Frag) (C : Addr) : Prop where
  c : ExcC K C
  k : ∀ t ∈ (["int", "bool", "str", "tuple", "list"] : List String), PySem.W.kitOne K (.ref C) (.type t) = some false
inductive Kn (K : PySem.W.Frag) (H : Hp) : V → String → Prop
  | non : Kn K H .non "NoneType"
  | bl (b : Bool) : Kn K H (.bl b) "bool"
  | int (i : Int) : Kn K H (.int i) "int"
  | str (z : Str) : Kn K H (.str z) "str"
  | lst {a : Addr} (h : TyX K H (.ref a) (.type "list")) : Kn K H (.ref a) "list"
  | tup {a : Addr} (h : TyX K H (.ref a) (.type "tuple")) : Kn K H (.ref a) "tuple"
  | dic {a : Addr} (h : TyX K H (.ref a) (.type "dict")) : Kn K H (.ref a) "dict"
  | exc {a C : Addr} (h : ExG H a C) (k : ExK K C) : Kn K H (.ref a) "exc"
def isN (n t : String) : Bool := n == t || (n == "bool" && t == "int")
/-- isinstance of data, or of an exception -/
def rIsB (K : PySem.W.Frag) : List V → Hp → VK → Prop := fun xs H Q => rIsi K xs H Q ∨ rIsG K xs H Q
theorem call_isB {X : Cx} : CallR X (.builtin "isinstance") (rIsB X.K) := fun pins s σ H xs us Q I rv h => h.elim (fun z => call_isi pins s σ H xs us Q I rv z) fun z => call_isG pins s σ H xs us Q I rv z
theorem isBK {X : Cx} {K : PySem.W.Frag} (h : X.K = K) : CallR X (.builtin "isinstance") (rIsB K) := by subst h; exact call_isB
theorem ixT {X : Cx} {K : PySem.W.Frag} (h : X.K = K) : IxR X (rIxT K) := by subst h; exact ix_tup
theorem ixL {X : Cx} {K : PySem.W.Frag} (h : X.K = K) : IxR X (rIxL K) := by subst h; exact ix_list
theorem lenK {X : Cx} {K : PySem.W.Frag} (h : X.K = K) : CallR X (.builtin "len") (fun xs H Q => ∃ p ys, xs = [.ref p] ∧ (SqL K H p ys ∨ SqT K H p ys) ∧ Q (.int ys.length) H) := by subst h; exact call_len_seq
theorem kit_all : ∀ n ∈ (["NoneType", "bool", "int", "str", "list", "tuple", "dict"] : List String), ∀ t ∈ (["int", "bool", "str", "tuple", "list"] : List String), kitB n t = some (isN n t) := by decide +kernel
theorem exc_all : ∀ t ∈ (["int", "bool", "str", "tuple", "list"] : List String), isN "exc" t = false := by decide +kernel
theorem kn_is {K : PySem.W.Frag} {H : Hp} {x : V} {n t : String} {Q : VK} (kn : Kn K H x n) (ht : t ∈ (["int", "bool", "str", "tuple", "list"] : List String)) (q : Q (.bl (isN n t)) H) : rIsB K [x, .ty t] H Q := by
  cases kn with
  | non => exact .inl ⟨_, _, _, _, _, rfl, .ty t, .base .non, kit_ty (kit_all _ (by simp) t ht), q⟩
  | bl b => exact .inl ⟨_, _, _, _, _, rfl, .ty t, .base (.bl b), kit_ty (kit_all _ (by simp) t ht), q⟩
  | int i => exact .inl ⟨_, _, _, _, _, rfl, .ty t, .base (.int i), kit_ty (kit_all _ (by simp) t ht), q⟩
  | str z => exact .inl ⟨_, _, _, _, _, rfl, .ty t, .base (.str z), kit_ty (kit_all _ (by simp) t ht), q⟩
  | lst h => exact .inl ⟨_, _, _, _, _, rfl, .ty t, h, kit_ty (kit_all _ (by simp) t ht), q⟩
  | tup h => exact .inl ⟨_, _, _, _, _, rfl, .ty t, h, kit_ty (kit_all _ (by simp) t ht), q⟩
  | dic h => exact .inl ⟨_, _, _, _, _, rfl, .ty t, h, kit_ty (kit_all _ (by simp) t ht), q⟩
  | exc h k => exact .inr ⟨_, _, _, _, _, rfl, .ty t, h, k.c, k.k t ht, by rw [exc_all t ht] at q; exact q⟩
def wholeB (x : V) (lo hi : Int) : Bool := match x with
  | .int i => decide (lo ≤ i) && decide (i ≤ hi)
  | _ => false
theorem wholeB_int {x : V} {lo hi : Int} (h : wholeB x lo hi = true) : ∃ i, x = .int i ∧ lo ≤ i ∧ i ≤ hi := by
  cases x with
  | int i =>
    have z : (decide (lo ≤ i) && decide (i ≤ hi)) = true := h
    obtain ⟨a, b⟩ := Bool.and_eq_true_iff.mp z
    exact ⟨i, rfl, of_decide_eq_true a, of_decide_eq_true b⟩
  | _ => cases h
theorem wholeB_of {i lo hi : Int} (a : lo ≤ i) (b : i ≤ hi) : wholeB (.int i) lo hi = true := by
  show (decide (lo ≤ i) && decide (i ≤ hi)) = true
  rw [decide_eq_true a, decide_eq_true b]; rfl

/-- a def of the text as its callers need it -/
structure Df (K : PySem.W.Frag) (mg : Str → Option Value) (x : Str) (f : Addr) (fd : FuncData) (ps : List Str) : Prop where
  at_ : mg x = some (.ref f)
  kp : PySem.W.keepIn K (.ref f) = true
  bd : Binds K fd ps []
abbrev CXL (P : Program) (w : World) : CXT := L2.CX P w

theorem same_trans_new {H H1 : Hp} {p : Addr} {o : HO} (s : Same H H1) (h : H1 p = none) : Same H (upd H1 p o) := fun b u e => by
  rw [upd_ne (ne_of_none (s _ _ e) h)]
  exact s _ _ e
theorem Same.sqT {K : PySem.W.Frag} {H H' : Hp} {a : Addr} {xs : List V} (e : Same H H') (h : SqT K H a xs) : SqT K H' a xs := by
  rcases h with (h | ⟨o, h⟩) | h
  · exact .inl (.inl (e _ _ h))
  · exact .inl (.inr ⟨o, e _ _ h⟩)
  · exact .inr h
/-- a list (k = true) or a tuple -/
def SqB (K : PySem.W.Frag) (k : Bool) (H : Hp) (a : Addr) (xs : List V) : Prop := if k = true then SqL K H a xs else SqT K H a xs
theorem SqB.same {K : PySem.W.Frag} {k : Bool} {H H' : Hp} {a : Addr} {xs : List V} (e : Same H H') (h : SqB K k H a xs) : SqB K k H' a xs := by
  cases k with
  | true => exact Same.seq e h
  | false => exact Same.sqT e h

theorem SqB.or {K : PySem.W.Frag} {k : Bool} {H : Hp} {a : Addr} {xs : List V} (h : SqB K k H a xs) : SqL K H a xs ∨ SqT K H a xs := by
  cases k with
  | true => exact .inl h
  | false => exact .inr h
theorem iteB {b : Bool} {A B : Prop} (e : b = true) (h : A) : if b = true then A else B := by
  rw [if_pos e]
  exact h
theorem iteN {b : Bool} {A B : Prop} (e : b = false) (h : B) : if b = true then A else B := by
  rw [if_neg (by rw [e]; exact Bool.false_ne_true)]
  exact h
theorem ix_at {K : PySem.W.Frag} {k : Bool} {H : Hp} {a : Addr} {xs : List V} {i : Nat} {v : V} {Q : VK} (s : SqB K k H a xs) (e : xs[i]? = some v) (q : Q v H) : rIx K (.ref a) (.int (i : Nat)) H Q := by
  cases k with
  | true => exact .inl ⟨a, xs, _, v, rfl, rfl, s, atI_nat e, q⟩
  | false => exact .inr (.inl ⟨a, xs, _, v, rfl, rfl, s, atI_nat e, q⟩)

/-! ### things as data -/
mutual
/-- x stands for the data d; its texts and lists are short -/
inductive Da (H : Hp) : V → PyData → Prop
  | non : Da H .non .none
  | bl (c : Bool) : Da H (.bl c) (.bool c)
  | int (i : Int) : Da H (.int i) (.int i)
  | str (z : Str) (h : z.length ≤ 1000) : Da H (.str z) (.str z)
  | lst {a : Addr} {xs : List V} {ds : List PyData} (h : H a = some (.lst xs)) (l : xs.length ≤ 1000) (r : DaAll H xs ds) : Da H (.ref a) (.list ds)
  | tup {a : Addr} {xs : List V} {ds : List PyData} (h : H a = some (.tup xs)) (l : xs.length ≤ 1000) (r : DaAll H xs ds) : Da H (.ref a) (.tuple ds)
  | emp {a : Addr} (h : H a = some (.dK [])) : Da H (.ref a) (.dict [])
inductive DaAll (H : Hp) : List V → List PyData → Prop
  | nil : DaAll H [] []
  | cons {v : V} {vs : List V} {d : PyData} {ds : List PyData} (h : Da H v d) (r : DaAll H vs ds) : DaAll H (v :: vs) (d :: ds)
end
mutual
theorem Da.same {H H' : Hp} (s : Same H H') : ∀ (d : PyData) (v : V), Da H v d → Da H' v d
  | .none, _, h => by cases h; exact .non
  | .bool _, _, h => by cases h; exact .bl _
  | .int _, _, h => by cases h; exact .int _
  | .str _, _, h => by
    cases h with
    | str _ h => exact .str _ h
  | .list ds, _, h => by
    cases h with
    | lst h l r => exact .lst (s _ _ h) l (DaAll.same s ds _ r)
  | .tuple ds, _, h => by
    cases h with
    | tup h l r => exact .tup (s _ _ h) l (DaAll.same s ds _ r)
  | .dict _, _, h => by
    cases h with
    | emp h => exact .emp (s _ _ h)
theorem DaAll.same {H H' : Hp} (s : Same H H') : ∀ (ds : List PyData) (vs : List V), DaAll H vs ds → DaAll H' vs ds
  | [], _, h => by cases h; exact .nil
  | d :: ds, _, h => by
    cases h with
    | cons h r => exact .cons (Da.same s d _ h) (DaAll.same s ds _ r)
end
theorem DaAll.len {H : Hp} : ∀ {vs : List V} {ds : List PyData}, DaAll H vs ds → vs.length = ds.length
  | _, _, .nil => rfl
  | _, _, .cons _ r => congrArg (· + 1) (DaAll.len r)
theorem DaAll.get {H : Hp} : ∀ {vs : List V} {ds : List PyData}, DaAll H vs ds → ∀ {i : Nat} {v : V}, vs[i]? = some v → ∃ d, ds[i]? = some d ∧ Da H v d
  | _, _, .cons h r, 0, _, e => by cases e; exact ⟨_, rfl, h⟩
  | _, _, .cons h r, i + 1, _, e => DaAll.get r (i := i) e
theorem DaAll.getD {H : Hp} : ∀ {vs : List V} {ds : List PyData}, DaAll H vs ds → ∀ {i : Nat} {d : PyData}, ds[i]? = some d → ∃ v, vs[i]? = some v ∧ Da H v d
  | _, _, .cons h r, 0, _, e => by cases e; exact ⟨_, rfl, h⟩
  | _, _, .cons h r, i + 1, _, e => DaAll.getD r (i := i) e
theorem DaAll.append {H : Hp} : ∀ {vs : List V} {ds : List PyData} {ws : List V} {es : List PyData}, DaAll H vs ds → DaAll H ws es → DaAll H (vs ++ ws) (ds ++ es)
  | _, _, _, _, .nil, r => r
  | _, _, _, _, .cons h t, r => .cons h (DaAll.append t r)
theorem DaAll.drop {H : Hp} : ∀ {vs : List V} {ds : List PyData} (n : Nat), DaAll H vs ds → DaAll H (vs.drop n) (ds.drop n)
  | _, _, 0, r => r
  | _, _, _ + 1, .nil => .nil
  | _, _, n + 1, .cons _ r => DaAll.drop n r
theorem DaAll.snoc {H : Hp} {v : V} {d : PyData} {vs : List V} {ds : List PyData} (r : DaAll H vs ds) (h : Da H v d) : DaAll H (vs ++ [v]) (ds ++ [d]) := r.append (.cons h .nil)
theorem DaAll.rev {H : Hp} : ∀ {vs : List V} {ds : List PyData}, DaAll H vs ds → DaAll H vs.reverse ds.reverse
  | _, _, .nil => .nil
  | _, _, .cons h r => by
    rw [List.reverse_cons, List.reverse_cons]
    exact (DaAll.rev r).snoc h
def tyD : PyData → String
  | .none => "NoneType"
  | .bool _ => "bool"
  | .int _ => "int"
  | .str _ => "str"
  | .list _ => "list"
  | .tuple _ => "tuple"
  | .dict _ => "dict"
theorem Da.kn {K : PySem.W.Frag} {H : Hp} {x : V} {d : PyData} (h : Da H x d) : Kn K H x (tyD d) := by
  cases h with
  | non => exact .non
  | bl c => exact .bl c
  | int i => exact .int i
  | str z _ => exact .str z
  | lst h _ _ => exact .lst (.base (.lst h))
  | tup h _ _ => exact .tup (.base (.tup h))
  | emp h => exact .dic (.base (.dK h))
theorem DaAll.kn {K : PySem.W.Frag} {H : Hp} : ∀ {vs : List V} {ds : List PyData}, DaAll H vs ds → ∀ y ∈ vs, ∃ m, Kn K H y m
  | _, _, .nil, _, m => nomatch m
  | _, _, .cons h r, y, m => (List.mem_cons.mp m).elim (fun e => ⟨_, e ▸ h.kn⟩) (DaAll.kn r y)
/-- a thing: data, or an own exception -/
inductive Th (K : PySem.W.Frag) (H : Hp) : V → Option PyData → Prop
  | dat {x : V} {d : PyData} (da : Da H x d) : Th K H x (some d)
  | exc {a C : Addr} (h : ExG H a C) (k : ExK K C) : Th K H (.ref a) none
def tyO : Option PyData → String
  | some d => tyD d
  | none => "exc"
theorem Th.kn {K : PySem.W.Frag} {H : Hp} {x : V} {o : Option PyData} (h : Th K H x o) : Kn K H x (tyO o) := by
  cases h with
  | dat da => exact da.kn
  | exc h k => exact .exc h k
theorem Th.same {K : PySem.W.Frag} {H H' : Hp} {x : V} {o : Option PyData} (s : Same H H') (h : Th K H x o) : Th K H' x o := by
  cases h with
  | dat da => exact .dat (Da.same s _ _ da)
  | exc h k => exact .exc (h.same s) k
/-- is a whole number within, of data -/
def wholeD (d : PyData) (lo hi : Int) : Bool := match d with
  | .int i => decide (lo ≤ i) && decide (i ≤ hi)
  | _ => false
theorem Da.whole {H : Hp} {x : V} {d : PyData} (h : Da H x d) (lo hi : Int) : wholeB x lo hi = wholeD d lo hi := by
  cases h <;> rfl
/-- comprehensions over a text -/
theorem lc_its {x : Str} {g : TG} {tt : TT} {te : TE} {vs : List Nat} {σ : L2.St} {H1 : Hp} {D : Addr} {Qd : Hp → Prop} (Pv : Nat → Hp → Prop) (h0 : Pv 0 (upd H1 D (.lst [])))
    (hs : ∀ i c H, x.cps[i]? = some c → Pv i H → g (.str ⟨#[c]⟩) (wipe σ vs) H fun σ2 H2 => wipe σ2 vs = wipe σ vs ∧ tt σ2 H2 fun b H3 =>
      if b = true then te σ2 H3 fun y H4 => ∃ acc, H4 D = some (.lst acc) ∧ acc.length < sizeLine ∧ Pv (i + 1) (upd H4 D (.lst (acc ++ [y]))) else Pv (i + 1) H3) (hd : ∀ H, Pv x.cps.size H → Qd H) :
    ∃ W : Nat → Nat → Hp → Prop, (∃ m, W 0 m (upd H1 D (.lst []))) ∧ ∀ i m H, W i m H →
      ((Its x).stop i H ∧ Qd H) ∨ ((Its x).go i H ∧ ∃ Nx : Hp → Prop, (∀ H', Nx H' → ∃ m', m' < m ∧ W (i + 1) m' H') ∧ ∀ v H', (Its x).yld i H v H' → g v (wipe σ vs) H' fun σ2 H2 => wipe σ2 vs = wipe σ vs ∧ tt σ2 H2 fun b H3 =>
        if b = true then te σ2 H3 fun y H4 => ∃ acc, H4 D = some (.lst acc) ∧ acc.length < sizeLine ∧ Nx (upd H4 D (.lst (acc ++ [y]))) else Nx H3) := by
  refine ⟨fun i m H => m = x.cps.size - i ∧ i ≤ x.cps.size ∧ Pv i H, ⟨x.cps.size, by simp, Nat.zero_le _, h0⟩, ?_⟩
  rintro i m H ⟨rfl, hi, p⟩
  by_cases hlt : i < x.cps.size
  · refine .inr ⟨hlt, Pv (i + 1), fun H' p' => ⟨x.cps.size - (i + 1), by omega, rfl, hlt, p'⟩, fun v H' y => ?_⟩
    obtain ⟨rfl, c, hc, rfl⟩ := y
    exact hs i c _ hc p
  · have e : i = x.cps.size := by omega
    subst e
    exact .inl ⟨Nat.le_refl _, hd H p⟩
namespace A1
def top (i : Nat) : Stmt := PySem.Challenge.pw_beatflows_k01_kinds_of_anything.main.body.getD i (.Pass ⟨0, 0, 0, 0⟩)
abbrev sNumber : Stmt := top 41
abbrev sWhole : Stmt := top 40
abbrev sName : Stmt := top 42
abbrev sWidth : Stmt := top 43
abbrev sTruth : Stmt := top 44
abbrev sKind : Stmt := top 45
abbrev sIsWorth : Stmt := top 46
abbrev sIsClock : Stmt := top 47
abbrev sGreat : Stmt := top 48
abbrev sWorthOf : Stmt := top 49
abbrev sAre : Stmt := top 50
abbrev sCond : Stmt := top 51
abbrev sCell : Stmt := top 53
abbrev sPurse : Stmt := top 54
abbrev sTake : Stmt := top 55
abbrev sOf : Stmt := top 56
abbrev sNum : Stmt := top 57
abbrev sNName : Stmt := top 58
abbrev sNClock : Stmt := top 59
abbrev sNKind : Stmt := top 60
abbrev sNWorth : Stmt := top 61
abbrev sLNum : Stmt := top 62
abbrev sLIsName : Stmt := top 63
abbrev sLIsKind : Stmt := top 64
abbrev sLIsClock : Stmt := top 65
abbrev sLIsWorth : Stmt := top 66
abbrev sCaught : Stmt := top 67
abbrev sWRight : Stmt := top 68
abbrev sFamily : Stmt := top 69
abbrev sKinds : Stmt := top 70
abbrev sMade : Stmt := top 71
abbrev sRefs : Stmt := top 72
abbrev sLaw : Stmt := top 73
end A1
end Bf

namespace Bf
open PySem PySem.Spec PyProof.Rows L2
def numB (x : V) : Bool := match x with
  | .int _ => true
  | _ => false
def topW (z : Int) : Int := 2 ^ z.toNat - 1
theorem same_new {H : Hp} {p : Addr} {o : HO} (h : H p = none) : Same H (upd H p o) := fun b u e => by
  rw [upd_ne (ne_of_none e h)]
  exact e
theorem kn_same {K : PySem.W.Frag} {H H' : Hp} {x : V} {n : String} (e : Same H H') (h : Kn K H x n) : Kn K H' x n := by
  have T : ∀ {a : Addr} {t : Value}, TyX K H (.ref a) t → TyX K H' (.ref a) t := fun {a t} h => by
    cases h with
    | base h =>
      cases h with
      | lst q => exact .base (.lst (e _ _ q))
      | frz q => exact .base (.frz (e _ _ q))
      | tup q => exact .base (.tup (e _ _ q))
      | dK q => exact .base (.dK (e _ _ q))
      | dT q => exact .base (.dT (e _ _ q))
      | ins q cl ha hn ht hm => exact .base (.ins (e _ _ q) cl ha hn ht hm)
    | set q => exact .set (e _ _ q)
    | kList q c => exact .kList q c
    | kTuple q c => exact .kTuple q c
    | kDict q c => exact .kDict q c
    | fTuple q => exact .fTuple (e _ _ q)
    | fDict q => exact .fDict (e _ _ q)
  cases h with
  | non => exact .non
  | bl b => exact .bl b
  | int i => exact .int i
  | str z => exact .str z
  | lst h => exact .lst (T h)
  | tup h => exact .tup (T h)
  | dic h => exact .dic (T h)
  | exc h k => exact .exc (h.same e) k
theorem num_is {K : PySem.W.Frag} {H : Hp} {x : V} {n : String} (kn : Kn K H x n) : numB x = (isN n "int" && !isN n "bool") := by
  cases kn <;> rfl
namespace A1
section
variable {P : Program} {w : World} {K : PySem.W.Frag} {mg : Str → Option Value} {base : Heap}
def spNum (K : PySem.W.Frag) : Sp := fun vs H Q _ => ∃ (x : V) (n : String), vs = [x] ∧ Kn K H x n ∧ Q (.bl (numB x)) H
theorem scNum : FnScope ["thing"] ["thing"] (defScope sNumber) := ⟨rfl, rfl, rfl, by decide +kernel, rfl, by decide +kernel, by decide +kernel⟩
theorem ok_num {f : Addr} {fd : FuncData} (F : Fun K "is_number" "is_number" sNumber f fd) (mi : mg "isinstance" = none) (mt : mg "int" = none) (mb : mg "bool" = none) :
    FnOk P w K mg base CX0 1 f fd ["thing"] (spNum K) := by
  refine F.ok scNum (fun vs H Q E h => ?_) (fun cdv A outer s H vs Q E hr h => ?_)
  · obtain ⟨x, n, rfl, _⟩ := h
    rfl
  · obtain ⟨x, n, rfl, kn, q⟩ := h
    refine ⟨_, pss_one (ps_ret (pe_and (pe_callB call_isB (by rfl) mi (by decide +kernel) (pa_cons (pv 0) (pa_cons (pe_bltn (v := .ty "int") (by rfl) mt (by decide +kernel) rfl) pa_nil)))
      (pe_one (pe_not (pe_callB call_isB (by rfl) mi (by decide +kernel) (pa_cons (pv 0) (pa_cons (pe_bltn (v := .ty "bool") (by rfl) mb (by decide +kernel) rfl) pa_nil))))))), ?_⟩
    rw [num_is kn] at q
    refine ⟨_, rfl, kn_is kn (by decide) ⟨_, rfl, ite2 (fun h1 => ?_) (fun h1 => ?_)⟩⟩
    · rw [h1, Bool.true_and] at q
      exact ⟨_, rfl, kn_is kn (by decide) ⟨_, rfl, q⟩⟩
    · rw [Bool.eq_false_iff.mpr h1, Bool.false_and] at q
      exact q
def spWhole (K : PySem.W.Frag) : Sp := fun vs H Q _ => ∃ (x : V) (n : String) (lo hi : Int), vs = [x, .int lo, .int hi] ∧ Kn K H x n ∧ Q (.bl (wholeB x lo hi)) H
theorem scWhole : FnScope ["thing", "low", "high"] ["thing", "low", "high"] (defScope sWhole) := ⟨rfl, rfl, rfl, by decide +kernel, rfl, by decide +kernel, by decide +kernel⟩
theorem ok_whole {f fn : Addr} {fd fdn : FuncData} (F : Fun K "is_whole" "is_whole" sWhole f fd) (Dn : Df K mg "is_number" fn fdn ["thing"]) (Gn : FnOk P w K mg base CX0 1 fn fdn ["thing"] (spNum K)) :
    FnOk P w K mg base CX0 2 f fd ["thing", "low", "high"] (spWhole K) := by
  refine F.ok scWhole (fun vs H Q E h => ?_) (fun cdv A outer s H vs Q E hr h => ?_)
  · obtain ⟨x, n, lo, hi, rfl, _⟩ := h
    rfl
  · obtain ⟨x, n, lo, hi, rfl, kn, q⟩ := h
    refine ⟨_, pss_one (ps_ret (pe_and (pe_call Gn hr (by rfl) Dn.at_ Dn.kp Dn.bd .nil pass0 (pa_cons (pv 0) pa_nil))
        (pe_one (pe_chain op_le op_le (pv 1) (pv 0) (pv 2))))), ?_⟩
    refine ⟨_, rfl, x, n, rfl, kn, _, rfl, ?_⟩
    cases x with
    | int i =>
      refine iteT ⟨_, rfl, _, rfl, _, _, rfl, rfl, _, rfl, ite2 (fun h1 => ?_) (fun h1 => ?_)⟩
      · refine ⟨_, rfl, _, _, rfl, rfl, ?_⟩
        have e : wholeB (.int i) lo hi = decide (i ≤ hi) := by
          show (decide (lo ≤ i) && decide (i ≤ hi)) = _
          rw [h1]; rfl
        rw [e] at q; exact q
      · have e : wholeB (.int i) lo hi = false := by
          show (decide (lo ≤ i) && decide (i ≤ hi)) = _
          rw [Bool.eq_false_iff.mpr h1]; rfl
        rw [e] at q; exact q
    | _ => exact iteF q
/-- a def of one thing that asks is_whole between two written bounds -/
def spOne (K : PySem.W.Frag) (lo hi : Int) : Sp := fun vs H Q _ => ∃ (x : V) (n : String), vs = [x] ∧ Kn K H x n ∧ Q (.bl (wholeB x lo hi)) H
theorem scWidth : FnScope ["thing"] ["thing"] (defScope sWidth) := ⟨rfl, rfl, rfl, by decide +kernel, rfl, by decide +kernel, by decide +kernel⟩
theorem ok_width {f fw : Addr} {fd fdw : FuncData} (F : Fun K "is_width" "is_width" sWidth f fd) (D : Df K mg "is_whole" fw fdw ["thing", "low", "high"])
    (G : FnOk P w K mg base CX0 2 fw fdw ["thing", "low", "high"] (spWhole K)) : FnOk P w K mg base CX0 3 f fd ["thing"] (spOne K 1 8) := by
  refine F.ok scWidth (fun vs H Q E h => ?_) (fun cdv A outer s H vs Q E hr h => ?_)
  · obtain ⟨x, n, rfl, _⟩ := h
    rfl
  · obtain ⟨x, n, rfl, kn, q⟩ := h
    exact ⟨_, pss_one (ps_ret (pe_call G hr (by rfl) D.at_ D.kp D.bd .nil pass0 (pa_cons (pv 0) (pa_cons pe_int (pa_cons pe_int pa_nil))))), _, rfl, _, n, 1, 8, rfl, kn, q⟩
theorem scTruth : FnScope ["thing"] ["thing"] (defScope sTruth) := ⟨rfl, rfl, rfl, by decide +kernel, rfl, by decide +kernel, by decide +kernel⟩
theorem ok_truth {f fw : Addr} {fd fdw : FuncData} (F : Fun K "is_truth" "is_truth" sTruth f fd) (D : Df K mg "is_whole" fw fdw ["thing", "low", "high"])
    (G : FnOk P w K mg base CX0 2 fw fdw ["thing", "low", "high"] (spWhole K)) : FnOk P w K mg base CX0 3 f fd ["thing"] (spOne K 0 1) := by
  refine F.ok scTruth (fun vs H Q E h => ?_) (fun cdv A outer s H vs Q E hr h => ?_)
  · obtain ⟨x, n, rfl, _⟩ := h
    rfl
  · obtain ⟨x, n, rfl, kn, q⟩ := h
    exact ⟨_, pss_one (ps_ret (pe_call G hr (by rfl) D.at_ D.kp D.bd .nil pass0 (pa_cons (pv 0) (pa_cons pe_int (pa_cons pe_int pa_nil))))), _, rfl, _, n, 0, 1, rfl, kn, q⟩
def spGreat : Sp := fun vs H Q _ => ∃ z : Int, vs = [.int z] ∧ 0 ≤ z ∧ z ≤ 1000 ∧ Q (.int (topW z)) H
theorem scGreat : FnScope ["width"] ["width"] (defScope sGreat) := ⟨rfl, rfl, rfl, by decide +kernel, rfl, by decide +kernel, by decide +kernel⟩
theorem ok_great {f : Addr} {fd : FuncData} (F : Fun K "_greatest" "_greatest" sGreat f fd) : FnOk P w K mg base CX0 1 f fd ["width"] spGreat := by
  refine F.ok scGreat (fun vs H Q E h => ?_) (fun cdv A outer s H vs Q E hr h => ?_)
  · obtain ⟨x, rfl, _⟩ := h
    rfl
  · obtain ⟨z, rfl, h0, h1, q⟩ := h
    refine ⟨_, pss_one (ps_ret (pe_op op_sub (pe_op op_shl pe_int (pv 0)) pe_int)), ?_⟩
    refine ⟨_, rfl, _, _, rfl, rfl, ⟨h0, Int.le_trans h1 (by decide), by decide⟩, _, _, rfl, rfl, ?_⟩
    rw [Int.one_mul]
    exact q
def spWorthOf (K : PySem.W.Frag) : Sp := fun vs H Q _ => ∃ (x : V) (n : String) (z : Int), vs = [x, .int z] ∧ Kn K H x n ∧ 0 ≤ z ∧ z ≤ 1000 ∧ Q (.bl (wholeB x 0 (topW z))) H
theorem scWorthOf : FnScope ["thing", "width"] ["thing", "width"] (defScope sWorthOf) := ⟨rfl, rfl, rfl, by decide +kernel, rfl, by decide +kernel, by decide +kernel⟩
theorem ok_worthOf {f fw fg : Addr} {fd fdw fdg : FuncData} (F : Fun K "_is_worth_of_width" "_is_worth_of_width" sWorthOf f fd) (D : Df K mg "is_whole" fw fdw ["thing", "low", "high"])
    (G : FnOk P w K mg base CX0 2 fw fdw ["thing", "low", "high"] (spWhole K)) (Dg : Df K mg "_greatest" fg fdg ["width"]) (Gg : FnOk P w K mg base CX0 1 fg fdg ["width"] spGreat) :
    FnOk P w K mg base CX0 3 f fd ["thing", "width"] (spWorthOf K) := by
  refine F.ok scWorthOf (fun vs H Q E h => ?_) (fun cdv A outer s H vs Q E hr h => ?_)
  · obtain ⟨x, n, z, rfl, _⟩ := h
    rfl
  · obtain ⟨x, n, z, rfl, kn, h0, h1, q⟩ := h
    have hr1 := hr.mono (by decide : 1 ≤ 2)
    exact ⟨_, pss_one (ps_ret (pe_call G hr (by rfl) D.at_ D.kp D.bd .nil pass0 (pa_cons (pv 0) (pa_cons pe_int (pa_cons (pe_call Gg hr1 (by rfl) Dg.at_ Dg.kp Dg.bd .nil pass0 (pa_cons (pv 1) pa_nil)) pa_nil))))),
      _, rfl, _, rfl, z, rfl, h0, h1, _, n, 0, topW z, rfl, kn, q⟩
end
end A1
end Bf

namespace Bf
open PySem PySem.Spec PyProof.Rows L2
def signB (c : Nat) : Bool := !decide (([c] : List Nat) < ("a" : Str).cps.toList) && !decide (("z" : Str).cps.toList < ([c] : List Nat))
def nameS (z : Str) : Bool := (decide (1 ≤ z.length) && decide (z.length ≤ 8)) && z.cps.toList.all signB
def nameD : PyData → Bool
  | .str z => nameS z
  | _ => false
namespace A1
section
variable {P : Program} {w : World} {K : PySem.W.Frag} {mg : Str → Option Value} {base : Heap}
/-! ### is_name -/
def nameO : Option PyData → Bool
  | some d => nameD d
  | none => false
def spName (K : PySem.W.Frag) : Sp := fun vs H Q _ => ∃ (x : V) (o : Option PyData), vs = [x] ∧ Th K H x o ∧ ∀ H', Same H H' → Q (.bl (nameO o)) H'
theorem scName : FnScope ["thing", "sign"] ["thing"] (defScope sName) := ⟨rfl, rfl, rfl, by decide +kernel, rfl, by decide +kernel, by decide +kernel⟩
theorem ok_name {f : Addr} {fd : FuncData} (F : Fun K "is_name" "is_name" sName f fd) (mi : mg "isinstance" = none) (ms : mg "str" = none) (ml : mg "len" = none) (ma : mg "all" = none) : FnOk P w K mg base CX0 1 f fd ["thing"] (spName K) := by
  refine F.ok scName (fun vs H Q E h => ?_) (fun cdv A outer s H vs Q E hr h => ?_)
  · obtain ⟨x, d, rfl, _⟩ := h
    rfl
  · obtain ⟨x, o, rfl, th, q⟩ := h
    refine ⟨_, pss_cons (ps_if (PW.pt (pw_or (pt_not (pt_val (pe_callB call_isB (by rfl) mi (by decide +kernel) (pa_cons (pv 0) (pa_cons (pe_bltn (v := .ty "str") (by rfl) ms (by decide +kernel) rfl) pa_nil)))))
        (pw_or1 (pt_not (pt_chain op_le op_le pe_int (pe_callB call_len_str (by rfl) ml PySem.boot_len (pa_cons (pv 0) pa_nil)) pe_int))))) (pss_one (ps_ret pe_bl)) pss_nil)
      (pss_one (ps_ret (pe_callB (cr_all rfl) (by rfl) ma (by decide +kernel) (pa_cons (pe_lc (own := [("sign", 1)]) (g := gName 1) (tt := tYes) rfl scName.nd (pi_str (pv 0)) (blkOk_by (N := ["thing", "sign"]) (sc := defScope sName) (by decide +kernel))
        (fun _ _ _ _ _ => pg_name (i := 1) scName.nd rfl (Or.inl rfl)) (fun _ _ _ _ _ => pts_nil) (fun _ _ _ _ _ => pe_chain op_le_str op_le_str pe_str (pv 1) pe_str)) pa_nil)))), ?_⟩
    refine ⟨_, rfl, kn_is th.kn (by decide) ⟨_, rfl, ?_⟩⟩
    cases th with
    | exc h k => exact iteT (q _ (Same.refl _))
    | dat da =>
    cases da with
    | str z hz =>
      have q : ∀ H', Same H H' → Q (.bl (nameD (.str z))) H' := q
      refine iteF ?_
      have lz : z.length = z.cps.size := rfl
      refine ⟨_, rfl, z, rfl, Nat.le_trans hz (by decide), _, _, rfl, rfl, _, rfl, ?_⟩
      by_cases h1 : 1 ≤ z.length
      · rw [decide_eq_true (show (1 : Int) ≤ (z.length : Int) by omega)]
        refine iteT ⟨_, _, rfl, rfl, _, rfl, ?_⟩
        by_cases h8 : z.length ≤ 8
        · rw [decide_eq_true (show (z.length : Int) ≤ 8 by omega)]
          refine iteF ⟨_, rfl, z, rfl, fun D hD => ?_⟩
          refine lc_its (x := z) (fun i H' => Same H H' ∧ H' D = some (.lst (((z.cps.toList.take i).map signB).map V.bl))) ⟨same_new hD, upd_same⟩ (fun i c H' hc pv => ?_) fun H' pv => ?_
          · have hi : i < z.cps.size := (Array.getElem?_eq_some_iff.mp hc).1
            have fin : ∀ b, b = signB c → ∃ acc, H' D = some (.lst acc) ∧ acc.length < sizeLine ∧ (Same H (upd H' D (.lst (acc ++ [.bl b]))) ∧ upd H' D (.lst (acc ++ [.bl b])) D = some (.lst (((z.cps.toList.take (i + 1)).map signB).map V.bl))) := fun b e => by
              refine ⟨_, pv.2, ?_, fun a o h => ?_, ?_⟩
              · rw [List.length_map, List.length_map, List.length_take]
                exact small1000 (by omega)
              · rw [upd_ne (ne_of_none h hD)]; exact pv.1 _ _ h
              · have hc' : z.cps.toList[i]? = some c := by rw [Array.getElem?_toList]; exact hc
                rw [upd_same, List.take_add_one, hc', List.map_append, List.map_append, e]
                rfl
            refine ⟨rfl, _, rfl, _, _, rfl, rfl, _, rfl, ite2 (fun h => ⟨_, _, rfl, rfl, fin _ ?_⟩) (fun h => fin _ ?_)⟩
            · unfold signB
              rw [show (!decide (([c] : List Nat) < ("a" : Str).cps.toList)) = true from h, Bool.true_and]
            · unfold signB
              rw [show (!decide (([c] : List Nat) < ("a" : Str).cps.toList)) = false from Bool.eq_false_iff.mpr h, Bool.false_and]
          · have e : (z.cps.toList.take z.cps.size) = z.cps.toList := by rw [← Array.length_toList, List.take_length]
            rw [e] at pv
            refine ⟨D, _, rfl, SqL.of pv.2, ?_⟩
            have e2 : nameD (.str z) = (z.cps.toList.map signB).all id := by
              show ((decide (1 ≤ z.length) && decide (z.length ≤ 8)) && z.cps.toList.all signB) = _
              rw [decide_eq_true h1, decide_eq_true h8, List.all_map]
              rfl
            rw [← e2]
            exact q _ pv.1
        · rw [decide_eq_false (show ¬ (z.length : Int) ≤ 8 by omega)]
          have e2 : nameD (.str z) = false := by
            show ((decide (1 ≤ z.length) && decide (z.length ≤ 8)) && z.cps.toList.all signB) = _
            rw [decide_eq_false h8, Bool.and_false, Bool.false_and]
          exact iteT (by rw [e2] at q; exact q _ (Same.refl _))
      · rw [decide_eq_false (show ¬ (1 : Int) ≤ (z.length : Int) by omega)]
        have e2 : nameD (.str z) = false := by
          show ((decide (1 ≤ z.length) && decide (z.length ≤ 8)) && z.cps.toList.all signB) = _
          rw [decide_eq_false h1, Bool.false_and, Bool.false_and]
        exact iteF ⟨_, rfl, iteT (by rw [e2] at q; exact q _ (Same.refl _))⟩
    | _ => exact iteT (q _ (Same.refl _))
/-! ### is_kind -/
def kindD : PyData → Bool
  | .tuple [a, b] => wholeD a 2 4 && wholeD b 1 8
  | .int i => wholeD (.int i) 1 8
  | _ => false
def kindO : Option PyData → Bool
  | some d => kindD d
  | none => false
theorem isN_tup (n : String) : isN n "tuple" = (n == "tuple") := by
  unfold isN
  rw [show (("tuple" : String) == "int") = false by decide, Bool.and_false, Bool.or_false]
def spKind (K : PySem.W.Frag) : Sp := fun vs H Q _ => ∃ (x : V) (o : Option PyData), vs = [x] ∧ Th K H x o ∧ Q (.bl (kindO o)) H
theorem scKind : FnScope ["thing"] ["thing"] (defScope sKind) := ⟨rfl, rfl, rfl, by decide +kernel, rfl, by decide +kernel, by decide +kernel⟩
theorem ok_kind {f fw fh : Addr} {fd fdw fdh : FuncData} (F : Fun K "is_kind" "is_kind" sKind f fd) (Dw : Df K mg "is_width" fw fdw ["thing"]) (Gw : FnOk P w K mg base CX0 3 fw fdw ["thing"] (spOne K 1 8))
    (Dh : Df K mg "is_whole" fh fdh ["thing", "low", "high"]) (Gh : FnOk P w K mg base CX0 2 fh fdh ["thing", "low", "high"] (spWhole K)) (mi : mg "isinstance" = none) (mt : mg "tuple" = none) (ml : mg "len" = none) : FnOk P w K mg base CX0 4 f fd ["thing"] (spKind K) := by
  refine F.ok scKind (fun vs H Q E h => ?_) (fun cdv A outer s H vs Q E hr h => ?_)
  · obtain ⟨x, d, rfl, _⟩ := h
    rfl
  · obtain ⟨x, o, rfl, th, q⟩ := h
    have hr1 := hr.mono (by decide : 2 ≤ 3)
    refine ⟨_, pss_cons (ps_if (pt_not (pt_val (pe_callB call_isB (by rfl) mi (by decide +kernel) (pa_cons (pv 0) (pa_cons (pe_bltn (v := .ty "tuple") (by rfl) mt (by decide +kernel) rfl) pa_nil))))) (pss_one (ps_ret (pe_call Gw hr (by rfl) Dw.at_ Dw.kp Dw.bd .nil pass0 (pa_cons (pv 0) pa_nil)))) pss_nil)
      (pss_one (ps_ret (pe_and (pe_cmpR op_eq (pe_callB call_len_seq (by rfl) ml PySem.boot_len (pa_cons (pv 0) pa_nil)) pe_int (nomark _)) (pe_and (pe_call Gh hr1 (by rfl) Dh.at_ Dh.kp Dh.bd .nil pass0 (pa_cons (pe_ix ix_tup (pv 0) pe_int (fun _ _ => rfl)) (pa_cons pe_int (pa_cons pe_int pa_nil))))
        (pe_one (pe_call Gw hr (by rfl) Dw.at_ Dw.kp Dw.bd .nil pass0 (pa_cons (pe_ix ix_tup (pv 0) pe_int (fun _ _ => rfl)) pa_nil))))))), ?_⟩
    refine ⟨_, rfl, kn_is th.kn (by decide) ⟨_, rfl, ?_⟩⟩
    rw [isN_tup]
    cases th with
    | exc h k => exact iteT ⟨_, rfl, _, _, rfl, .exc h k, q⟩
    | @dat _ d da =>
    have out : ∀ d, Da H x d → (tyD d == "tuple") = false → kindD d = wholeB x 1 8 := fun d da e => by
      cases da with
      | tup _ _ _ => cases e
      | int i => rfl
      | _ => rfl
    by_cases e : (tyD d == "tuple") = true
    · rw [show tyO (some d) = tyD d from rfl, e]
      refine iteF ?_
      cases da with
      | @tup a xs ds h l r =>
        refine ⟨_, rfl, a, xs, rfl, .inr (SqT.of h), rfl, ?_⟩
        by_cases e2 : xs.length = 2
        · match xs, e2, r with
          | [u, v], _, .cons (d := du) h1 (.cons (d := dv) h2 .nil) =>
            refine ⟨_, rfl, iteB (by rfl) ?_⟩
            refine ⟨_, rfl, a, _, 0, _, rfl, rfl, SqT.of h, rfl, u, _, 2, 4, rfl, h1.kn, ?_⟩
            have k : kindD (.tuple [du, dv]) = (wholeB u 2 4 && wholeB v 1 8) := by
              show (wholeD du 2 4 && wholeD dv 1 8) = _
              rw [h1.whole, h2.whole]
            rw [show kindO (some (.tuple [du, dv])) = kindD (.tuple [du, dv]) from rfl, k] at q
            refine ⟨_, rfl, ite2 (fun w1 => ?_) (fun w1 => ?_)⟩
            · rw [w1, Bool.true_and] at q
              exact ⟨_, rfl, a, _, 1, _, rfl, rfl, SqT.of h, rfl, v, _, rfl, h2.kn, q⟩
            · rw [Bool.eq_false_iff.mpr w1, Bool.false_and] at q
              exact q
        · have nl : ¬ V.int ((xs.length : Nat) : Int) = V.int 2 := fun z => e2 (by have := V.int.inj z; omega)
          have k : kindD (.tuple ds) = false := by
            have ld := r.len
            match ds, ld with
            | [], _ => rfl
            | [_], _ => rfl
            | [_, _], ld => exact absurd ld e2
            | _ :: _ :: _ :: _, _ => rfl
          rw [show kindO (some (.tuple ds)) = kindD (.tuple ds) from rfl, k] at q
          exact ⟨_, rfl, iteN (decide_eq_false nl) q⟩
      | _ => cases e
    · have e' := Bool.eq_false_iff.mpr e
      rw [show tyO (some d) = tyD d from rfl, e']
      rw [show kindO (some d) = kindD d from rfl, out d da e'] at q
      exact iteT ⟨_, rfl, x, _, rfl, da.kn, q⟩
end
end A1
end Bf

namespace Bf
open PySem PySem.Spec PyProof.Rows L2

/-! ### refusals of one field -/
structure ExT (K : PySem.W.Frag) (mg : Str → Option Value) (x : Str) (C fI : Addr) (fdI : FuncData) : Prop where
  gC : mg x = some (.ref C)
  ox : OexC K C
  iC : PySem.W.findIn K (.ref C) "__init__" = some (some (.ref fI))
  tI : PySem.W.typeIn K (.ref fI) = some (.type "function")
  nf : PySem.W.findIn K (.ref C) "found" = some none
  xf : XfC K C
  bd : Binds K fdI ["self", "found"] []
/-- self is an exception that is being made, without fields as yet -/
def spBase (K : PySem.W.Frag) : Sp := fun vs H Q _ => ∃ (a C : Addr) (v : V), vs = [.ref a, v] ∧ OexC K C ∧ H a = some (exo a C none) ∧ Q .non H
def spInit (K : PySem.W.Frag) (C : Addr) : Sp := fun vs H Q _ => ∃ (a : Addr) (v : V), vs = [.ref a, v] ∧ H a = some (exo a C none) ∧
  ∀ dx, H dx = none → dx ≠ a → Q .non (upd (upd H dx (exd dx [("found", v)])) a (exo a C (some dx)))
/-- the wish that a refusal with this field comes -/
def Refuses (C : Addr) (v : V) (H : Hp) (E : XK) : Prop := ∀ d H', Same H H' → H d = none → H' d = some (.xd [("found", v)]) → E (.ref C) (some d) H'
theorem same_raise {H1 : Hp} {a d : Addr} {o1 o2 o3 o4 : HO} (ha : H1 a = none) (hd : H1 d = none) : Same H1 (upd (del (upd (upd (upd H1 a o1) d o2) a o3) a) d o4) := fun b o e => by
  have nba : b ≠ a := ne_of_none e ha
  have nbd : b ≠ d := ne_of_none e hd
  rw [upd_ne nbd, del_ne nba, upd_ne nba, upd_ne nbd, upd_ne nba]
  exact e

namespace A1
abbrev sFE : Stmt := inClass (top 1) 0
abbrev sNK : Stmt := inClass (top 4) 0
section
variable {P : Program} {w : World} {K : PySem.W.Frag} {mg : Str → Option Value} {base : Heap}
theorem scFE : FnScope ["self", "text"] ["self", "text"] (defScope sFE) := ⟨rfl, rfl, rfl, by decide +kernel, rfl, by decide +kernel, by decide +kernel⟩
theorem ok_FE {f : Addr} {fd : FuncData} (F : Fun K "__init__" "FlowError.__init__" sFE f fd) (mV : mg "ValueError" = none)
    (vV : PySem.W.findCls K (.type "ValueError") (.type "type") "__init__" = some (.val (.builtin "ValueError.__init__"))) : FnOk P w K mg base CX0 2 f fd ["self", "text"] (spBase K) := by
  refine F.ok scFE (fun vs H Q E h => ?_) (fun cdv A outer s H vs Q E hr h => ?_)
  · obtain ⟨a, C, v, rfl, _⟩ := h
    rfl
  · obtain ⟨a, C, v, rfl, ox, ea, q⟩ := h
    exact ⟨_, pss_one (ps_expr (pe_veinit (by rfl) mV vV (pa_cons (pv 0) (pa_cons (pv 1) pa_nil)))), _, rfl, _, rfl, a, C, [v], rfl, by show 1 ≤ 1000; decide, ox, ea, q⟩
/-- what an __init__ needs of the base's class -/
structure BaseT (P : Program) (w : World) (K : PySem.W.Frag) (mg : Str → Option Value) (base : Heap) (mc : Value) (CF fF : Addr) (fdF : FuncData) : Prop where
  g : mg "FlowError" = some (.ref CF)
  rd : ClX.CRead K CF mc
  va : PySem.W.findCls K (.ref CF) mc "__init__" = some (.val (.ref fF))
  kp : PySem.W.keepIn K (.ref fF) = true
  bd : Binds K fdF ["self", "text"] []
  ok : FnOk P w K mg base CX0 2 fF fdF ["self", "text"] (spBase K)
theorem scNK : FnScope ["self", "found"] ["self", "found"] (defScope sNK) := ⟨rfl, rfl, rfl, by decide +kernel, rfl, by decide +kernel, by decide +kernel⟩
theorem ok_NK {f C CF fF : Addr} {fd fdF : FuncData} {mc : Value} (F : Fun K "__init__" "NoKind.__init__" sNK f fd) (B : BaseT P w K mg base mc CF fF fdF) (ox : OexC K C) (nf : PySem.W.findIn K (.ref C) "found" = some none) :
    FnOk P w K mg base CX0 3 f fd ["self", "found"] (spInit K C) := by
  refine F.ok scNK (fun vs H Q E h => ?_) (fun cdv A outer s H vs Q E hr h => ?_)
  · obtain ⟨a, v, rfl, _⟩ := h
    rfl
  · obtain ⟨a, v, rfl, ea, q⟩ := h
    exact ⟨_, pss_cons (ps_expr (pe_clsFn B.ok hr (by rfl) B.g B.rd B.va B.kp B.bd pass0 (pa_cons (pv 0) (pa_cons pe_str pa_nil)))) (pss_one (ps_ost (pv 0) (pv 1))),
      _, rfl, a, C, _, rfl, ox, ea, _, rfl, _, rfl, a, C, rfl, ox, nf, .inl ⟨ea, fun dx n ne => q dx n ne⟩⟩
/-- what stands behind «raise C(v)», v already reckoned: the reading from the arguments on -/
theorem raise_reads {C : Addr} {v : V} {H : Hp} {E : XK} (q : Refuses C v H E) :
    ([v] : List V).length ≤ 1000 ∧ ∀ a, H a = none → spInit K C (.ref a :: ([v] ++ [])) (upd H a (exo a C none)) (fun z H2 => z = .non ∧ ∃ (d : Addr) (fs : List (Str × V)), H2 a = some (exo a C (some d)) ∧ H2 d = some (exd d fs) ∧ H d = none ∧
      E (.ref C) (some d) (upd (del H2 a) d (.xd fs))) fun _ _ _ => False := by
  refine ⟨by show 1 ≤ 1000; decide, fun a ha => ⟨a, v, rfl, upd_same, fun dx hdx ne => ⟨rfl, dx, [("found", v)], upd_same, ?_, ?_, ?_⟩⟩⟩
  · rw [upd_ne ne, upd_same]
  · rw [upd_ne ne] at hdx
    exact hdx
  · have hd : H dx = none := by
      rw [upd_ne ne] at hdx
      exact hdx
    exact q _ _ (same_raise ha hd) hd upd_same

end
end A1
end Bf

namespace Bf
open PySem PySem.Spec PyProof.Rows L2
theorem Da.str_inv {H : Hp} {v : V} {z : Str} (h : Da H v (.str z)) : v = .str z := by
  cases h; rfl
theorem Da.tup_inv {H : Hp} {v : V} {ds : List PyData} (h : Da H v (.tuple ds)) : ∃ a xs, v = .ref a ∧ H a = some (.tup xs) ∧ xs.length ≤ 1000 ∧ DaAll H xs ds := by
  cases h with
  | tup h l r => exact ⟨_, _, rfl, h, l, r⟩
namespace A1
section
variable {P : Program} {w : World} {K : PySem.W.Frag} {mg : Str → Option Value} {base : Heap}
/-! ### _are_worths_of_width -/
def goodB (z : Int) (xs : List V) : Bool := (xs.map fun y => wholeB y 0 (topW z)).all id
def spAre (K : PySem.W.Frag) : Sp := fun vs H Q _ => ∃ (a : Addr) (z : Int) (k : Bool) (xs : List V), vs = [.ref a, .int z] ∧ 0 ≤ z ∧ z ≤ 1000 ∧ SqB K k H a xs ∧ xs.length ≤ 1000 ∧ (∀ y ∈ xs, ∃ m, Kn K H y m) ∧ ∀ H', Same H H' → Q (.bl (goodB z xs)) H'
theorem scAre : FnScope ["things", "width", "thing"] ["things", "width"] (defScope sAre) := ⟨rfl, rfl, rfl, by decide +kernel, rfl, by decide +kernel, by decide +kernel⟩
theorem ok_are {f fo : Addr} {fd fdo : FuncData} (F : Fun K "_are_worths_of_width" "_are_worths_of_width" sAre f fd) (Do : Df K mg "_is_worth_of_width" fo fdo ["thing", "width"]) (Go : FnOk P w K mg base CX0 3 fo fdo ["thing", "width"] (spWorthOf K)) (ma : mg "all" = none) :
    FnOk P w K mg base CX0 4 f fd ["things", "width"] (spAre K) := by
  refine F.ok scAre (fun vs H Q E h => ?_) (fun cdv A outer s H vs Q E hr h => ?_)
  · obtain ⟨a, z, k, xs, rfl, _⟩ := h
    rfl
  · obtain ⟨a, z, k, xs, rfl, z0, z1, hS, hz, hk, q⟩ := h
    cases k with
    | true =>
      refine ⟨_, pss_one (ps_ret (pe_callB (cr_all rfl) (by rfl) ma (by decide +kernel) (pa_cons (pe_lc (own := [("thing", 2)]) (g := gName 2) (tt := tYes) rfl scAre.nd (pi_list (pv 0)) (blkOk_by (N := ["things", "width", "thing"]) (sc := defScope sAre) (by decide +kernel))
            (fun _ _ _ _ _ => pg_name (i := 2) scAre.nd rfl (Or.inl rfl)) (fun _ _ _ _ _ => pts_nil) (fun _ _ _ _ _ => pe_call Go hr (by rfl) Do.at_ Do.kp Do.bd .nil pass0 (pa_cons (pv 2) (pa_cons (pv 1) pa_nil)))) pa_nil))), ?_⟩
      have hS' : SqL K H a xs := hS
      refine ⟨_, rfl, a, rfl, ⟨xs, hS'⟩, fun D hD => lc_list (K := K) (a := a) (xs := xs) (fun i H' => Same H H' ∧ H' D = some (.lst ((xs.take i).map fun y => V.bl (wholeB y 0 (topW z))))) ⟨same_new hD, upd_same⟩
            (fun i H' _ pv => Same.seq pv.1 hS') (fun i y H' hy pv => ?_) fun H' pv => ?_⟩
      · obtain ⟨m, km⟩ := hk y (List.mem_of_getElem? hy)
        have hi := (List.getElem?_eq_some_iff.mp hy).1
        refine ⟨rfl, _, rfl, _, rfl, y, m, z, rfl, kn_same pv.1 km, z0, z1, _, pv.2, by rw [List.length_map, List.length_take]; exact Nat.lt_of_le_of_lt (Nat.le_trans (Nat.min_le_left _ _) (Nat.le_of_lt hi)) (small1000 hz), fun b o e => ?_, ?_⟩
        · rw [upd_ne (ne_of_none e hD)]
          exact pv.1 _ _ e
        · rw [upd_same, List.take_add_one, hy, List.map_append]
          rfl
      · have pv2 : H' D = some (.lst ((xs.map fun y => wholeB y 0 (topW z)).map V.bl)) := by rw [pv.2, List.take_length, List.map_map]; rfl
        exact ⟨D, _, rfl, SqL.of pv2, q _ pv.1⟩
    | false =>
      refine ⟨_, pss_one (ps_ret (pe_callB (cr_all rfl) (by rfl) ma (by decide +kernel) (pa_cons (pe_lc (own := [("thing", 2)]) (g := gName 2) (tt := tYes) rfl scAre.nd (pi_tup (pv 0)) (blkOk_by (N := ["things", "width", "thing"]) (sc := defScope sAre) (by decide +kernel))
            (fun _ _ _ _ _ => pg_name (i := 2) scAre.nd rfl (Or.inl rfl)) (fun _ _ _ _ _ => pts_nil) (fun _ _ _ _ _ => pe_call Go hr (by rfl) Do.at_ Do.kp Do.bd .nil pass0 (pa_cons (pv 2) (pa_cons (pv 1) pa_nil)))) pa_nil))), ?_⟩
      have hS' : SqT K H a xs := hS
      refine ⟨_, rfl, a, rfl, ⟨xs, hS'⟩, fun D hD => lc_tup (K := K) (a := a) (xs := xs) (fun i H' => Same H H' ∧ H' D = some (.lst ((xs.take i).map fun y => V.bl (wholeB y 0 (topW z))))) ⟨same_new hD, upd_same⟩
            (fun i H' _ pv => Same.sqT pv.1 hS') (fun i y H' hy pv => ?_) fun H' pv => ?_⟩
      · obtain ⟨m, km⟩ := hk y (List.mem_of_getElem? hy)
        have hi := (List.getElem?_eq_some_iff.mp hy).1
        refine ⟨rfl, _, rfl, _, rfl, y, m, z, rfl, kn_same pv.1 km, z0, z1, _, pv.2, by rw [List.length_map, List.length_take]; exact Nat.lt_of_le_of_lt (Nat.le_trans (Nat.min_le_left _ _) (Nat.le_of_lt hi)) (small1000 hz), fun b o e => ?_, ?_⟩
        · rw [upd_ne (ne_of_none e hD)]
          exact pv.1 _ _ e
        · rw [upd_same, List.take_add_one, hy, List.map_append]
          rfl
      · have pv2 : H' D = some (.lst ((xs.map fun y => wholeB y 0 (topW z)).map V.bl)) := by rw [pv.2, List.take_length, List.map_map]; rfl
        exact ⟨D, _, rfl, SqL.of pv2, q _ pv.1⟩


/-! ### is_worth, of a kind that is one -/
def worthD (d : PyData) : PyData → Bool
  | .int z => wholeD d 0 (topW z)
  | .tuple [.int m, .int z] => match d with
    | .tuple ds => decide ((ds.length : Int) = m) && ds.all fun e => wholeD e 0 (topW z)
    | _ => false
  | _ => false
theorem good_da {H : Hp} {z : Int} : ∀ {xs : List V} {ds : List PyData}, DaAll H xs ds → goodB z xs = ds.all fun e => wholeD e 0 (topW z)
  | _, _, .nil => rfl
  | _, _, .cons h r => by
    have ih := good_da (z := z) r
    unfold goodB at ih ⊢
    rw [List.map_cons, List.all_cons, List.all_cons, ih, h.whole]
    rfl
theorem kind_inv {d : PyData} (h : kindD d = true) : (∃ z, d = .int z ∧ 1 ≤ z ∧ z ≤ 8) ∨ ∃ m z, d = .tuple [.int m, .int z] ∧ 2 ≤ m ∧ m ≤ 4 ∧ 1 ≤ z ∧ z ≤ 8 := by
  unfold kindD at h
  split at h
  · rename_i a b
    obtain ⟨h1, h2⟩ := Bool.and_eq_true_iff.mp h
    cases a with
    | int m =>
      cases b with
      | int z =>
        have a1 : (decide (2 ≤ m) && decide (m ≤ 4)) = true := h1
        have a2 : (decide (1 ≤ z) && decide (z ≤ 8)) = true := h2
        obtain ⟨b1, b2⟩ := Bool.and_eq_true_iff.mp a1
        obtain ⟨b3, b4⟩ := Bool.and_eq_true_iff.mp a2
        exact .inr ⟨m, z, rfl, of_decide_eq_true b1, of_decide_eq_true b2, of_decide_eq_true b3, of_decide_eq_true b4⟩
      | _ => cases h2
    | _ => cases h1
  · rename_i z
    have a2 : (decide (1 ≤ z) && decide (z ≤ 8)) = true := h
    obtain ⟨b3, b4⟩ := Bool.and_eq_true_iff.mp a2
    exact .inl ⟨z, rfl, of_decide_eq_true b3, of_decide_eq_true b4⟩
  · cases h
def worthO (o : Option PyData) (e : PyData) : Bool := match o with
  | some d => worthD d e
  | none => false
theorem refuses_later {H H' : Hp} {C : Addr} {v : V} {E : XK} (q : Refuses C v H E) (s : Same H H') : Refuses C v H' E := fun d H2 s2 hd hx => q d H2 (s.trans s2) (s.free hd) hx
def spIsWorth (K : PySem.W.Frag) (cK : Addr) : Sp := fun vs H Q E => ∃ (x k : V) (o : Option PyData) (e : PyData), vs = [x, k] ∧ Th K H x o ∧ Da H k e ∧ ((kindD e = false ∧ Refuses cK k H E) ∨ (kindD e = true ∧ ∀ H', Same H H' → Q (.bl (worthO o e)) H'))
theorem scIsWorth : FnScope ["thing", "kind", "many", "width"] ["thing", "kind"] (defScope sIsWorth) := ⟨rfl, rfl, rfl, by decide +kernel, rfl, by decide +kernel, by decide +kernel⟩
theorem ok_isWorth {f fk fo fr cK fI : Addr} {fd fdk fdo fdr fdI : FuncData} (F : Fun K "is_worth" "is_worth" sIsWorth f fd) (TT : ExT K mg "NoKind" cK fI fdI) (GT : FnOk P w K mg base CX0 3 fI fdI ["self", "found"] (spInit K cK))
    (Dk : Df K mg "is_kind" fk fdk ["thing"]) (Gk : FnOk P w K mg base CX0 4 fk fdk ["thing"] (spKind K))
    (Do : Df K mg "_is_worth_of_width" fo fdo ["thing", "width"]) (Go : FnOk P w K mg base CX0 3 fo fdo ["thing", "width"] (spWorthOf K)) (Dr : Df K mg "_are_worths_of_width" fr fdr ["things", "width"]) (Gr : FnOk P w K mg base CX0 4 fr fdr ["things", "width"] (spAre K))
    (mi : mg "isinstance" = none) (mt : mg "tuple" = none) (ml : mg "len" = none) : FnOk P w K mg base (CXL P w) 5 f fd ["thing", "kind"] (spIsWorth K cK) := by
  refine F.okX scIsWorth (fun vs H Q E h => ?_) (fun cdv A outer s H vs Q E hr h => ?_)
  · obtain ⟨x, k, o, e, rfl, _⟩ := h
    rfl
  · obtain ⟨x, k, o, e, rfl, th, db, q⟩ := h
    have hr3 := hr.mono (by decide : 3 ≤ 4)
    refine ⟨_, pss_cons (ps_if (pt_not (pt_val (pe_call Gk hr (by rfl) Dk.at_ Dk.kp Dk.bd .nil pass0 (pa_cons (pv 1) pa_nil)))) (pss_one (ps_raise rfl (takes_of rfl rfl rfl rfl) (pmk_oex TT.ox TT.iC TT.tI GT hr TT.bd .nil pass0 (by rfl) TT.gC (pa_cons (pv 1) pa_nil)))) pss_nil)
      (pss_cons (ps_if (pt_not (pt_val (pe_callB call_isB (by rfl) mi (by decide +kernel) (pa_cons (pv 1) (pa_cons (pe_bltn (v := .ty "tuple") (by rfl) mt (by decide +kernel) rfl) pa_nil))))) (pss_one (ps_ret (pe_call Go hr3 (by rfl) Do.at_ Do.kp Do.bd .nil pass0 (pa_cons (pv 0) (pa_cons (pv 1) pa_nil))))) pss_nil)
      (pss_cons (ps_asg (pv 1) (pg_tup rfl (pgs_cons (pg_name (i := 2) scIsWorth.nd rfl (Or.inl rfl)) (pgs_cons (pg_name (i := 3) scIsWorth.nd rfl (Or.inl rfl)) pgs_nil))))
      (pss_cons (ps_if (PW.pt (pw_or (pt_not (pt_val (pe_callB call_isB (by rfl) mi (by decide +kernel) (pa_cons (pv 0) (pa_cons (pe_bltn (v := .ty "tuple") (by rfl) mt (by decide +kernel) rfl) pa_nil)))))
          (pw_or1 (pt_cmpR op_ne (pe_callB call_len_seq (by rfl) ml PySem.boot_len (pa_cons (pv 0) pa_nil)) (pv 2) (nomark _))))) (pss_one (ps_ret pe_bl)) pss_nil)
      (pss_one (ps_ret (pe_call Gr hr (by rfl) Dr.at_ Dr.kp Dr.bd .nil pass0 (pa_cons (pv 0) (pa_cons (pv 3) pa_nil)))))))), ?_⟩
    refine ⟨_, rfl, k, some e, rfl, .dat db, _, rfl, ?_⟩
    rcases q with ⟨hk, q⟩ | ⟨hk, q⟩
    · refine iteB (by show (!kindD e) = true; rw [hk]; rfl) ⟨_, rfl, raise_reads q⟩
    refine iteN (by show (!kindD e) = false; rw [hk]; rfl) ?_
    refine ⟨_, rfl, kn_is (n := tyD e) db.kn (by decide) ⟨_, rfl, ?_⟩⟩
    rcases kind_inv hk with ⟨z, rfl, z1, z8⟩ | ⟨m, z, rfl, m2, m4, z1, z8⟩
    · cases db
      refine iteT ⟨_, rfl, _, rfl, x, _, z, rfl, th.kn, by omega, by omega, ?_⟩
      have ew : wholeB x 0 (topW z) = worthO o (.int z) := by
        cases th with
        | dat da => exact da.whole 0 (topW z)
        | exc h k => rfl
      rw [ew]
      exact q _ (Same.refl _)
    · obtain ⟨kb, ks, rfl, hkb, -, rk⟩ := db.tup_inv
      cases rk with
      | cons r1 rk =>
        cases rk with
        | cons r2 rk =>
          cases rk
          cases r1
          cases r2
          refine iteF ⟨_, rfl, kb, _, rfl, SqT.of hkb, rfl, _, _, rfl, _, _, rfl, rfl, ?_⟩
          refine ⟨_, rfl, kn_is th.kn (by decide) ⟨_, rfl, ?_⟩⟩
          cases th with
          | exc h k => exact iteT (iteT (q _ (Same.refl _)))
          | dat da =>
          cases da with
          | @tup a xs ds h l r =>
            refine iteF ?_
            refine ⟨_, rfl, a, xs, rfl, .inr (SqT.of h), _, rfl, rfl, _, rfl, ?_⟩
            have w0 : worthO (some (.tuple ds)) (.tuple [.int m, .int z]) = (decide ((ds.length : Int) = m) && ds.all fun e => wholeD e 0 (topW z)) := rfl
            by_cases e2 : (xs.length : Int) = m
            · refine iteN (by rw [e2, decide_eq_true rfl]; rfl) ?_
              refine ⟨_, rfl, _, rfl, a, z, false, xs, rfl, by omega, by omega, SqT.of h, l, r.kn, fun H' s' => ?_⟩
              rw [good_da r]
              rw [w0, ← r.len, decide_eq_true e2, Bool.true_and] at q
              exact q _ s'
            · have nl : ¬ V.int ((xs.length : Nat) : Int) = V.int m := fun z => e2 (V.int.inj z)
              refine iteB (by rw [decide_eq_false nl]; rfl) ?_
              rw [w0, ← r.len, decide_eq_false e2, Bool.false_and] at q
              exact q _ (Same.refl _)
          | _ => exact iteT (iteT (q _ (Same.refl _)))
end
end A1
end Bf

namespace Bf
open PySem PySem.Spec PyProof.Rows L2
def condD : PyData → Bool
  | .tuple [n, t] => nameD n && wholeD t 0 1
  | _ => false
def cname : PyData → Str
  | .tuple (.str z :: _) => z
  | _ => ""
def clockD : PyData → Bool
  | .tuple ds => decide (ds.length ≤ 3) && (ds.all condD && decide ((ds.map cname).Nodup))
  | _ => false
def clockO : Option PyData → Bool
  | some d => clockD d
  | none => false
theorem cond_inv {d : PyData} (h : condD d = true) : ∃ z t, d = .tuple [.str z, t] ∧ nameS z = true ∧ wholeD t 0 1 = true := by
  unfold condD at h
  split at h
  · rename_i n t
    obtain ⟨h1, h2⟩ := Bool.and_eq_true_iff.mp h
    cases n with
    | str z => exact ⟨z, t, rfl, h1, h2⟩
    | _ => cases h1
  · cases h
/-- a row of names grows -/
theorem nodup_grow {l : List Str} {x : Str} {n : Nat} (le : n ≤ l.length) (e : n = l.length ↔ l.Nodup) :
    (if decide (x ∈ l) = true then n else n + 1) ≤ (l ++ [x]).length ∧ ((if decide (x ∈ l) = true then n else n + 1) = (l ++ [x]).length ↔ (l ++ [x]).Nodup) := by
  rw [List.length_append, List.length_singleton]
  by_cases m : x ∈ l
  · rw [if_pos (decide_eq_true m)]
    refine ⟨by omega, fun z => absurd z (by omega), fun z => ?_⟩
    obtain ⟨_, _, dis⟩ := List.nodup_append.mp z
    exact absurd rfl (dis x m x List.mem_cons_self)
  · rw [if_neg (by rw [decide_eq_false m]; exact Bool.false_ne_true)]
    refine ⟨by omega, fun z => ?_, fun z => ?_⟩
    · refine List.nodup_append.mpr ⟨e.mp (by omega), by simp, fun a ma b mb => ?_⟩
      rw [List.mem_singleton.mp mb]
      exact fun z => m (z ▸ ma)
    · have := e.mpr (List.nodup_append.mp z).1
      omega
namespace A1
section
variable {P : Program} {w : World} {K : PySem.W.Frag} {mg : Str → Option Value} {base : Heap}
def spCond : Sp := fun vs H Q _ => ∃ (x : V) (d : PyData), vs = [x] ∧ Da H x d ∧ ∀ H', Same H H' → Q (.bl (condD d)) H'
theorem scCond : FnScope ["thing"] ["thing"] (defScope sCond) := ⟨rfl, rfl, rfl, by decide +kernel, rfl, by decide +kernel, by decide +kernel⟩
theorem ok_cond {f fn ft : Addr} {fd dn dt : FuncData} (F : Fun K "_is_condition" "_is_condition" sCond f fd) (Dn : Df K mg "is_name" fn dn ["thing"]) (Gn : FnOk P w K mg base CX0 1 fn dn ["thing"] (spName K))
    (Dt : Df K mg "is_truth" ft dt ["thing"]) (Gt : FnOk P w K mg base CX0 3 ft dt ["thing"] (spOne K 0 1)) (mi : mg "isinstance" = none) (mt : mg "tuple" = none) (ml : mg "len" = none) : FnOk P w K mg base CX0 4 f fd ["thing"] spCond := by
  refine F.ok scCond (fun vs H Q E h => ?_) (fun cdv A outer s H vs Q E hr h => ?_)
  · obtain ⟨x, d, rfl, _⟩ := h
    rfl
  · obtain ⟨x, d, rfl, da, q⟩ := h
    have hr1 := hr.mono (by decide : 1 ≤ 3)
    refine ⟨_, pss_one (ps_ret (pe_and (pe_callB call_isB (by rfl) mi (by decide +kernel) (pa_cons (pv 0) (pa_cons (pe_bltn (v := .ty "tuple") (by rfl) mt (by decide +kernel) rfl) pa_nil)))
      (pe_and (pe_cmpR op_eq (pe_callB call_len_seq (by rfl) ml PySem.boot_len (pa_cons (pv 0) pa_nil)) pe_int (nomark _))
      (pe_and (pe_call Gn hr1 (by rfl) Dn.at_ Dn.kp Dn.bd .nil pass0 (pa_cons (pe_ix ix_tup (pv 0) pe_int (fun _ _ => rfl)) pa_nil))
      (pe_one (pe_call Gt hr (by rfl) Dt.at_ Dt.kp Dt.bd .nil pass0 (pa_cons (pe_ix ix_tup (pv 0) pe_int (fun _ _ => rfl)) pa_nil))))))), ?_⟩
    refine ⟨_, rfl, kn_is (n := tyD d) da.kn (by decide) ⟨_, rfl, ?_⟩⟩
    cases da with
    | @tup a xs ds h l r =>
      refine iteT ⟨_, rfl, a, xs, rfl, .inr (SqT.of h), rfl, ?_⟩
      by_cases e2 : xs.length = 2
      · match xs, e2, r with
        | [u, v], _, .cons (d := du) h1 (.cons (d := dv) h2 .nil) =>
          have k : condD (.tuple [du, dv]) = (nameD du && wholeB v 0 1) := by
            show (nameD du && wholeD dv 0 1) = _
            rw [h2.whole]
          rw [k] at q
          refine ⟨_, rfl, iteB (by rfl) ?_⟩
          refine ⟨_, rfl, a, _, 0, _, rfl, rfl, SqT.of h, rfl, u, some du, rfl, .dat h1, fun H1 s1 => ⟨_, rfl, ite2 (fun w1 => ?_) (fun w1 => ?_)⟩⟩
          · rw [show nameD du = true from w1, Bool.true_and] at q
            exact ⟨_, rfl, a, _, 1, _, rfl, rfl, SqT.of (s1 _ _ h), rfl, v, _, rfl, kn_same s1 h2.kn, q _ s1⟩
          · have w2 : nameD du = false := Bool.eq_false_iff.mpr w1
            rw [w2, Bool.false_and] at q
            exact q _ s1
      · have nl : ¬ V.int ((xs.length : Nat) : Int) = V.int 2 := fun z => e2 (by have := V.int.inj z; omega)
        have k : condD (.tuple ds) = false := by
          have ld := r.len
          match ds, ld with
          | [], _ => rfl
          | [_], _ => rfl
          | [_, _], ld => exact absurd ld e2
          | _ :: _ :: _ :: _, _ => rfl
        rw [k] at q
        refine ⟨_, rfl, iteN (decide_eq_false nl) ?_⟩
        exact q _ (Same.refl _)
    | _ => exact iteF (q _ (Same.refl _))
def spClock (K : PySem.W.Frag) : Sp := fun vs H Q _ => ∃ (x : V) (o : Option PyData), vs = [x] ∧ Th K H x o ∧ ∀ H', Same H H' → Q (.bl (clockO o)) H'
theorem scClock : FnScope ["thing", "condition"] ["thing"] (defScope sIsClock) := ⟨rfl, rfl, rfl, by decide +kernel, rfl, by decide +kernel, by decide +kernel⟩
theorem ok_clock {f fc : Addr} {fd dc : FuncData} (F : Fun K "is_clock" "is_clock" sIsClock f fd) (Dc : Df K mg "_is_condition" fc dc ["thing"]) (Gc : FnOk P w K mg base CX0 4 fc dc ["thing"] spCond)
    (mi : mg "isinstance" = none) (mt : mg "tuple" = none) (ml : mg "len" = none) (ma : mg "all" = none) : FnOk P w K mg base CX0 5 f fd ["thing"] (spClock K) := by
  refine F.ok scClock (fun vs H Q E h => ?_) (fun cdv A outer s H vs Q E hr h => ?_)
  · obtain ⟨x, o, rfl, _⟩ := h
    rfl
  · obtain ⟨x, o, rfl, th, q⟩ := h
    refine ⟨_, pss_cons (ps_if (PW.pt (pw_or (pt_not (pt_val (pe_callB call_isB (by rfl) mi (by decide +kernel) (pa_cons (pv 0) (pa_cons (pe_bltn (v := .ty "tuple") (by rfl) mt (by decide +kernel) rfl) pa_nil)))))
        (pw_or1 (pt_cmpR op_gt (pe_callB call_len_seq (by rfl) ml PySem.boot_len (pa_cons (pv 0) pa_nil)) pe_int (nomark _))))) (pss_one (ps_ret pe_bl)) pss_nil)
      (pss_cons (ps_if (pt_not (pt_val (pe_callB (cr_all rfl) (by rfl) ma (by decide +kernel) (pa_cons (pe_lc (own := [("condition", 1)]) (g := gName 1) (tt := tYes) rfl scClock.nd (pi_tup (pv 0)) (blkOk_by (N := ["thing", "condition"]) (sc := defScope sIsClock) (by decide +kernel))
          (fun _ _ _ _ _ => pg_name (i := 1) scClock.nd rfl (Or.inl rfl)) (fun _ _ _ _ _ => pts_nil) (fun _ _ _ _ _ => pe_call Gc hr (by rfl) Dc.at_ Dc.kp Dc.bd .nil pass0 (pa_cons (pv 1) pa_nil))) pa_nil)))) (pss_one (ps_ret pe_bl)) pss_nil)
      (pss_one (ps_ret (pe_cmpR op_eq (pe_callB call_lenK (by rfl) ml PySem.boot_len (pa_cons (pe_scK (own := [("condition", 1)]) (g := gName 1) (tt := tYes) rfl scClock.nd (pi_tup (pv 0)) (blkOk_by (N := ["thing", "condition"]) (sc := defScope sIsClock) (by decide +kernel))
          (fun _ _ _ _ _ => pg_name (i := 1) scClock.nd rfl (Or.inl rfl)) (fun _ _ _ _ _ => pts_nil) (fun _ _ _ _ _ => pe_ix (ixT (K := K) rfl) (pv 1) pe_int (fun _ _ => rfl))) pa_nil))
          (pe_callB call_len_seq (by rfl) ml PySem.boot_len (pa_cons (pv 0) pa_nil)) (nomark _))))), ?_⟩
    refine ⟨_, rfl, kn_is th.kn (by decide) ⟨_, rfl, ?_⟩⟩
    rw [isN_tup]
    cases th with
    | exc h k => exact iteT (q _ (Same.refl _))
    | dat da =>
    cases da with
    | @tup a xs ds h l r =>
      have q : ∀ H', Same H H' → Q (.bl (clockD (.tuple ds))) H' := q
      have q0 : clockD (.tuple ds) = (decide (ds.length ≤ 3) && (ds.all condD && decide ((ds.map cname).Nodup))) := rfl
      rw [q0] at q
      have ln := r.len
      refine iteF ⟨_, rfl, a, xs, rfl, .inr (SqT.of h), _, _, rfl, rfl, _, rfl, ?_⟩
      by_cases h3 : ds.length ≤ 3
      · refine iteN (decide_eq_false (by omega)) ?_
        rw [decide_eq_true h3, Bool.true_and] at q
        refine ⟨_, rfl, a, rfl, ⟨xs, SqT.of h⟩, fun D hD => lc_tup (K := K) (a := a) (xs := xs) (fun i H' => Same H H' ∧ H' D = some (.lst ((ds.take i).map fun d => V.bl (condD d)))) ⟨same_new hD, upd_same⟩
            (fun i H' _ pv => SqT.of (pv.1 _ _ h)) (fun i y H' hy pv => ?_) fun H' pv => ?_⟩
        · obtain ⟨d, hd, day⟩ := r.get hy
          have hi := (List.getElem?_eq_some_iff.mp hd).1
          refine ⟨rfl, _, rfl, y, d, rfl, Da.same pv.1 _ _ day, fun H'' s'' => ⟨_, s'' _ _ pv.2, ?_, fun b o e => ?_, ?_⟩⟩
          · rw [List.length_map, List.length_take]
            exact small1000 (by omega)
          · rw [upd_ne (ne_of_none e hD)]
            exact s'' _ _ (pv.1 _ _ e)
          · rw [upd_same, List.take_add_one, hd, List.map_append]
            rfl
        · rw [ln, List.take_length] at pv
          have pv2 : H' D = some (.lst ((ds.map condD).map V.bl)) := by rw [pv.2, List.map_map]; rfl
          refine ⟨D, _, rfl, SqL.of pv2, _, rfl, ?_⟩
          have ea : (ds.map condD).all id = ds.all condD := by rw [List.all_map]; rfl
          rw [ea]
          cases ec : ds.all condD with
          | false =>
            rw [ec, Bool.false_and] at q
            exact iteT (q _ pv.1)
          | true =>
            rw [ec, Bool.true_and] at q
            refine iteF ⟨_, rfl, a, rfl, ⟨xs, SqT.of (pv.1 _ _ h)⟩, fun D2 hD2 => ?_⟩
            refine scK_tup (K := K) (a := a) (xs := xs) (fun i G => Same H G ∧ ∃ (S : Key → Bool) (n : Nat), G D2 = some (SetK P w D2 S n) ∧ (∀ z : Str, S (.inr z) = decide (z ∈ (ds.take i).map cname)) ∧ n ≤ ((ds.take i).map cname).length ∧ (n = ((ds.take i).map cname).length ↔ ((ds.take i).map cname).Nodup))
              ⟨pv.1.trans (same_new hD2), _, 0, upd_same, fun z => by simp, by simp, by simp⟩ (fun i G _ p2 => SqT.of (p2.1 _ _ h)) (fun i y G hy p2 => ?_) fun G p2 => ?_
            · obtain ⟨d, hd, day⟩ := r.get hy
              obtain ⟨sG, S, n, gD, hS, le, iff⟩ := p2
              have hi := (List.getElem?_eq_some_iff.mp hd).1
              obtain ⟨z, t, rfl, _, _⟩ := cond_inv (List.all_eq_true.mp ec d (List.mem_of_getElem? hd))
              obtain ⟨b, ys, rfl, hb, -, ry⟩ := (Da.same sG _ _ day).tup_inv
              have hDH : H D2 = none := pv.1.free hD2
              cases ry with
              | cons r1 ry =>
                cases r1
                have et : (ds.take (i + 1)).map cname = (ds.take i).map cname ++ [z] := by rw [List.take_add_one, hd, List.map_append]; rfl
                have ng := nodup_grow (x := z) le iff
                refine ⟨rfl, _, rfl, b, _, ((0 : Nat) : Int), _, rfl, rfl, SqT.of hb, atI_nat rfl, .inr z, S, n, rfl, gD, ?_, fun c o e => ?_, _, _, upd_same, fun z' => ?_, ?_, ?_⟩
                · have : n ≤ 3 := by rw [List.length_map, List.length_take] at le; omega
                  exact Nat.lt_of_le_of_lt (show n + 1 ≤ 4 by omega) (by decide)
                · rw [upd_ne (ne_of_none e hDH)]
                  exact sG _ _ e
                · rw [hS, et]
                  by_cases ez : z' = z
                  · subst ez
                    simp
                  · have e1 : decide ((Sum.inr z' : Key) = Sum.inr z) = false := decide_eq_false fun q => ez (Sum.inr.inj q)
                    rw [e1, Bool.or_false]
                    simp [ez]
                · rw [hS, et]
                  exact ng.1
                · rw [hS, et]
                  exact ng.2
            · obtain ⟨sG, S, n, gD, hS, le, iff⟩ := p2
              rw [ln, List.take_length] at le iff
              rw [List.length_map] at le iff
              refine ⟨D2, S, n, rfl, gD, by omega, _, rfl, a, xs, rfl, .inr (SqT.of (sG _ _ h)), rfl, ?_⟩
              have e3 : decide (V.int (n : Nat) = V.int (xs.length : Nat)) = decide ((ds.map cname).Nodup) := by
                rw [ln]
                by_cases nd : (ds.map cname).Nodup
                · rw [decide_eq_true nd]
                  exact decide_eq_true (by rw [iff.mpr nd])
                · rw [decide_eq_false nd]
                  exact decide_eq_false fun z => nd (iff.mp (by have := V.int.inj z; omega))
              rw [e3]
              exact q _ sG
      · refine iteB (decide_eq_true (by omega)) ?_
        rw [decide_eq_false h3, Bool.false_and] at q
        exact q _ (Same.refl _)
    | _ => exact iteT (q _ (Same.refl _))
end
end A1
end Bf

namespace Bf
open PySem PySem.Spec PyProof.Rows L2
/-- comprehensions over a tuple that keep what fails a test -/
theorem filter_take {α : Type} {p : α → Bool} {l : List α} {i : Nat} {x : α} (h : l[i]? = some x) : (l.take (i + 1)).filter p = (l.take i).filter p ++ if p x = true then [x] else [] := by
  rw [List.take_add_one, h, List.filter_append]
  congr 1
  show [x].filter p = _
  rw [List.filter_cons, List.filter_nil]
theorem filter_empty {α : Type} {p : α → Bool} {l : List α} : (l.filter fun x => !p x).isEmpty = l.all p := by
  induction l with
  | nil => rfl
  | cons a r ih =>
    rw [List.filter_cons, List.all_cons]
    cases p a with
    | true => exact ih
    | false => rfl
namespace A1
section
variable {P : Program} {w : World} {K : PySem.W.Frag} {mg : Str → Option Value} {base : Heap}
abbrev nLNum : List Str := ["_law_thing", "_law_low", "_law_high"]
theorem scLNum : FnScope nLNum nLNum (defScope sLNum) := ⟨rfl, rfl, rfl, by decide +kernel, rfl, by decide +kernel, by decide +kernel⟩
theorem ok_lnum {f : Addr} {fd : FuncData} (F : Fun K "_law_is_number" "_law_is_number" sLNum f fd) (mi : mg "isinstance" = none) (mI : mg "int" = none) (mb : mg "bool" = none) :
    FnOk P w K mg base CX0 1 f fd nLNum (spWhole K) := by
  refine F.ok scLNum (fun vs H Q E h => ?_) (fun cdv A outer s H vs Q E hr h => ?_)
  · obtain ⟨x, n, lo, hi, rfl, _⟩ := h
    rfl
  · obtain ⟨x, n, lo, hi, rfl, kn, q⟩ := h
    refine ⟨_, (pss_one (ps_ret (pe_and (pe_callB call_isB (by rfl) mi (by decide +kernel) (pa_cons (pv 0) (pa_cons (pe_bltn (v := .ty "int") (by rfl) mI (by decide +kernel) rfl) pa_nil))) (pe_and (pe_not (pe_callB call_isB (by rfl) mi (by decide +kernel) (pa_cons (pv 0) (pa_cons (pe_bltn (v := .ty "bool") (by rfl) mb (by decide +kernel) rfl) pa_nil)))) (pe_and (pe_cmpR op_le (pv 1) (pv 0) (nomark _)) (pe_one (pe_cmpR op_le (pv 0) (pv 2) (nomark _)))))))), ?_⟩
    have e0 := num_is kn
    refine ⟨_, rfl, kn_is kn (by decide) ⟨_, rfl, ite2 (fun h1 => ?_) (fun h1 => ?_)⟩⟩
    · refine ⟨_, rfl, kn_is kn (by decide) ⟨_, rfl, _, rfl, ?_⟩⟩
      cases x with
      | int i =>
        rw [show numB (.int i) = true from rfl, h1, Bool.true_and] at e0
        rw [← e0]
        refine iteT ⟨_, rfl, _, rfl, _, _, rfl, rfl, _, rfl, ite2 (fun h1 => ?_) (fun h1 => ?_)⟩
        · refine ⟨_, rfl, _, rfl, _, _, rfl, rfl, ?_⟩
          have e : wholeB (.int i) lo hi = decide (i ≤ hi) := by
            show (decide (lo ≤ i) && decide (i ≤ hi)) = _
            rw [h1]; rfl
          rw [e] at q; exact q
        · have e : wholeB (.int i) lo hi = false := by
            show (decide (lo ≤ i) && decide (i ≤ hi)) = _
            rw [Bool.eq_false_iff.mpr h1]; rfl
          rw [e] at q; exact q
      | _ =>
        rw [show numB _ = false from rfl, h1, Bool.true_and] at e0
        rw [← e0]
        exact iteF q
    · cases x with
      | int i =>
        rw [show numB (.int i) = true from rfl, Bool.eq_false_iff.mpr h1, Bool.false_and] at e0
        cases e0
      | _ => exact q
abbrev nLIsName : List Str := ["_law_thing", "_law_sign"]
theorem scLIsName : FnScope nLIsName ["_law_thing"] (defScope sLIsName) := ⟨rfl, rfl, rfl, by decide +kernel, rfl, by decide +kernel, by decide +kernel⟩
theorem ok_lisname {f : Addr} {fd : FuncData} (F : Fun K "_law_is_name" "_law_is_name" sLIsName f fd) (mi : mg "isinstance" = none) (ms : mg "str" = none) (ml : mg "len" = none) : FnOk P w K mg base CX0 1 f fd ["_law_thing"] (spName K) := by
  refine F.ok scLIsName (fun vs H Q E h => ?_) (fun cdv A outer s H vs Q E hr h => ?_)
  · obtain ⟨x, o, rfl, _⟩ := h
    rfl
  · obtain ⟨x, o, rfl, th, q⟩ := h
    refine ⟨_, (pss_cons (ps_if (PW.pt (pw_or (pt_not (pt_val (pe_callB call_isB (by rfl) mi (by decide +kernel) (pa_cons (pv 0) (pa_cons (pe_bltn (v := .ty "str") (by rfl) ms (by decide +kernel) rfl) pa_nil))))) (pw_or (pt_cmpR op_lt (pe_callB call_len_str (by rfl) ml PySem.boot_len (pa_cons (pv 0) pa_nil)) pe_int (nomark _)) (pw_or1 (pt_cmpR op_gt (pe_callB call_len_str (by rfl) ml PySem.boot_len (pa_cons (pv 0) pa_nil)) pe_int (nomark _)))))) (pss_one (ps_ret pe_bl)) pss_nil)
        (pss_one (ps_ret (pe_cmpR (op_eqNil hr.units) (pe_lc (own := [("_law_sign", 1)]) (g := gName 1) (tt := _) rfl scLIsName.nd (pi_str (pv 0)) (blkOk_by (N := nLIsName) (sc := defScope sLIsName) (by decide +kernel)) (fun _ _ _ _ _ => pg_name (i := 1) scLIsName.nd rfl (Or.inl rfl)) (fun _ _ _ _ _ => (pts_one (pt_not (pt_chain op_le_str op_le_str pe_str (pv 1) pe_str)))) (fun _ _ _ _ _ => (pv 1))) (pe_lst pa_nil) (nomark _))))), ?_⟩
    refine ⟨_, rfl, kn_is th.kn (by decide) ⟨_, rfl, ?_⟩⟩
    cases th with
    | exc h k => exact iteT (q _ (Same.refl _))
    | dat da =>
    cases da with
    | str z hz =>
      have q : ∀ H', Same H H' → Q (.bl (nameD (.str z))) H' := q
      refine iteF ?_
      have lz : z.length = z.cps.size := rfl
      have nn : nameD (.str z) = ((decide (1 ≤ z.length) && decide (z.length ≤ 8)) && z.cps.toList.all signB) := rfl
      rw [nn] at q
      refine ⟨_, rfl, z, rfl, Nat.le_trans hz (by decide), _, _, rfl, rfl, _, rfl, ?_⟩
      by_cases h1 : z.length < 1
      · refine iteB (decide_eq_true (by omega)) (iteT ?_)
        rw [decide_eq_false (show ¬ 1 ≤ z.length by omega), Bool.false_and, Bool.false_and] at q
        exact q _ (Same.refl _)
      refine iteN (decide_eq_false (by omega)) ?_
      rw [decide_eq_true (show 1 ≤ z.length by omega), Bool.true_and] at q
      refine ⟨_, rfl, z, rfl, Nat.le_trans hz (by decide), _, _, rfl, rfl, _, rfl, ?_⟩
      by_cases h8 : 8 < z.length
      · refine iteB (decide_eq_true (by omega)) ?_
        rw [decide_eq_false (show ¬ z.length ≤ 8 by omega), Bool.false_and] at q
        exact q _ (Same.refl _)
      refine iteN (decide_eq_false (by omega)) ?_
      rw [decide_eq_true (show z.length ≤ 8 by omega), Bool.true_and] at q
      refine ⟨_, rfl, z, rfl, fun D hD => ?_⟩
      refine lc_its (x := z) (fun i H' => Same H H' ∧ H' D = some (.lst (((z.cps.toList.take i).filter fun c => !signB c).map fun c => V.str ⟨#[c]⟩))) ⟨same_new hD, upd_same⟩ (fun i c H' hc pv => ?_) fun H' pv => ?_
      · have hi : i < z.cps.size := (Array.getElem?_eq_some_iff.mp hc).1
        have hc' : z.cps.toList[i]? = some c := by rw [Array.getElem?_toList]; exact hc
        have ft := filter_take (p := fun c => !signB c) hc'
        have put : signB c = false → ∃ v, some (some (V.str ⟨#[c]⟩)) = some (some v) ∧ ∃ acc, H' D = some (.lst acc) ∧ acc.length < sizeLine ∧ Same H (upd H' D (.lst (acc ++ [v]))) ∧ upd H' D (.lst (acc ++ [v])) D = some (.lst (((z.cps.toList.take (i + 1)).filter fun c => !signB c).map fun c => V.str ⟨#[c]⟩)) := fun e => by
          refine ⟨_, rfl, _, pv.2, ?_, fun a o h => ?_, ?_⟩
          · rw [List.length_map]
            exact small1000 (Nat.le_trans (List.length_filter_le _ _) (by rw [List.length_take]; omega))
          · rw [upd_ne (ne_of_none h hD)]; exact pv.1 _ _ h
          · rw [upd_same, ft, e, List.map_append]
            rfl
        have pass : signB c = true → Same H H' ∧ H' D = some (.lst (((z.cps.toList.take (i + 1)).filter fun c => !signB c).map fun c => V.str ⟨#[c]⟩)) := fun e => ⟨pv.1, by rw [ft, e, pv.2]; simp⟩
        refine ⟨rfl, _, rfl, _, _, rfl, rfl, _, rfl, ite2 (fun g => ⟨_, _, rfl, rfl, _, rfl, ite2 (fun g2 => put ?_) (fun g2 => pass ?_)⟩) (fun g => ⟨_, rfl, iteT (put ?_)⟩)⟩
        · unfold signB
          rw [show (!decide (([c] : List Nat) < ("a" : Str).cps.toList)) = true from g, Bool.true_and]
          simpa using g2
        · unfold signB
          rw [show (!decide (([c] : List Nat) < ("a" : Str).cps.toList)) = true from g, Bool.true_and]
          simpa using g2
        · unfold signB
          rw [show (!decide (([c] : List Nat) < ("a" : Str).cps.toList)) = false from Bool.eq_false_iff.mpr g, Bool.false_and]
      · have e : (z.cps.toList.take z.cps.size) = z.cps.toList := by rw [← Array.length_toList, List.take_length]
        rw [e] at pv
        refine ⟨by show 0 ≤ sizeLine; decide, fun L hL => ⟨D, L, _, rfl, rfl, SqL.of ((same_new hL) _ _ pv.2), SqL.of upd_same, ?_⟩⟩
        rw [List.isEmpty_map, filter_empty]
        exact q _ (pv.1.trans (same_new hL))
    | _ => exact iteT (q _ (Same.refl _))
abbrev nLIsKind : List Str := ["_law_thing"]
theorem scLIsKind : FnScope nLIsKind nLIsKind (defScope sLIsKind) := ⟨rfl, rfl, rfl, by decide +kernel, rfl, by decide +kernel, by decide +kernel⟩
theorem ok_liskind {f fn : Addr} {fd dn : FuncData} (F : Fun K "_law_is_kind" "_law_is_kind" sLIsKind f fd) (Dn : Df K mg "_law_is_number" fn dn nLNum) (Gn : FnOk P w K mg base CX0 1 fn dn nLNum (spWhole K)) (mi : mg "isinstance" = none) (mt : mg "tuple" = none) (ml : mg "len" = none) :
    FnOk P w K mg base CX0 2 f fd nLIsKind (spKind K) := by
  refine F.ok scLIsKind (fun vs H Q E h => ?_) (fun cdv A outer s H vs Q E hr h => ?_)
  · obtain ⟨x, o, rfl, _⟩ := h
    rfl
  · obtain ⟨x, o, rfl, th, q⟩ := h
    refine ⟨_, (pss_cons (ps_if (pt_val (pe_callB call_isB (by rfl) mi (by decide +kernel) (pa_cons (pv 0) (pa_cons (pe_bltn (v := .ty "tuple") (by rfl) mt (by decide +kernel) rfl) pa_nil)))) (pss_one (ps_ret (pe_and (pe_cmpR op_eq (pe_callB call_len_seq (by rfl) ml PySem.boot_len (pa_cons (pv 0) pa_nil)) pe_int (nomark _)) (pe_and (pe_call Gn hr (by rfl) Dn.at_ Dn.kp Dn.bd .nil pass0 (pa_cons (pe_ix ix_tup (pv 0) pe_int (fun _ _ => rfl)) (pa_cons pe_int (pa_cons pe_int pa_nil)))) (pe_one (pe_call Gn hr (by rfl) Dn.at_ Dn.kp Dn.bd .nil pass0 (pa_cons (pe_ix ix_tup (pv 0) pe_int (fun _ _ => rfl)) (pa_cons pe_int (pa_cons pe_int pa_nil))))))))) pss_nil)
        (pss_one (ps_ret (pe_call Gn hr (by rfl) Dn.at_ Dn.kp Dn.bd .nil pass0 (pa_cons (pv 0) (pa_cons pe_int (pa_cons pe_int pa_nil))))))), ?_⟩
    refine ⟨_, rfl, kn_is th.kn (by decide) ⟨_, rfl, ?_⟩⟩
    rw [isN_tup]
    cases th with
    | exc h k => exact iteF ⟨_, rfl, _, _, 1, 8, rfl, .exc h k, q⟩
    | @dat _ d da =>
    have q : Q (.bl (kindD d)) H := q
    rw [show tyO (some d) = tyD d from rfl]
    have out : (tyD d == "tuple") = false → kindD d = wholeB x 1 8 := fun e => by
      cases da with
      | tup _ _ _ => cases e
      | int i => rfl
      | _ => rfl
    by_cases e : (tyD d == "tuple") = true
    · rw [e]
      refine iteT ?_
      cases da with
      | @tup a xs ds h l r =>
        refine ⟨_, rfl, a, xs, rfl, .inr (SqT.of h), rfl, ?_⟩
        by_cases e2 : xs.length = 2
        · match xs, e2, r with
          | [u, v], _, .cons (d := du) h1 (.cons (d := dv) h2 .nil) =>
            refine ⟨_, rfl, iteB (by rfl) ?_⟩
            refine ⟨_, rfl, a, _, 0, _, rfl, rfl, SqT.of h, rfl, u, _, 2, 4, rfl, h1.kn, ?_⟩
            have k : kindD (.tuple [du, dv]) = (wholeB u 2 4 && wholeB v 1 8) := by
              show (wholeD du 2 4 && wholeD dv 1 8) = _
              rw [h1.whole, h2.whole]
            rw [k] at q
            refine ⟨_, rfl, ite2 (fun w1 => ?_) (fun w1 => ?_)⟩
            · rw [w1, Bool.true_and] at q
              exact ⟨_, rfl, a, _, 1, _, rfl, rfl, SqT.of h, rfl, v, _, 1, 8, rfl, h2.kn, q⟩
            · rw [Bool.eq_false_iff.mpr w1, Bool.false_and] at q
              exact q
        · have nl : ¬ V.int ((xs.length : Nat) : Int) = V.int 2 := fun z => e2 (by have := V.int.inj z; omega)
          have k : kindD (.tuple ds) = false := by
            have ld := r.len
            match ds, ld with
            | [], _ => rfl
            | [_], _ => rfl
            | [_, _], ld => exact absurd ld e2
            | _ :: _ :: _ :: _, _ => rfl
          rw [k] at q
          exact ⟨_, rfl, iteN (decide_eq_false nl) q⟩
      | _ => cases e
    · have e' := Bool.eq_false_iff.mpr e
      rw [e']
      rw [out e'] at q
      exact iteF ⟨_, rfl, x, _, 1, 8, rfl, da.kn, q⟩
abbrev nLIsWorth : List Str := ["_law_thing", "_law_kind", "_law_one"]
theorem scLIsWorth : FnScope nLIsWorth ["_law_thing", "_law_kind"] (defScope sLIsWorth) := ⟨rfl, rfl, rfl, by decide +kernel, rfl, by decide +kernel, by decide +kernel⟩
/-- as many whole numbers, asked one by one -/
theorem da_all {H : Hp} {z : Int} : ∀ {xs : List V} {ds : List PyData}, DaAll H xs ds → (xs.all fun y => wholeB y 0 (topW z)) = ds.all fun e => wholeD e 0 (topW z)
  | _, _, .nil => rfl
  | _, _, .cons h r => by rw [List.all_cons, List.all_cons, da_all r, h.whole]
def spLWorth (K : PySem.W.Frag) : Sp := fun vs H Q _ => ∃ (x k : V) (o : Option PyData) (e : PyData), vs = [x, k] ∧ Th K H x o ∧ Da H k e ∧ kindD e = true ∧ ∀ H', Same H H' → Q (.bl (worthO o e)) H'
theorem ok_lisworth {f fn : Addr} {fd dn : FuncData} (F : Fun K "_law_is_worth" "_law_is_worth" sLIsWorth f fd) (Dn : Df K mg "_law_is_number" fn dn nLNum) (Gn : FnOk P w K mg base CX0 1 fn dn nLNum (spWhole K)) (mi : mg "isinstance" = none) (mt : mg "tuple" = none) (ml : mg "len" = none) :
    FnOk P w K mg base CX0 2 f fd ["_law_thing", "_law_kind"] (spLWorth K) := by
  refine F.ok scLIsWorth (fun vs H Q E h => ?_) (fun cdv A outer s H vs Q E hr h => ?_)
  · obtain ⟨x, k, o, e, rfl, _⟩ := h
    rfl
  · obtain ⟨x, k, o, e, rfl, th, db, hk, q⟩ := h
    refine ⟨_, (pss_cons (ps_if (pt_not (pt_val (pe_callB call_isB (by rfl) mi (by decide +kernel) (pa_cons (pv 1) (pa_cons (pe_bltn (v := .ty "tuple") (by rfl) mt (by decide +kernel) rfl) pa_nil))))) (pss_one (ps_ret (pe_call Gn hr (by rfl) Dn.at_ Dn.kp Dn.bd .nil pass0 (pa_cons (pv 0) (pa_cons pe_int (pa_cons (pe_op op_sub (pe_op op_shl pe_int (pv 1)) pe_int) pa_nil)))))) pss_nil)
        (pss_cons (ps_if (PW.pt (pw_or (pt_not (pt_val (pe_callB call_isB (by rfl) mi (by decide +kernel) (pa_cons (pv 0) (pa_cons (pe_bltn (v := .ty "tuple") (by rfl) mt (by decide +kernel) rfl) pa_nil))))) (pw_or1 (pt_cmpR op_ne (pe_callB call_len_seq (by rfl) ml PySem.boot_len (pa_cons (pv 0) pa_nil)) (pe_ix ix_tup (pv 1) pe_int (fun _ _ => rfl)) (nomark _))))) (pss_one (ps_ret pe_bl)) pss_nil)
        (pss_one (ps_ret (pe_cmpR (op_eqNil hr.units) (pe_lc (own := [("_law_one", 2)]) (g := gName 2) (tt := _) rfl scLIsWorth.nd (pi_tup (pv 0)) (blkOk_by (N := nLIsWorth) (sc := defScope sLIsWorth) (by decide +kernel)) (fun _ _ _ _ _ => pg_name (i := 2) scLIsWorth.nd rfl (Or.inl rfl)) (fun _ _ _ _ _ => (pts_one (pt_not (pt_val (pe_call Gn hr (by rfl) Dn.at_ Dn.kp Dn.bd .nil pass0 (pa_cons (pv 2) (pa_cons pe_int (pa_cons (pe_op op_sub (pe_op op_shl pe_int (pe_ix (ixT (K := K) rfl) (pv 1) pe_int (fun _ _ => rfl))) pe_int) pa_nil)))))))) (fun _ _ _ _ _ => (pv 2))) (pe_lst pa_nil) (nomark _)))))), ?_⟩
    refine ⟨_, rfl, kn_is (n := tyD e) db.kn (by decide) ⟨_, rfl, ?_⟩⟩
    rcases kind_inv hk with ⟨z, rfl, z1, z8⟩ | ⟨m, z, rfl, m2, m4, z1, z8⟩
    · cases db
      refine iteT ⟨_, rfl, _, rfl, _, _, rfl, rfl, ⟨by omega, by omega, by decide⟩, _, _, rfl, rfl, x, _, 0, _, rfl, th.kn, ?_⟩
      rw [Int.one_mul]
      have e1 : wholeB x 0 (2 ^ z.toNat - 1) = worthO o (.int z) := by
        cases th with
        | dat da => exact da.whole 0 (topW z)
        | exc h k => rfl
      rw [e1]
      exact q _ (Same.refl _)
    · obtain ⟨kb, ks, rfl, hkb, -, rk⟩ := db.tup_inv
      cases rk with
      | cons r1 rk =>
        cases rk with
        | cons r2 rk =>
          cases rk
          cases r1
          cases r2
          refine iteF ?_
          refine ⟨_, rfl, kn_is th.kn (by decide) ⟨_, rfl, ?_⟩⟩
          cases th with
          | exc h k => exact iteT (q _ (Same.refl _))
          | dat da =>
          cases da with
          | @tup a xs ds h l r =>
            refine iteF ?_
            refine ⟨_, rfl, a, xs, rfl, .inr (SqT.of h), _, rfl, kb, _, 0, _, rfl, rfl, SqT.of hkb, rfl, rfl, _, rfl, ?_⟩
            have w0 : worthO (some (.tuple ds)) (.tuple [.int m, .int z]) = (decide ((ds.length : Int) = m) && ds.all fun e => wholeD e 0 (topW z)) := rfl
            by_cases e2 : (xs.length : Int) = m
            · refine iteN (by rw [e2, decide_eq_true rfl]; rfl) ?_
              rw [w0, ← r.len, decide_eq_true e2, Bool.true_and, ← da_all r] at q
              refine ⟨_, rfl, a, rfl, ⟨xs, SqT.of h⟩, fun D hD => lc_tup (K := K) (a := a) (xs := xs) (fun i H' => Same H H' ∧ H' D = some (.lst ((xs.take i).filter fun y => !wholeB y 0 (topW z)))) ⟨same_new hD, upd_same⟩
                (fun i H' _ pv => SqT.of (pv.1 _ _ h)) (fun i y H' hy pv => ?_) fun H' pv => ?_⟩
              · obtain ⟨dy, hdy, day⟩ := r.get hy
                have hi := (List.getElem?_eq_some_iff.mp hy).1
                have ft := filter_take (p := fun y => !wholeB y 0 (topW z)) hy
                have day' := Da.same pv.1 dy y day
                refine ⟨rfl, _, rfl, _, rfl, kb, _, 1, _, rfl, rfl, SqT.of (pv.1 _ _ hkb), rfl, _, _, rfl, rfl, ⟨by omega, by omega, by decide⟩, _, _, rfl, rfl, y, _, 0, _, rfl, day'.kn, _, rfl, ?_⟩
                rw [Int.one_mul]
                show if (!wholeB y 0 (topW z)) = true then _ else _
                cases ew : wholeB y 0 (topW z) with
                | true => exact iteF ⟨pv.1, by rw [ft, ew, pv.2]; simp⟩
                | false =>
                  refine iteT ⟨_, rfl, _, pv.2, ?_, fun b o h => ?_, ?_⟩
                  · exact small1000 (Nat.le_trans (List.length_filter_le _ _) (by rw [List.length_take]; omega))
                  · rw [upd_ne (ne_of_none h hD)]; exact pv.1 _ _ h
                  · rw [upd_same, ft, ew]; rfl
              · rw [List.take_length] at pv
                refine ⟨by show 0 ≤ sizeLine; decide, fun L hL => ⟨D, L, _, rfl, rfl, SqL.of ((same_new hL) _ _ pv.2), SqL.of upd_same, ?_⟩⟩
                rw [filter_empty]
                exact q _ (pv.1.trans (same_new hL))
            · have nl : ¬ V.int ((xs.length : Nat) : Int) = V.int m := fun z => e2 (V.int.inj z)
              refine iteB (by rw [decide_eq_false nl]; rfl) ?_
              rw [w0, ← r.len, decide_eq_false e2, Bool.false_and] at q
              exact q _ (Same.refl _)
          | _ => exact iteT (q _ (Same.refl _))
end
end A1
end Bf

namespace Bf
open PySem PySem.Spec PyProof.Rows L2
theorem cntK {X : Cx} {K : PySem.W.Frag} (h : X.K = K) : MtR X "list.count" (rCntS K) := by subst h; exact mt_lcountS
section
variable {X : Cx} {K : PySem.W.Frag} {T id : String} {name : Str} {r : V → List V → Hp → VK → Prop} {o e : Expr} {es : List Expr} {to : TE} {t : TA} {apos cpos : Pos}
/-- a method's call in a block: the reading names the written part itself -/
theorem pe_bmK (h : X.K = K) (pa : PlainAttrs T) (slot : Slot T name id) (hty : typeOf (.builtin id) = pure (.type "method_descriptor")) (hm : MtR X id r) (ho : PE X o to) (ha : PA X (e :: es) t)
    (hb : attributeBase o name X.env (eval o X.env) = eval o X.env := by rfl)
    (hf : ((backTo cpos (starEach (e :: es) X.env)).all (fun x => !x.1) && (backToKw cpos (keywordEach [] X.env)).all (fun x => x.1.isSome) && decide ((e :: es).length + ([] : List Keyword).length + (if ([] : List Keyword).isEmpty then 0 else 1) < 30)) = true := by rfl)
    (hl : (apos.endLine == cpos.line) = true := by rfl) (hs : starEach (e :: es) X.env = (false, eval e X.env) :: starEach es X.env := by rfl) (hp : (backTo cpos (starEach es X.env)).any (·.1) = false := by rfl) :
    PE X (.Call (.Attribute o name apos) (e :: es) [] cpos) (tBM K T r to t) := by subst h; exact pe_bm pa slot hty hm ho ha hb hf hl hs hp
end
theorem count_nodup (l : List Str) : (l.filter fun z => decide (((l.count z : Nat) : Int) > 1)).isEmpty = decide l.Nodup := by
  by_cases nd : l.Nodup
  · rw [decide_eq_true nd, List.isEmpty_iff, List.filter_eq_nil_iff]
    intro a _ z
    have := List.nodup_iff_count.mp nd a
    have z' := of_decide_eq_true z
    omega
  · rw [decide_eq_false nd, Bool.eq_false_iff]
    intro z
    refine nd (List.nodup_iff_count.mpr fun a => ?_)
    rcases Nat.lt_or_ge 1 (l.count a) with h | h
    · have ma : a ∈ l := List.count_pos_iff.mp (by omega)
      have mf : a ∈ l.filter fun z => decide (((l.count z : Nat) : Int) > 1) := List.mem_filter.mpr ⟨ma, decide_eq_true (by omega)⟩
      rw [List.isEmpty_iff.mp z] at mf
      cases mf
    · exact h
theorem cond_not {u v : PyData} : condD (.tuple [u, v]) = (nameD u && wholeD v 0 1) := rfl
theorem cond_len {ds : List PyData} (h : ds.length ≠ 2) : condD (.tuple ds) = false := by
  match ds, h with
  | [], _ => rfl
  | [_], _ => rfl
  | [_, _], h => exact absurd rfl h
  | _ :: _ :: _ :: _, _ => rfl
namespace A1
section
variable {P : Program} {w : World} {K : PySem.W.Frag} {mg : Str → Option Value} {base : Heap}
abbrev nLClock : List Str := ["_law_thing", "_law_names", "_law_one", "_law_name"]
theorem scLClock : FnScope nLClock ["_law_thing"] (defScope sLIsClock) := ⟨rfl, rfl, rfl, by decide +kernel, rfl, by decide +kernel, by decide +kernel⟩
set_option maxHeartbeats 1000000 in
theorem ok_lclock {f fn fw : Addr} {fd dn dw : FuncData} (F : Fun K "_law_is_clock" "_law_is_clock" sLIsClock f fd) (Dn : Df K mg "_law_is_name" fn dn ["_law_thing"]) (Gn : FnOk P w K mg base CX0 1 fn dn ["_law_thing"] (spName K))
    (Dw : Df K mg "_law_is_number" fw dw nLNum) (Gw : FnOk P w K mg base CX0 1 fw dw nLNum (spWhole K)) (mi : mg "isinstance" = none) (mt : mg "tuple" = none) (ml : mg "len" = none) : FnOk P w K mg base CX0 2 f fd ["_law_thing"] (spClock K) := by
  refine F.ok scLClock (fun vs H Q E h => ?_) (fun cdv A outer s H vs Q E hr h => ?_)
  · obtain ⟨x, o, rfl, _⟩ := h
    rfl
  · obtain ⟨x, o, rfl, th, q⟩ := h
    refine ⟨_, (pss_cons (ps_if (PW.pt (pw_or (pt_not (pt_val (pe_callB call_isB (by rfl) mi (by decide +kernel) (pa_cons (pv 0) (pa_cons (pe_bltn (v := .ty "tuple") (by rfl) mt (by decide +kernel) rfl) pa_nil)))))
        (pw_or1 (pt_cmpR op_gt (pe_callB call_len_seq (by rfl) ml PySem.boot_len (pa_cons (pv 0) pa_nil)) pe_int (nomark _))))) (pss_one (ps_ret pe_bl)) pss_nil)
      (pss_cons (ps_set (i := 1) scLClock.nd rfl (Or.inr rfl) (pe_lst pa_nil))
      (pss_cons (ps_for PassesOwn.never rfl (pi_tup (pv 0)) (pg_name (i := 2) scLClock.nd rfl (Or.inl rfl))
        (pss_cons (ps_if (PW.pt (pw_or (pt_not (pt_val (pe_callB call_isB (by rfl) mi (by decide +kernel) (pa_cons (pv 2) (pa_cons (pe_bltn (v := .ty "tuple") (by rfl) mt (by decide +kernel) rfl) pa_nil)))))
          (pw_or (pt_cmpR op_ne (pe_callB call_len_seq (by rfl) ml PySem.boot_len (pa_cons (pv 2) pa_nil)) pe_int (nomark _))
          (pw_or (pt_not (pt_val (pe_call Gn hr (by rfl) Dn.at_ Dn.kp Dn.bd .nil pass0 (pa_cons (pe_ix ix_tup (pv 2) pe_int (fun _ _ => rfl)) pa_nil))))
          (pw_or1 (pt_not (pt_val (pe_call Gw hr (by rfl) Dw.at_ Dw.kp Dw.bd .nil pass0 (pa_cons (pe_ix ix_tup (pv 2) pe_int (fun _ _ => rfl)) (pa_cons pe_int (pa_cons pe_int pa_nil))))))))))) (pss_one (ps_ret pe_bl)) pss_nil)
        (pss_one (ps_expr (pe_bm PySem.F.plainAttrs_list PySem.F.slot_list_append PySem.F.type_list_append mt_append (pv 1) (pa_cons (pe_ix ix_tup (pv 2) pe_int (fun _ _ => rfl)) pa_nil))))))
      (pss_one (ps_ret (pe_cmpR (op_eqNil hr.units) (pe_lc (own := [("_law_name", 3)]) (g := gName 3) (tt := _) rfl scLClock.nd (pi_list (pv 1)) (blkOk_by (N := nLClock) (sc := defScope sLIsClock) (by decide +kernel)) (fun _ _ _ _ _ => pg_name (i := 3) scLClock.nd rfl (Or.inl rfl))
          (fun _ _ _ _ _ => (pts_one (pt_cmpR op_gt (pe_bmK (K := K) rfl PySem.F.plainAttrs_list PySem.F.slot_list_count PySem.F.type_list_count (cntK (K := K) rfl) (pv 1) (pa_cons (pv 3) pa_nil)) pe_int (nomark _)))) (fun _ _ _ _ _ => (pv 3))) (pe_lst pa_nil) (nomark _))))))), ?_⟩
    refine ⟨_, rfl, kn_is th.kn (by decide) ⟨_, rfl, ?_⟩⟩
    rw [isN_tup]
    cases th with
    | exc h k => exact iteT (q _ (Same.refl _))
    | dat da =>
    cases da with
    | @tup a xs ds h l r =>
      have q : ∀ H', Same H H' → Q (.bl (clockD (.tuple ds))) H' := q
      have q0 : clockD (.tuple ds) = (decide (ds.length ≤ 3) && (ds.all condD && decide ((ds.map cname).Nodup))) := rfl
      rw [q0] at q
      have ln := r.len
      refine iteF ⟨_, rfl, a, xs, rfl, .inr (SqT.of h), _, _, rfl, rfl, _, rfl, ?_⟩
      by_cases h3 : ds.length ≤ 3
      · refine iteN (decide_eq_false (by omega)) ?_
        rw [decide_eq_true h3, Bool.true_and] at q
        refine ⟨by show 0 ≤ sizeLine; decide, fun L hL => ?_⟩
        refine ⟨_, rfl, a, rfl, ⟨xs, SqT.of ((same_new hL) _ _ h)⟩, for_tup (K := K) (a := a) (xs := xs) (fun i σ G => (∃ v2 v3, σ = [some (.ref a), some (.ref L), v2, v3]) ∧ Same H G ∧ (ds.take i).all condD = true ∧ G L = some (.lst (((ds.take i).map cname).map V.str)))
          ⟨⟨_, _, rfl⟩, same_new hL, rfl, upd_same⟩ (fun i σ G _ pv => SqT.of (pv.2.1 _ _ h)) (fun i y σ G hy pv => ?_) fun σ G pv => ?_⟩
        · obtain ⟨⟨v2, v3, rfl⟩, sG, al, gL⟩ := pv
          obtain ⟨d, hd, day0⟩ := r.get hy
          have day := Da.same sG _ _ day0
          have hi := (List.getElem?_eq_some_iff.mp hd).1
          have no : condD d = false → ds.all condD = false := fun e => by
            rw [Bool.eq_false_iff]
            intro z
            have := List.all_eq_true.mp z d (List.mem_of_getElem? hd)
            rw [e] at this
            cases this
          have out : condD d = false → ∀ G', Same H G' → Q (.bl false) G' := fun e G' s' => by
            have := q G' s'
            rw [no e, Bool.false_and] at this
            exact this
          refine ⟨_, rfl, kn_is (n := tyD d) day.kn (by decide) ⟨_, rfl, ?_⟩⟩
          rw [isN_tup]
          cases day with
          | @tup b ys es hb lb rb =>
            refine iteF ⟨_, rfl, b, ys, rfl, .inr (SqT.of hb), rfl, _, rfl, ?_⟩
            have lnb := rb.len
            by_cases e2 : ys.length = 2
            · match ys, e2, rb with
              | [u, v], _, .cons (d := du) h1 (.cons (d := dv) h2 .nil) =>
                refine iteN (by rfl) ?_
                refine ⟨_, rfl, b, _, 0, _, rfl, rfl, SqT.of hb, rfl, u, some du, rfl, .dat h1, fun G1 s1 => ⟨_, rfl, ?_⟩⟩
                by_cases w1 : nameD du = true
                · refine iteN (by show (!nameD du) = false; rw [w1]; rfl) ?_
                  refine ⟨_, rfl, b, _, 1, _, rfl, rfl, SqT.of (s1 _ _ hb), rfl, v, _, 0, 1, rfl, kn_same s1 h2.kn, _, rfl, ?_⟩
                  rw [h2.whole]
                  by_cases w2 : wholeD dv 0 1 = true
                  · refine iteN (by rw [w2]; rfl) ?_
                    have ec : condD (.tuple [du, dv]) = true := by rw [cond_not, w1, w2]; rfl
                    obtain ⟨z, t, ez, _, _⟩ := cond_inv ec
                    cases ez
                    have hu := h1.str_inv
                    subst hu
                    refine ⟨_, rfl, .inl ⟨rfl, _, SqL.of (s1 _ _ gL)⟩, _, rfl, b, _, 0, _, rfl, rfl, SqT.of (s1 _ _ hb), rfl, L, _, _, rfl, rfl, s1 _ _ gL, ?_, ?_⟩
                    · rw [List.length_map, List.length_map, List.length_take, sizeLine_eq]
                      omega
                    · refine ⟨⟨_, _, rfl⟩, fun c o e => ?_, ?_, ?_⟩
                      · rw [upd_ne (ne_of_none e hL)]
                        exact s1 _ _ (sG _ _ e)
                      · rw [List.take_add_one, hd, List.all_append, al]
                        show (true && ([PyData.tuple [.str z, dv]].all condD)) = true
                        rw [List.all_cons, ec]
                        rfl
                      · rw [upd_same, List.take_add_one, hd, List.map_append, List.map_append]
                        rfl
                  · have e : condD (.tuple [du, dv]) = false := by rw [cond_not, Bool.eq_false_iff.mpr w2, Bool.and_false]
                    exact iteB (by rw [Bool.eq_false_iff.mpr w2]; rfl) (out e _ (sG.trans s1))
                · have e : condD (.tuple [du, dv]) = false := by rw [cond_not, Bool.eq_false_iff.mpr w1, Bool.false_and]
                  exact iteB (by show (!nameD du) = true; rw [Bool.eq_false_iff.mpr w1]; rfl) (iteT (out e _ (sG.trans s1)))
            · have nl : ¬ V.int ((ys.length : Nat) : Int) = V.int 2 := fun z => e2 (by have := V.int.inj z; omega)
              exact iteB (by rw [decide_eq_false nl]; rfl) (iteT (out (cond_len (by omega)) _ sG))
          | _ => exact iteT (iteT (out rfl _ sG))
        · obtain ⟨⟨v2, v3, rfl⟩, sG, al, gL⟩ := pv
          rw [ln, List.take_length] at al gL
          rw [al, Bool.true_and] at q
          refine ⟨_, rfl, L, rfl, ⟨_, SqL.of gL⟩, fun D hD => lc_list (K := K) (a := L) (xs := (ds.map cname).map V.str) (fun i G' => Same H G' ∧ G' L = some (.lst ((ds.map cname).map V.str)) ∧ G' D = some (.lst ((((ds.map cname).take i).filter fun z => decide ((((ds.map cname).count z : Nat) : Int) > 1)).map V.str)))
            ⟨sG.trans (same_new hD), (same_new hD) _ _ gL, upd_same⟩ (fun i G' _ pv => SqL.of pv.2.1) (fun i y G' hy pv => ?_) fun G' pv => ?_⟩
          · obtain ⟨sG', gL', gD'⟩ := pv
            rw [List.getElem?_map] at hy
            cases hz : (ds.map cname)[i]? with
            | none => rw [hz] at hy; cases hy
            | some z =>
              rw [hz] at hy
              cases hy
              have ft := filter_take (p := fun z => decide ((((ds.map cname).count z : Nat) : Int) > 1)) hz
              have hi := (List.getElem?_eq_some_iff.mp hz).1
              rw [List.length_map] at hi
              have nDL : L ≠ D := fun e => by rw [e, (show G D = none from hD)] at gL; cases gL
              refine ⟨rfl, _, rfl, .inl ⟨rfl, _, SqL.of gL'⟩, _, rfl, L, _, z, rfl, rfl, SqL.of gL', _, _, rfl, rfl, _, rfl, ?_⟩
              by_cases c : (((ds.map cname).count z : Nat) : Int) > 1
              · refine iteB (decide_eq_true c) ⟨_, rfl, _, gD', ?_, fun b o e => ?_, ?_, ?_⟩
                · rw [List.length_map]
                  exact small1000 (Nat.le_trans (List.length_filter_le _ _) (by rw [List.length_take]; omega))
                · rw [upd_ne (ne_of_none e (sG.free hD))]
                  exact sG' _ _ e
                · rw [upd_ne nDL]
                  exact gL'
                · rw [upd_same, ft, decide_eq_true c, List.map_append]
                  rfl
              · refine iteN (decide_eq_false c) ⟨sG', gL', ?_⟩
                rw [ft, decide_eq_false c, gD']
                simp
          · obtain ⟨sG', gL', gD'⟩ := pv
            rw [List.length_map, List.take_length] at gD'
            refine ⟨by show 0 ≤ sizeLine; decide, fun M hM => ⟨D, M, _, rfl, rfl, SqL.of ((same_new hM) _ _ gD'), SqL.of upd_same, ?_⟩⟩
            rw [List.isEmpty_map, count_nodup]
            exact q _ (sG'.trans (same_new hM))
      · refine iteB (decide_eq_true (by omega)) ?_
        rw [decide_eq_false h3, Bool.false_and] at q
        exact q _ (Same.refl _)
    | _ => exact iteT (q _ (Same.refl _))
end
end A1
end Bf

namespace Bf
open PySem PySem.Spec PyProof.Rows L2
/-- the law's purse: a list of three numbers -/
def Purse (H : Hp) (p : Addr) (n : Int) : Prop := ∃ x y z : Int, H p = some (.lst [.int x, .int y, .int z]) ∧ 0 ≤ y ∧ y < 2147483629 ∧ 0 ≤ z ∧ z ≤ n
theorem Purse.mono {H : Hp} {p : Addr} {n m : Int} (h : Purse H p n) (l : n ≤ m) : Purse H p m := let ⟨x, y, z, a, b, c, d, e⟩ := h; ⟨x, y, z, a, b, c, d, Int.le_trans e l⟩
theorem Purse.of {H H' : Hp} {p : Addr} {n : Int} (h : Purse H p n) (e : H' p = H p) : Purse H' p n := let ⟨x, y, z, a, b⟩ := h; ⟨x, y, z, e.trans a, b⟩
/-- all that was tracked, but at p, is as it was -/
def SameX (p : Addr) (H H' : Hp) : Prop := ∀ b o, b ≠ p → H b = some o → H' b = some o
def spCell (K : PySem.W.Frag) : Sp := fun vs H Q _ => ∃ (a : Addr) (ns : List Int) (i : Int), vs = [.ref a, .int i] ∧ SqL K H a (ns.map V.int) ∧ 0 ≤ i ∧ i ≤ 100 ∧ ∀ z, Q (.int z) H
def spPurse : Sp := fun vs H Q _ => ∃ z : Int, vs = [.int z] ∧ ∀ p H', H p = none → p ≠ sysModules → (∀ b, b ≠ p → H' b = H b) → Purse H' p 0 → Q (.ref p) H'
def spTake : Sp := fun vs H Q _ => ∃ (p : Addr) (m n : Int), vs = [.ref p, .int m] ∧ Purse H p n ∧ n ≤ 100000 ∧ 0 < m ∧ m < 1000000 ∧ ∀ d H', 0 ≤ d → d < m → Purse H' p (n + 1) → (∀ b, b ≠ p → H' b = H b) → Q (.int d) H'

namespace A1
section
variable {P : Program} {w : World} {K : PySem.W.Frag} {mg : Str → Option Value} {base : Heap}
theorem scCell : FnScope ["_law_script", "_law_k"] ["_law_script", "_law_k"] (defScope sCell) := ⟨rfl, rfl, rfl, by decide +kernel, rfl, by decide +kernel, by decide +kernel⟩
theorem ok_cell {f : Addr} {fd : FuncData} (F : Fun K "_law_cell" "_law_cell" sCell f fd) (ml : mg "len" = none) : FnOk P w K mg base CX0 1 f fd ["_law_script", "_law_k"] (spCell K) := by
  refine F.ok scCell (fun vs H Q E h => ?_) (fun cdv A outer s H vs Q E hr h => ?_)
  · obtain ⟨a, ns, i, rfl, _⟩ := h
    rfl
  · obtain ⟨a, ns, i, rfl, hS, h0, h1, q⟩ := h
    refine ⟨_, pss_cons (ps_if (pt_cmpR op_lt (pv 1) (pe_callB call_len_seq (by rfl) ml PySem.boot_len (pa_cons (pv 0) pa_nil)) (nomark _)) (pss_one (ps_ret (pe_ix ix_list (pv 0) (pv 1) (fun _ _ => rfl)))) pss_nil)
      (pss_one (ps_ret (pe_op op_add (pe_op op_mul pe_int (pv 1)) pe_int))), ?_⟩
    refine ⟨_, rfl, _, rfl, a, _, rfl, .inl hS, _, _, rfl, rfl, _, rfl, ite2 (fun c => ?_) (fun c => ?_)⟩
    · have lt : i < (((ns.map V.int).length : Nat) : Int) := of_decide_eq_true c
      rw [List.length_map] at lt
      have lt' : i.toNat < ns.length := by omega
      refine ⟨_, rfl, _, rfl, a, _, i, .int ns[i.toNat], rfl, rfl, hS, ?_, q _⟩
      have e : atI (ns.map V.int) ((i.toNat : Nat) : Int) = some (V.int ns[i.toNat]) := atI_nat (by rw [List.getElem?_map, List.getElem?_eq_getElem lt']; rfl)
      rw [← e]
      congr 1
      omega
    · exact ⟨_, rfl, _, _, rfl, rfl, .inl ⟨by decide, by decide⟩, _, _, rfl, rfl, q _⟩
theorem scPurse : FnScope ["_law_cell_here"] ["_law_cell_here"] (defScope sPurse) := ⟨rfl, rfl, rfl, by decide +kernel, rfl, by decide +kernel, by decide +kernel⟩
theorem ok_purse {f : Addr} {fd : FuncData} (F : Fun K "_law_purse" "_law_purse" sPurse f fd) (mx : mg "max" = none) : FnOk P w K mg base CX0 1 f fd ["_law_cell_here"] spPurse := by
  refine F.ok scPurse (fun vs H Q E h => ?_) (fun cdv A outer s H vs Q E hr h => ?_)
  · obtain ⟨z, rfl, _⟩ := h
    rfl
  · obtain ⟨z, rfl, q⟩ := h
    refine ⟨_, pss_one (ps_ret (pe_lstN (pa_cons (pe_callB (call_max2 rfl) (by rfl) mx (by decide +kernel) (pa_cons pe_int (pa_cons (pe_op op_sub (pv 0) (pe_op op_pow pe_int pe_int)) pa_nil)))
      (pa_cons (pe_op op_mod (pv 0) pe_int) (pa_cons pe_int pa_nil))))), ?_⟩
    refine ⟨_, rfl, _, _, rfl, rfl, ⟨by decide, by decide, by decide⟩, _, _, rfl, rfl, _, _, rfl, _, rfl, _, _, rfl, rfl, (by show (0 : Int) < 2147483629; decide), by show 3 ≤ 1000; decide, fun p hp np => ?_⟩
    refine q p _ hp np (fun b hb => upd_ne hb) ⟨_, _, _, upd_same, Int.emod_nonneg _ (by decide), Int.emod_lt_of_pos _ (by decide), Int.le_refl _, Int.le_refl _⟩
theorem scTake : FnScope ["_law_purse_here", "_law_many", "_law_digit", "_law_one", "_law_other"] ["_law_purse_here", "_law_many"] (defScope sTake) := ⟨rfl, rfl, rfl, by decide +kernel, rfl, by decide +kernel, by decide +kernel⟩
theorem ok_take {f : Addr} {fd : FuncData} (F : Fun K "_law_take" "_law_take" sTake f fd) : FnOk P w K mg base CX0 1 f fd ["_law_purse_here", "_law_many"] spTake := by
  refine F.ok scTake (fun vs H Q E h => ?_) (fun cdv A outer s H vs Q E hr h => ?_)
  · obtain ⟨p, m, n, rfl, _⟩ := h
    rfl
  · obtain ⟨p, m, n, rfl, ⟨x, y, z, hp, y0, y1, z0, z1⟩, n1, m0, m1, q⟩ := h
    refine ⟨_, pss_cons (ps_if (pt_cmpR op_gt (pe_ix ix_list (pv 0) pe_int (fun _ _ => rfl)) pe_int (nomark _))
        (pss_cons (ps_set (i := 2) scTake.nd rfl (Or.inl rfl) (pe_op op_mod (pe_ix ix_list (pv 0) pe_int (fun _ _ => rfl)) (pv 1)))
        (pss_cons (ps_asg (pe_op op_fdiv (pe_ix ix_list (pv 0) pe_int (fun _ _ => rfl)) (pv 1)) (pg_sub (pv 0) pe_int set_list)) (pss_one (ps_ret (pv 2))))) pss_nil)
      (pss_cons (ps_asg (pe_op op_add (pe_ix ix_list (pv 0) pe_int (fun _ _ => rfl)) pe_int) (pg_sub (pv 0) pe_int set_list))
      (pss_cons (ps_set (i := 3) scTake.nd rfl (Or.inl rfl) (pe_op op_mod (pe_op op_pow (pe_op op_add (pe_op op_add (pe_ix ix_list (pv 0) pe_int (fun _ _ => rfl)) (pe_op op_mul pe_int (pe_ix ix_list (pv 0) pe_int (fun _ _ => rfl)))) pe_int) pe_int) pe_int))
      (pss_cons (ps_set (i := 4) scTake.nd rfl (Or.inl rfl) (pe_op op_mod (pe_op op_pow (pe_op op_add (pe_op op_mul (pe_ix ix_list (pv 0) pe_int (fun _ _ => rfl)) (pe_ix ix_list (pv 0) pe_int (fun _ _ => rfl))) pe_int) pe_int) pe_int))
      (pss_one (ps_ret (pe_op op_mod (pe_op op_fdiv (pe_op op_add (pe_op op_mul (pv 3) pe_int) (pv 4)) pe_int) (pv 1))))))), ?_⟩
    have L := SqL.of (K := K) hp
    refine ⟨_, rfl, p, _, 0, _, rfl, rfl, L, rfl, _, _, rfl, rfl, _, rfl, ite2 (fun _ => ?_) (fun _ => ?_)⟩
    · refine ⟨_, rfl, p, _, 0, _, rfl, rfl, L, rfl, _, rfl, _, _, rfl, rfl, m0, ?_⟩
      refine ⟨_, rfl, p, _, 0, _, rfl, rfl, L, rfl, _, rfl, _, _, rfl, rfl, ⟨m0, by omega⟩, _, rfl, p, _, 0, 0, rfl, rfl, hp, rfl, ?_⟩
      exact ⟨_, rfl, q _ _ (Int.emod_nonneg _ (by omega)) (Int.emod_lt_of_pos _ m0) ⟨_, _, _, upd_same, y0, y1, z0, by omega⟩ fun b hb => upd_ne hb⟩
    · refine ⟨_, rfl, p, _, 2, _, rfl, rfl, L, rfl, _, _, rfl, rfl, _, rfl, p, _, 2, 2, rfl, rfl, hp, rfl, ?_⟩
      have L2 : SqL K (upd H p (.lst [.int x, .int y, .int (z + 1)])) p [.int x, .int y, .int (z + 1)] := SqL.of upd_same
      have b1 : (y + 6007 * (z + 1) + 29).natAbs < 2 ^ 64 := by omega
      have b2 : (y * (z + 1) + 91193).natAbs < 2 ^ 64 := by
        have h1 : 0 ≤ y * (z + 1) := Int.mul_nonneg y0 (by omega)
        have h2 : y * (z + 1) ≤ 2147483629 * 100001 := Int.mul_le_mul (by omega) (by omega) (by omega) (by decide)
        omega
      refine ⟨_, rfl, p, _, 1, _, rfl, rfl, L2, rfl, _, rfl, p, _, 2, _, rfl, rfl, L2, rfl, _, _, rfl, rfl, .inl ⟨by decide, by decide⟩, _, _, rfl, rfl, _, _, rfl, rfl, _, _, rfl, rfl, ⟨by decide, by decide, b1⟩, _, _, rfl, rfl, (by show (0 : Int) < 2147483647; decide), ?_⟩
      refine ⟨_, rfl, p, _, 1, _, rfl, rfl, L2, rfl, _, rfl, p, _, 2, _, rfl, rfl, L2, rfl, _, _, rfl, rfl, .inl ⟨by omega, by omega⟩, _, _, rfl, rfl, _, _, rfl, rfl, ⟨by decide, by decide, b2⟩, _, _, rfl, rfl, (by show (0 : Int) < 2147483587; decide), ?_⟩
      refine ⟨_, rfl, _, _, rfl, rfl, .inr ⟨by decide, by decide⟩, _, rfl, _, _, rfl, rfl, _, _, rfl, rfl, ⟨by decide, by decide⟩, _, rfl, _, _, rfl, rfl, m0, ?_⟩
      exact q _ _ (Int.emod_nonneg _ (by omega)) (Int.emod_lt_of_pos _ m0) ⟨_, _, _, upd_same, y0, y1, by omega, by omega⟩ fun b hb => upd_ne hb
end
/-! ### data of bounded size -/
def strOk (z : Str) : Bool := (z.cps.toList.all fun c => decide (c < 16 ^ 8)) && decide (z.cps.size ≤ 40)
def intOk (i : Int) : Prop := i.natAbs < 10 ^ 12 ∨ i = 10 ^ 29 ∨ i = 0 - 10 ^ 29
/-- nested at most k deep, at most w things each -/
def fit (w : Nat) : Nat → PyData → Prop
  | _, .none => True
  | _, .bool _ => True
  | _, .int i => intOk i
  | _, .str z => strOk z = true
  | k + 1, .list ds => ds.length ≤ w ∧ ∀ d ∈ ds, fit w k d
  | k + 1, .tuple ds => ds.length ≤ w ∧ ∀ d ∈ ds, fit w k d
  | _ + 1, .dict kv => kv = []
  | 0, .list _ => False
  | 0, .tuple _ => False
  | 0, .dict _ => False
theorem fit_tup {w k : Nat} {ds : List PyData} : fit w (k + 1) (.tuple ds) ↔ ds.length ≤ w ∧ ∀ d ∈ ds, fit w k d := by rw [fit]
theorem fit_lst {w k : Nat} {ds : List PyData} : fit w (k + 1) (.list ds) ↔ ds.length ≤ w ∧ ∀ d ∈ ds, fit w k d := by rw [fit]
theorem fit_mono {w w' : Nat} (hw : w ≤ w') : ∀ {k k' : Nat} (d : PyData), k ≤ k' → fit w k d → fit w' k' d
  | k, k', .none, _, _ => by cases k' <;> simp only [fit]
  | k, k', .bool _, _, _ => by cases k' <;> simp only [fit]
  | k, k', .int i, _, h => by
    have h' : intOk i := by cases k <;> simpa only [fit] using h
    cases k' <;> simpa only [fit] using h'
  | k, k', .str z, _, h => by
    have h' : strOk z = true := by cases k <;> simpa only [fit] using h
    cases k' <;> simpa only [fit] using h'
  | 0, _, .list _, _, h => by simp only [fit] at h
  | 0, _, .tuple _, _, h => by simp only [fit] at h
  | 0, _, .dict _, _, h => by simp only [fit] at h
  | k + 1, 0, _, hk, _ => absurd hk (by omega)
  | k + 1, k' + 1, .list ds, hk, h => by
    obtain ⟨a, b⟩ := fit_lst.mp h
    exact fit_lst.mpr ⟨Nat.le_trans a hw, fun d m => fit_mono hw d (Nat.le_of_succ_le_succ hk) (b d m)⟩
  | k + 1, k' + 1, .tuple ds, hk, h => by
    obtain ⟨a, b⟩ := fit_tup.mp h
    exact fit_tup.mpr ⟨Nat.le_trans a hw, fun d m => fit_mono hw d (Nat.le_of_succ_le_succ hk) (b d m)⟩
  | k + 1, k' + 1, .dict kv, hk, h => by
    simp only [fit] at h ⊢
    exact h
theorem fit_int {w k : Nat} {i : Int} : fit w k (.int i) ↔ intOk i := by cases k <;> simp only [fit]
theorem fit_str {w k : Nat} {z : Str} : fit w k (.str z) ↔ strOk z = true := by cases k <;> simp only [fit]
theorem fit_non {w k : Nat} : fit w k .none := by cases k <;> simp only [fit]
theorem fit_bl {w k : Nat} {b : Bool} : fit w k (.bool b) := by cases k <;> simp only [fit]
mutual
/-- no text that repr shows is longer -/
def sl : PyData → Nat
  | .none => 5
  | .bool _ => 6
  | .int i => (PyData.shown (.int i)).length + 1
  | .str z => 10 * z.cps.size + 3
  | .list ds => slA ds + 3
  | .tuple ds => slA ds + 3
  | .dict _ => 4
def slA : List PyData → Nat
  | [] => 0
  | d :: r => sl d + 2 + slA r
end
theorem sl_tup (ds : List PyData) : sl (.tuple ds) = slA ds + 3 := by simp only [sl]
theorem sl_lst (ds : List PyData) : sl (.list ds) = slA ds + 3 := by simp only [sl]
theorem slA_nil : slA [] = 0 := by simp only [slA]
theorem slA_cons (d : PyData) (r : List PyData) : slA (d :: r) = sl d + 2 + slA r := by simp only [slA]
theorem slA_app : ∀ a b : List PyData, slA (a ++ b) = slA a + slA b
  | [], b => by rw [List.nil_append, slA_nil, Nat.zero_add]
  | d :: r, b => by rw [List.cons_append, slA_cons, slA_cons, slA_app r b]; omega
theorem slA_le {n : Nat} : ∀ {l : List PyData}, (∀ d ∈ l, sl d ≤ n) → slA l ≤ (n + 2) * l.length
  | [], _ => by rw [slA_nil]; exact Nat.zero_le _
  | d :: r, h => by
    have h1 := h d List.mem_cons_self
    have h2 := slA_le (n := n) (l := r) fun x m => h x (List.mem_cons_of_mem _ m)
    rw [slA_cons, List.length_cons, Nat.mul_add]
    omega
theorem slA_mem {e : PyData} : ∀ {l : List PyData}, e ∈ l → sl e + 2 ≤ slA l
  | d :: r, m => by
    rw [slA_cons]
    rcases List.mem_cons.mp m with rfl | m
    · omega
    · have := slA_mem m; omega
theorem sl_int {i : Int} (h : i.natAbs < 10 ^ 12) : sl (.int i) ≤ 14 := by
  have := PyData.shown_int_le h
  simp only [sl]
  omega
theorem showAll {w k : Nat} (ih : ∀ d, fit w k d → d.showable = true ∧ d.depth ≤ k ∧ d.shown.length ≤ sl d) : ∀ {ds : List PyData}, (∀ d ∈ ds, fit w k d) →
    PyData.showableAll ds = true ∧ PyData.depthAll ds ≤ k ∧ ((PyData.shownAll ds).map (·.length)).sum + 2 * ds.length ≤ slA ds
  | [], _ => ⟨by simp only [PyData.showableAll], by simp only [PyData.depthAll]; omega, by simp only [PyData.shownAll, List.map_nil, List.sum_nil, List.length_nil, slA]; omega⟩
  | d :: r, h => by
    obtain ⟨a1, a2, a3⟩ := ih d (h d List.mem_cons_self)
    obtain ⟨b1, b2, b3⟩ := showAll ih (ds := r) fun x m => h x (List.mem_cons_of_mem _ m)
    simp only [PyData.showableAll, PyData.depthAll, PyData.shownAll, List.map_cons, List.sum_cons, List.length_cons, slA, a1, b1, Bool.and_self]
    exact ⟨trivial, Nat.max_le.mpr ⟨a2, b2⟩, by omega⟩
theorem fit_shows {w : Nat} : ∀ {k : Nat} (d : PyData), fit w k d → d.showable = true ∧ d.depth ≤ k ∧ d.shown.length ≤ sl d
  | k, .none, _ => ⟨by simp only [PyData.showable], by simp only [PyData.depth]; omega, by show 4 ≤ sl .none; simp only [sl]; omega⟩
  | k, .bool b, _ => ⟨by simp only [PyData.showable], by simp only [PyData.depth]; omega, by
      have e : (PyData.shown (.bool b)).length ≤ 5 := by cases b <;> decide
      simp only [sl]; omega⟩
  | k, .int i, h => by
    refine ⟨?_, by simp only [PyData.depth]; omega, by simp only [sl]; omega⟩
    rcases fit_int.mp h with h | rfl | rfl
    · have l : i.natAbs.log2 ≤ 40 := by
        rcases Nat.eq_zero_or_pos i.natAbs with z | z
        · rw [z]; decide
        · exact Nat.le_of_lt_succ ((Nat.log2_lt (by omega)).mpr (Nat.lt_trans h (by decide)))
      simp only [PyData.showable]; exact decide_eq_true (by omega)
    · decide +kernel
    · decide +kernel
  | k, .str z, h => by
    refine ⟨by simp only [PyData.showable], by simp only [PyData.depth]; omega, ?_⟩
    obtain ⟨a, b⟩ := Bool.and_eq_true_iff.mp (fit_str.mp h)
    have hx : ∀ c ∈ z.cps.toList, c < 16 ^ 8 := by simpa only [List.all_eq_true, decide_eq_true_eq] using a
    have e := StrLaws.reprText_len z hx
    have e2 : z.length = z.cps.size := rfl
    simp only [PyData.shown, sl]
    omega
  | 0, .list _, h => by simp only [fit] at h
  | 0, .tuple _, h => by simp only [fit] at h
  | 0, .dict _, h => by simp only [fit] at h
  | k + 1, .list ds, h => by
    obtain ⟨_, hd⟩ := fit_lst.mp h
    obtain ⟨a, b, c⟩ := showAll (fun d hd => fit_shows d hd) hd
    have h2 := listText_len_le (PyData.shownAll ds)
    have h3 := PyData.shownAll_length ds
    refine ⟨by simp only [PyData.showable]; exact a, by simp only [PyData.depth]; omega, ?_⟩
    simp only [PyData.shown, sl]
    omega
  | k + 1, .tuple ds, h => by
    obtain ⟨_, hd⟩ := fit_tup.mp h
    obtain ⟨a, b, c⟩ := showAll (fun d hd => fit_shows d hd) hd
    have h2 := tupleText_len_le (PyData.shownAll ds)
    have h3 := PyData.shownAll_length ds
    refine ⟨by simp only [PyData.showable]; exact a, by simp only [PyData.depth]; omega, ?_⟩
    simp only [PyData.shown, sl]
    omega
  | k + 1, .dict kv, h => by
    have e : kv = [] := by simpa only [fit] using h
    subst e
    refine ⟨?_, ?_, ?_⟩
    · simp only [PyData.showable, PyData.showableKv]
    · simp only [PyData.depth, PyData.depthKv]; omega
    · show (2 : Nat) ≤ sl (.dict []); simp only [sl]; omega
/-- tracked data are data -/
theorem sh_daAll {H : Hp} {P : Addr → Prop} {b : Bool} {w k : Nat} (ih : ∀ d v, fit w k d → Sh H P b v d → Da H v d) : ∀ {ds : List PyData} {vs : List V}, (∀ d ∈ ds, fit w k d) → ShAll H P b vs ds → DaAll H vs ds
  | [], _, _, h => by cases h; exact .nil
  | d :: r, _, hf, h => by
    cases h with
    | cons h1 h2 => exact .cons (ih d _ (hf d List.mem_cons_self) h1) (sh_daAll ih (fun x m => hf x (List.mem_cons_of_mem _ m)) h2)
theorem shAll_len {H : Hp} {P : Addr → Prop} {b : Bool} : ∀ {vs : List V} {ds : List PyData}, ShAll H P b vs ds → vs.length = ds.length
  | _, _, .nil => rfl
  | _, _, .cons _ r => congrArg (· + 1) (shAll_len r)
theorem sh_da {H : Hp} {P : Addr → Prop} {b : Bool} {w : Nat} (hw : w ≤ 1000) : ∀ {k : Nat} (d : PyData) (v : V), fit w k d → Sh H P b v d → Da H v d
  | _, .none, _, _, h => by cases h; exact .non
  | _, .bool _, _, _, h => by cases h; exact .bl _
  | _, .int _, _, _, h => by cases h; exact .int _
  | _, .str z, _, f, h => by
    cases h
    obtain ⟨a, b⟩ := Bool.and_eq_true_iff.mp (fit_str.mp f)
    have b := of_decide_eq_true b
    exact .str _ (by show z.cps.size ≤ 1000; omega)
  | 0, .list _, _, f, _ => by simp only [fit] at f
  | 0, .tuple _, _, f, _ => by simp only [fit] at f
  | 0, .dict _, _, f, _ => by simp only [fit] at f
  | k + 1, .list ds, _, f, h => by
    obtain ⟨l, hd⟩ := fit_lst.mp f
    cases h with
    | lst h _ _ r => exact .lst h (by rw [shAll_len r]; omega) (sh_daAll (fun d v f h => sh_da hw d v f h) hd r)
  | k + 1, .tuple ds, _, f, h => by
    obtain ⟨l, hd⟩ := fit_tup.mp f
    cases h with
    | tup h _ r => exact .tup h (by rw [shAll_len r]; omega) (sh_daAll (fun d v f h => sh_da hw d v f h) hd r)
  | k + 1, .dict kv, _, f, h => by
    cases h with
    | emp _ h _ => exact .emp h
mutual
/-- carried on: P may be sharpened by what is tracked -/
theorem Sh.on {H H' : Hp} {P P' : Addr → Prop} {b : Bool} (hp : ∀ a o, P a → H a = some o → P' a) (k : ∀ a o, P a → H a = some o → H' a = some o) : ∀ (d : PyData) (v : V), Sh H P b v d → Sh H' P' b v d
  | .none, _, h => by cases h; exact .non
  | .bool _, _, h => by cases h; exact .bl _
  | .int _, _, h => by cases h; exact .int _
  | .str _, _, h => by cases h; exact .str _
  | .list ds, _, h => by
    cases h with
    | lst h p q r => exact .lst (k _ _ p h) (hp _ _ p h) q (ShAll.on hp k ds _ r)
  | .tuple ds, _, h => by
    cases h with
    | tup h p r => exact .tup (k _ _ p h) (hp _ _ p h) (ShAll.on hp k ds _ r)
  | .dict _, _, h => by
    cases h with
    | emp q h p => exact .emp q (k _ _ p h) (hp _ _ p h)
theorem ShAll.on {H H' : Hp} {P P' : Addr → Prop} {b : Bool} (hp : ∀ a o, P a → H a = some o → P' a) (k : ∀ a o, P a → H a = some o → H' a = some o) : ∀ (ds : List PyData) (vs : List V), ShAll H P b vs ds → ShAll H' P' b vs ds
  | [], _, h => by cases h; exact .nil
  | d :: ds, _, h => by
    cases h with
    | cons h r => exact .cons (Sh.on hp k d _ h) (ShAll.on hp k ds _ r)
end
/-- all but at p is as it was -/
abbrev Kp (P : Addr → Prop) (H H' : Hp) : Prop := ∀ a o, P a → H a = some o → H' a = some o
abbrev Fr (H : Hp) : Addr → Prop := fun a => H a = none
theorem fr_back {p : Addr} {H G : Hp} {o : HO} (k : Kp (· ≠ p) H G) (hp : G p = some o) {a : Addr} (h : Fr G a) : Fr H a := by
  have na : a ≠ p := fun e => by
    rw [e] at h
    exact absurd (hp.symm.trans h) (fun z => nomatch z)
  cases e : H a with
  | none => exact e
  | some u => exact absurd ((k a u na e).symm.trans h) (fun z => nomatch z)
theorem fr_ne {p : Addr} {H : Hp} {o : HO} (hp : H p = some o) {a : Addr} (h : Fr H a) : a ≠ p := fun e => by
  rw [e] at h
  exact absurd (hp.symm.trans h) (fun z => nomatch z)
theorem Kp.trans {P : Addr → Prop} {H1 H2 H3 : Hp} (a : Kp P H1 H2) (b : Kp P H2 H3) : Kp P H1 H3 := fun x o p e => b x o p (a x o p e)
theorem kp_take {H H' : Hp} {p : Addr} (eq : ∀ b, b ≠ p → H' b = H b) : Kp (· ≠ p) H H' := fun a o n h => (eq a n).trans h
theorem kp_same {P : Addr → Prop} {G G' : Hp} (s : Same G G') : Kp P G G' := fun a o _ h => s a o h
theorem ne_free {H : Hp} {a b : Addr} {o : HO} (h : H a = some o) (n : H b = none) : b ≠ a := fun e => by
  rw [e, h] at n
  cases n
theorem pick {xs : List V} {d : Int} (d0 : 0 ≤ d) (d1 : d < (xs.length : Nat)) : ∃ v, v ∈ xs ∧ atI xs d = some v := by
  have lt : d.toNat < xs.length := by omega
  exact ⟨xs[d.toNat], List.getElem_mem lt, at_of (by omega) (List.getElem?_eq_getElem lt)⟩
end A1
end Bf

namespace Bf
open PySem PySem.Spec PyProof.Rows L2
namespace A1
section
variable {P : Program} {w : World} {K : PySem.W.Frag} {mg : Str → Option Value} {base : Heap}
abbrev pTake : List Str := ["_law_purse_here", "_law_many"]
/-- a digit is taken -/
theorem take_ok {σ : L2.St} {i : Nat} {p : Addr} {N n : Int} {E : XK} {H : Hp} {Q : VK} (hσ : σ[i]? = some (some (.ref p))) (pu : Purse H p n) (hn : n ≤ 100000) (h0 : 0 < N) (h1 : N < 1000000)
    (q : ∀ d G, 0 ≤ d → d < N → Kp (· ≠ p) H G → Purse G p (n + 1) → Q (.int d) G) : tCall spTake [] E (tCons (tVar i) (tCons (tC (.int N)) tNil)) σ H Q :=
  ⟨_, hσ, p, N, n, rfl, pu, hn, h0, h1, fun d G d0 d1 pu eq => q d G d0 d1 (kp_take eq) pu⟩
theorem _root_.Bf.Purse.ne {H : Hp} {p a : Addr} {n : Int} (pu : Purse H p n) (h : H a = none) : a ≠ p := let ⟨_, _, _, e, _⟩ := pu; ne_free e h
theorem _root_.Bf.Purse.same {H G : Hp} {p : Addr} {n : Int} (pu : Purse H p n) (s : Same H G) : Purse G p n := let ⟨x, y, z, e, r⟩ := pu; ⟨x, y, z, s _ _ e, r⟩
theorem _root_.Bf.Purse.back {H G : Hp} {p a : Addr} {n : Int} (pu : Purse G p n) (k : Kp (· ≠ p) H G) (h : G a = none) : H a = none := let ⟨_, _, _, e, _⟩ := pu; fr_back k e h
/-! ### _law_of -/
def spOf (K : PySem.W.Frag) : Sp := fun vs H Q _ => ∃ (p L : Addr) (n : Int) (xs : List V), vs = [.ref p, .ref L] ∧ Purse H p n ∧ n ≤ 100000 ∧ H L = some (.lst xs) ∧ L ≠ p ∧ xs ≠ [] ∧ xs.length ≤ 1000 ∧ ∀ v G, v ∈ xs → Kp (· ≠ p) H G → Purse G p (n + 1) → Q v G
theorem scOf : FnScope ["_law_purse_here", "_law_some"] ["_law_purse_here", "_law_some"] (defScope sOf) := ⟨rfl, rfl, rfl, by decide +kernel, rfl, by decide +kernel, by decide +kernel⟩
theorem ok_of {f ft : Addr} {fd fdt : FuncData} (F : Fun K "_law_of" "_law_of" sOf f fd) (DT : Df K mg "_law_take" ft fdt pTake) (GT : FnOk P w K mg base CX0 1 ft fdt pTake spTake) (ml : mg "len" = none) :
    FnOk P w K mg base CX0 2 f fd ["_law_purse_here", "_law_some"] (spOf K) := by
  refine F.ok scOf (fun vs H Q E h => ?_) (fun cdv A outer s H vs Q E hr h => ?_)
  · obtain ⟨p, L, n, xs, rfl, _⟩ := h
    rfl
  · obtain ⟨p, L, n, xs, rfl, pu, hn, hL, nL, ne, l, q⟩ := h
    refine ⟨_, pss_one (ps_ret (pe_ix ix_list (pv 1) (pe_call GT hr (by rfl) DT.at_ DT.kp DT.bd .nil pass0 (pa_cons (pv 0) (pa_cons (pe_callB call_len_seq (by rfl) ml PySem.boot_len (pa_cons (pv 1) pa_nil)) pa_nil))) (fun _ _ => rfl))), ?_⟩
    have l0 : 0 < xs.length := List.length_pos_iff.mpr ne
    refine ⟨_, rfl, _, rfl, _, rfl, L, xs, rfl, .inl (SqL.of hL), p, _, n, rfl, pu, hn, by omega, by omega, fun d G d0 d1 pu2 eq => ?_⟩
    obtain ⟨v, mv, ev⟩ := pick (xs := xs) d0 d1
    exact ⟨L, xs, d, v, rfl, rfl, SqL.of ((eq L nL).trans hL), ev, q v G mv (kp_take eq) pu2⟩
/-! ### _law_name -/
abbrev LET : Str := "abcdefghijklmnopqrstuvwxyz"
def nmB (n : Nat) (z : Str) : Prop := (∀ c ∈ z.cps.toList, c < 16 ^ 8) ∧ z.cps.size ≤ n
theorem let_small : ∀ c ∈ LET.cps.toList, c < 16 ^ 8 := by decide +kernel
theorem at_let {d N : Int} (d0 : 0 ≤ d) (d1 : d < N) (hN : N ≤ 26) : ∃ c, atI LET.cps.toList d = some c ∧ c ∈ LET.cps.toList := by
  have l : LET.cps.toList.length = 26 := by decide +kernel
  have lt : d.toNat < LET.cps.toList.length := by omega
  refine ⟨LET.cps.toList[d.toNat], ?_, List.getElem_mem lt⟩
  have e := atI_nat (List.getElem?_eq_getElem lt)
  rw [Int.toNat_of_nonneg d0] at e
  exact e
theorem nm_app {a b : Nat} {x y : Str} (h : nmB a x) (k : nmB b y) : nmB (a + b) (x ++ y) := by
  refine ⟨fun c m => ?_, ?_⟩
  · have e : (x ++ y).cps.toList = x.cps.toList ++ y.cps.toList := by show (x.cps ++ y.cps).toList = _; rw [Array.toList_append]
    rw [e] at m
    exact (List.mem_append.mp m).elim (h.1 c) (k.1 c)
  · show (x.cps ++ y.cps).size ≤ a + b
    rw [Array.size_append]
    exact Nat.add_le_add h.2 k.2
/-- signs put together -/
theorem word_ok {cs : List Nat} (h : ∀ c ∈ cs, c ∈ LET.cps.toList) {n : Nat} (l : cs.length ≤ n) : nmB n (Txt.join "" (cs.map fun c => (⟨#[c]⟩ : Str))) := by
  refine ⟨fun c m => ?_, ?_⟩
  · have e : Txt.join "" (cs.map fun c => (⟨#[c]⟩ : Str)) = Str.join "" (cs.map fun c => (⟨#[c]⟩ : Str)) := StrLaws.glued_eq_join _ _
    rw [e, mem_join] at m
    rcases m with ⟨t, mt, mc⟩ | ⟨_, mc⟩
    · obtain ⟨x, mx, rfl⟩ := List.mem_map.mp mt
      rw [List.mem_singleton.mp (show c ∈ [x] from mc)]
      exact let_small x (h x mx)
    · cases mc
  · have e := size_glued "" (cs.map fun c => (⟨#[c]⟩ : Str))
    have s0 : ∀ l : List Nat, ((l.map fun c => (⟨#[c]⟩ : Str)).map (·.length)).sum = l.length := by
      intro l
      induction l with
      | nil => rfl
      | cons a r ih => rw [List.map_cons, List.map_cons, List.sum_cons, ih, List.length_cons]; show 1 + r.length = _; omega
    rw [s0] at e
    show (Builtin.Str.glued "" _).length ≤ n
    rw [e, show (("" : Str)).length = 0 from rfl]
    omega
theorem cut_ok {n : Nat} {z : Str} (h : nmB n z) (lo hi : Option Int) : nmB n (cutS z lo hi) := by
  refine ⟨fun c m => ?_, ?_⟩
  · exact h.1 c (List.mem_of_mem_drop (List.mem_of_mem_take m))
  · have e : (cutS z lo hi).cps.size = ((z.cps.toList.drop (HT.sIx z.length 0 lo)).take (HT.sIx z.length z.length hi - HT.sIx z.length 0 lo)).length := by unfold cutS; rw [List.size_toArray]
    have l8 : z.cps.toList.length ≤ n := h.2
    rw [e, List.length_take, List.length_drop]
    omega
end
end A1
end Bf

set_option maxHeartbeats 4000000
/-! Own rules: x in (texts) of any thing; a tuple of any length times a whole number. -/
namespace Bf
open PySem PySem.Spec PyProof.Rows L2
section
variable {X : Cx}
def rInW (K : PySem.W.Frag) : R2 := fun x y H Q => ∃ (p : Addr) (ws : List Str), y = .ref p ∧ SqT K H p (ws.map V.str) ∧ Odd H x ∧ Q (.bl (inV x (ws.map V.str))) H
theorem op_inW (hu : X.A.units + 64 < cLine) : OpR X (compareOp .In) (rInW X.K) := by
  intro pins s σ H x y v u Q I rx ry h
  obtain ⟨p, ws, rfl, hq, od, q⟩ := h
  cases ry
  obtain ⟨its, r, pl, hz⟩ := I.tuple hq
  have fs : (ws.map V.str).all flatV = true := by
    rw [List.all_map, List.all_eq_true]
    intro z _
    rfl
  have each : ∀ {vs : List V} {us : List Value}, Vals vs us → (∀ y ∈ vs, ∃ z, y = V.str z) → ∀ w ∈ us, SeqAt.EqAt X.A.in1 s w v (eqU x w) := by
    intro vs us r
    induction r with
    | nil => exact fun _ _ m => nomatch m
    | cons r1 r2 ih =>
      intro hv w m
      rcases List.mem_cons.mp m with rfl | m
      · obtain ⟨z, rfl⟩ := hv _ List.mem_cons_self
        obtain ⟨t, rfl⟩ := r1
        exact eqAt_odd (by show X.A.units + 1 < cLine; omega) I od rx
      · exact ih (fun y my => hv y (List.mem_cons_of_mem _ my)) w m
  refine SeqAt.in_tupleAt (eqU x) pl (fun w hw => each r (fun y my => by obtain ⟨z, _, rfl⟩ := List.mem_map.mp my; exact ⟨z, rfl⟩) w (by simpa using hw)) ⟨.bl _, H, I, rfl, ?_⟩
  rw [show its.toArray.any (eqU x) = its.any (eqU x) by simp, any_eqU r fs]
  exact q
theorem bf_tuple_mulE (l : Addr) (n : Nat) (dd : Option Addr) (sl : Array (Option Value)) (x : Int) (u : Tok) (c0 : (decide (x < -(2 ^ 63)) || decide (x ≥ 2 ^ 63)) = false) :
    Meets (Builtin.«tuple.__mul__» ⟨[.ref l, .int x u], []⟩) (fun _ R s => s.heap.get? l = some { cls := .type "tuple", dict := dd, data := .seq #[] n, slots := sl } ∧ R (.ok (.ret (Value.ref l))) s) :=
  .of_wp fun prog w A R s h => by
    obtain ⟨hp, g, d, tk, os⟩ := s
    obtain ⟨hl, h⟩ := h
    have f1 := AutoSeq1.idx_int
    have f2 := AutoSeq1.sub_tuple_tuple
    wp_walk using wpAny_loadPart' hl
    repeat (first
      | (refine wpAny_ite_false (decide_eq_false (by rw [c0]; exact Bool.false_ne_true)) ?_; wp_walk using wpAny_loadPart' hl))
    exact ⟨_, rfl, h⟩
/-- t * k -/
def rRepA (K : PySem.W.Frag) : R2 := fun x y H Q => ∃ l k xs, x = .ref l ∧ y = .int k ∧ SqT K H l xs ∧ 2 ≤ k ∧ k ≤ 1000 ∧ xs.length ≤ 1000 ∧ (xs = [] → Q (.ref l) H) ∧ (xs ≠ [] → ∀ p, H p = none → Q (.ref p) (upd H p (.tup (List.replicate k.toNat xs).flatten)))
theorem op_repA : OpR X (binaryOp .Mult) (rRepA X.K) := by
  intro pins s σ H x y v u Q I rx ry h
  obtain ⟨l, k, xs, rfl, rfl, hT, h1, h2, hz, q0, q1⟩ := h
  by_cases e : xs = []
  · subst e
    cases rx
    obtain ⟨t, rfl⟩ := ry
    obtain ⟨its, r, ⟨⟨cls, dd, data, sl⟩, ho, hc, n, hd⟩, hs⟩ := I.tuple hT
    cases r
    simp only at hc hd
    subst hc hd
    have c0 : (decide (k < -(2 ^ 63)) || decide (k ≥ 2 ^ 63)) = false := by
      rw [decide_eq_false (by omega), decide_eq_false (by omega)] <;> rfl
    refine wpAny_binaryOp_repeat_ref (T := "tuple") (U := "int") (by decide) ⟨_, ho, rfl⟩ (fun s' => typeIs_int s' k t) noFill_tuple_mul F.fills_int_mul F.slot_int_rmul repeat_tuple F.slot_int_index.lookup
      (call_meets F.slot_int_rmul (typeIs_int s k t) F.entry_int_rmul (F.args_int_rmul_2 _ _) (int_rmul_tuple k t l [].toArray n dd sl)
        ⟨ho, rfl, ⟨_, ho, rfl⟩, call_meets F.slot_tuple_mul ⟨_, ho, rfl⟩ F.entry_tuple_mul (F.args_tuple_mul_2 _ _) (bf_tuple_mulE l n dd sl k t c0) ⟨ho, ?_⟩⟩)
    exact ⟨.ref l, H, I, rfl, q0 rfl⟩
  · exact op_repT pins s σ H _ _ v u Q I rx ry ⟨l, k, xs, rfl, rfl, hT, e, h1, h2, hz, q1 e⟩
end
end Bf

namespace Bf
open PySem PySem.Spec PyProof.Rows L2
namespace A1
/-- one of a display's things, picked by a digit -/
theorem disp_take {K : PySem.W.Frag} {σ : L2.St} {i : Nat} {p : Addr} {N n : Int} {E : XK} {H : Hp} {Q : VK} {xs : List V} (hσ : σ[i]? = some (some (.ref p))) (pu : Purse H p n) (hn : n ≤ 100000) (hN : ((xs.length : Nat) : Int) = N) (h0 : 0 < N) (h1 : N < 1000)
    (q : ∀ v G, v ∈ xs → Kp (· ≠ p) H G → Purse G p (n + 1) → Q v G) : xs.length ≤ sizeLine ∧ ∀ L, H L = none → tCall spTake [] E (tCons (tVar i) (tCons (tC (.int N)) tNil)) σ (upd H L (.lst xs)) fun y H2 => rIxL K (.ref L) y H2 Q := by
  refine ⟨by rw [sizeLine_eq]; omega, fun L hL => ?_⟩
  have nL := pu.ne hL
  refine take_ok hσ (pu.of (upd_ne nL.symm)) hn h0 (by omega) (fun e H2 e0 e1 k2 pu2 => ?_)
  obtain ⟨v, mv, ev⟩ := pick (xs := xs) e0 (by omega)
  refine ⟨L, _, e, v, rfl, rfl, SqL.of (k2 _ _ nL upd_same), ev, q v H2 mv (fun a o na h => k2 a o na (by rw [upd_ne (ne_of_none h hL)]; exact h)) pu2⟩
theorem sh_kp {P : Addr → Prop} {G G' : Hp} {b : Bool} {v : V} {d : PyData} (k : Kp P G G') (h : Sh G P b v d) : Sh G' P b v d := Sh.on (fun _ _ f _ => f) (fun a o f e => k a o f e) d v h
theorem shA_kp {P : Addr → Prop} {G G' : Hp} {b : Bool} {vs : List V} {ds : List PyData} (k : Kp P G G') (h : ShAll G P b vs ds) : ShAll G' P b vs ds := ShAll.on (fun _ _ f _ => f) (fun a o f e => k a o f e) ds vs h
theorem shAll_ints {G : Hp} {P : Addr → Prop} {b : Bool} : ∀ ns : List Int, ShAll G P b (ns.map V.int) (ns.map PyData.int)
  | [] => .nil
  | n :: r => .cons (.int n) (shAll_ints r)
theorem slS {z : Str} {n : Nat} (h : z.cps.size ≤ n) : sl (.str z) ≤ 10 * n + 3 := by
  simp only [sl]; omega
theorem fitA_nil {w k : Nat} : ∀ d ∈ ([] : List PyData), fit w k d := fun _ m => nomatch m
theorem fitA_cons {w k : Nat} {d : PyData} {r : List PyData} (h : fit w k d) (t : ∀ d ∈ r, fit w k d) : ∀ e ∈ d :: r, fit w k e := fun e m => (List.mem_cons.mp m).elim (fun z => z ▸ h) (t e)
theorem int_fit {w k : Nat} {i : Int} (a : -1000 ≤ i) (b : i ≤ 1000) : fit w k (.int i) := fit_int.mpr (.inl (by omega))
theorem sl_small {i : Int} (a : -1000 ≤ i) (b : i ≤ 1000) : sl (.int i) ≤ 14 := sl_int (by omega)
theorem whole_of {i lo hi : Int} (a : lo ≤ i) (b : i ≤ hi) : wholeD (.int i) lo hi = true := by
  show (decide (lo ≤ i) && decide (i ≤ hi)) = true
  rw [decide_eq_true a, decide_eq_true b]; rfl
/-- some tracked datum, bounded -/
def TV (P : Addr → Prop) (G : Hp) (W k m : Nat) (v : V) : Prop := ∃ d, Sh G P false v d ∧ fit W k d ∧ sl d ≤ m
/-- some tracked data, bounded -/
def TL (P : Addr → Prop) (G : Hp) (W k m L : Nat) (vs : List V) : Prop := ∃ ds, ShAll G P false vs ds ∧ (∀ d ∈ ds, fit W k d) ∧ slA ds ≤ m ∧ vs.length ≤ L
section
variable {P P' : Addr → Prop} {G G' : Hp} {W k m L W' k' m' L' : Nat} {v : V} {vs ws : List V}
theorem TV.kp (e : Kp P G G') (h : TV P G W k m v) : TV P G' W k m v := let ⟨d, a, b, c⟩ := h; ⟨d, sh_kp e a, b, c⟩
theorem TL.kp (e : Kp P G G') (h : TL P G W k m L vs) : TL P G' W k m L vs := let ⟨d, a, b, c⟩ := h; ⟨d, shA_kp e a, b, c⟩
theorem TV.on (hp : ∀ a, P a → P' a) (h : TV P G W k m v) : TV P' G W k m v := let ⟨d, a, b, c⟩ := h; ⟨d, Sh.on (fun x _ f _ => hp x f) (fun _ _ _ e => e) d v a, b, c⟩
theorem TV.mono (h : TV P G W k m v) (hw : W ≤ W') (hk : k ≤ k') (hm : m ≤ m') : TV P G W' k' m' v := let ⟨d, a, b, c⟩ := h; ⟨d, a, fit_mono hw d hk b, Nat.le_trans c hm⟩
theorem TL.mono (h : TL P G W k m L vs) (hw : W ≤ W') (hk : k ≤ k') (hm : m ≤ m') (hl : L ≤ L') : TL P G W' k' m' L' vs := let ⟨d, a, b, c, e⟩ := h; ⟨d, a, fun x mx => fit_mono hw x hk (b x mx), Nat.le_trans c hm, Nat.le_trans e hl⟩
theorem TL.nil : TL P G W k 0 0 [] := ⟨[], .nil, fitA_nil, by rw [slA_nil]; exact Nat.le_refl _, Nat.le_refl _⟩
theorem TL.cons (h : TV P G W k m v) (t : TL P G W k m' L vs) : TL P G W k (m + 2 + m') (L + 1) (v :: vs) := let ⟨d, a, b, c⟩ := h; let ⟨ds, a', b', c', e'⟩ := t; ⟨d :: ds, .cons a a', fitA_cons b b', by rw [slA_cons]; omega, by rw [List.length_cons]; omega⟩
theorem TL.one (h : TV P G W k m v) : TL P G W k (m + 2) 1 [v] := (TL.cons h .nil).mono (Nat.le_refl _) (Nat.le_refl _) (by omega) (by omega)
theorem shA_append {P : Addr → Prop} {b : Bool} : ∀ {vs : List V} {ds : List PyData} {ws : List V} {es : List PyData}, ShAll G P b vs ds → ShAll G P b ws es → ShAll G P b (vs ++ ws) (ds ++ es)
  | _, _, _, _, .nil, r => r
  | _, _, _, _, .cons h t, r => .cons h (shA_append t r)
theorem shA_drop {P : Addr → Prop} {b : Bool} : ∀ {vs : List V} {ds : List PyData} (n : Nat), ShAll G P b vs ds → ShAll G P b (vs.drop n) (ds.drop n)
  | _, _, 0, r => r
  | _, _, _ + 1, .nil => .nil
  | _, _, n + 1, .cons _ r => shA_drop n r
theorem shA_take {P : Addr → Prop} {b : Bool} : ∀ {vs : List V} {ds : List PyData} (n : Nat), ShAll G P b vs ds → ShAll G P b (vs.take n) (ds.take n)
  | _, _, 0, _ => .nil
  | _, _, _ + 1, .nil => .nil
  | _, _, n + 1, .cons h r => .cons h (shA_take n r)
theorem shA_get {P : Addr → Prop} {b : Bool} : ∀ {vs : List V} {ds : List PyData}, ShAll G P b vs ds → ∀ {i : Nat} {v : V}, vs[i]? = some v → ∃ d, ds[i]? = some d ∧ Sh G P b v d
  | _, _, .cons h r, 0, _, e => by cases e; exact ⟨_, rfl, h⟩
  | _, _, .cons h r, i + 1, _, e => shA_get r (i := i) e
theorem slA_take (l : List PyData) (n : Nat) : slA (l.take n) ≤ slA l := by
  have e : slA (l.take n ++ l.drop n) = slA l := by rw [List.take_append_drop]
  rw [slA_app] at e
  omega
theorem slA_drop (l : List PyData) (n : Nat) : slA (l.drop n) ≤ slA l := by
  have e : slA (l.take n ++ l.drop n) = slA l := by rw [List.take_append_drop]
  rw [slA_app] at e
  omega
theorem TL.app (h : TL P G W k m L vs) (t : TL P G W k m' L' ws) : TL P G W k (m + m') (L + L') (vs ++ ws) := let ⟨d, a, b, c, e⟩ := h; let ⟨ds, a', b', c', e'⟩ := t; ⟨d ++ ds, shA_append a a', fun x mx => (List.mem_append.mp mx).elim (b x) (b' x), by rw [slA_app]; omega, by rw [List.length_append]; omega⟩
theorem TL.cut (h : TL P G W k m L vs) (lo hi : Option Int) : TL P G W k m L (cutV vs lo hi) := by
  obtain ⟨ds, a, b, c, e⟩ := h
  refine ⟨_, shA_take _ (shA_drop _ a), fun x mx => b x (List.mem_of_mem_drop (List.mem_of_mem_take mx)), Nat.le_trans (slA_take _ _) (Nat.le_trans (slA_drop _ _) c), Nat.le_trans (cutV_length vs lo hi) e⟩
theorem TL.get (h : TL P G W k m L vs) {i : Nat} (e : vs[i]? = some v) : TV P G W k m v := by
  obtain ⟨ds, a, b, c, _⟩ := h
  obtain ⟨d, hd, sh⟩ := shA_get a e
  have md := List.mem_of_getElem? hd
  have := slA_mem md
  exact ⟨d, sh, b d md, by omega⟩
theorem TV.tup {t : Addr} (h : TL P G W k m L vs) (nt : P t) (gt : G t = some (.tup vs)) (hl : L ≤ W) : TV P G W (k + 1) (m + 3) (.ref t) := by
  obtain ⟨ds, a, b, c, e⟩ := h
  exact ⟨.tuple ds, .tup gt nt a, fit_tup.mpr ⟨by rw [← shAll_len a]; omega, b⟩, by rw [sl_tup]; omega⟩
theorem TV.lst {t : Addr} (h : TL P G W k m L vs) (nt : P t) (gt : G t = some (.lst vs)) (hl : L ≤ W) : TV P G W (k + 1) (m + 3) (.ref t) := by
  obtain ⟨ds, a, b, c, e⟩ := h
  exact ⟨.list ds, .lst gt nt (fun z => nomatch z) a, fit_lst.mpr ⟨by rw [← shAll_len a]; omega, b⟩, by rw [sl_lst]; omega⟩
theorem TV.int {i : Int} (a : -1000 ≤ i) (b : i ≤ 1000) : TV P G W k 14 (.int i) := ⟨.int i, .int i, int_fit a b, sl_small a b⟩
theorem TV.bl {b : Bool} : TV P G W k 14 (.bl b) := ⟨.bool b, .bl b, fit_bl, by simp only [sl]; omega⟩
theorem TV.non : TV P G W k 14 .non := ⟨.none, .non, fit_non, by simp only [sl]; omega⟩
theorem TV.str {y : Str} (h : strOk y = true) (hl : y.cps.size ≤ 5) : TV P G W k 60 (.str y) := ⟨.str y, .str y, fit_str.mpr h, Nat.le_trans (slS hl) (by decide)⟩
end
theorem TL.mem {P : Addr → Prop} {G : Hp} {W k m L : Nat} {v : V} {vs : List V} (h : TL P G W k m L vs) (mv : v ∈ vs) : TV P G W k m v := by
  obtain ⟨i, e⟩ := List.mem_iff_getElem?.mp mv
  exact TL.get h e
theorem noPart {σ : L2.St} {G : Hp} {F : Option Int → Hp → Prop} (h : F none G) : tNoPart σ G F := h
theorem TV.str' {P : Addr → Prop} {G : Hp} {W k n : Nat} {y : Str} (h : nmB n y) (hn : n ≤ 40) : TV P G W k (10 * n + 3) (.str y) :=
  ⟨.str y, .str y, fit_str.mpr (by unfold strOk; rw [Bool.and_eq_true, List.all_eq_true]; exact ⟨fun c m => decide_eq_true (h.1 c m), decide_eq_true (Nat.le_trans h.2 hn)⟩), slS h.2⟩
section
variable {P : Program} {w : World} {K : PySem.W.Frag} {mg : Str → Option Value} {base : Heap}
/-! ### _law_number -/
def spNumb : Sp := fun vs H Q _ => ∃ (p : Addr) (n : Int), vs = [.ref p] ∧ Purse H p n ∧ n ≤ 99900 ∧ ∀ i G, intOk i → Kp (· ≠ p) H G → Purse G p (n + 2) → Q (.int i) G
abbrev nNumb : List Str := ["_law_purse_here", "_law_some"]
theorem scNumb : FnScope nNumb ["_law_purse_here"] (defScope sNum) := ⟨rfl, rfl, rfl, by decide +kernel, rfl, by decide +kernel, by decide +kernel⟩
abbrev pOf : List Str := ["_law_purse_here", "_law_some"]
theorem ok_numb {f ft fo : Addr} {fd dt do_ : FuncData} (F : Fun K "_law_number" "_law_number" sNum f fd) (DT : Df K mg "_law_take" ft dt pTake) (GT : FnOk P w K mg base CX0 1 ft dt pTake spTake) (DO : Df K mg "_law_of" fo do_ pOf) (GO : FnOk P w K mg base CX0 2 fo do_ pOf (spOf K)) :
    FnOk P w K mg base CX0 3 f fd ["_law_purse_here"] spNumb := by
  refine F.ok scNumb (fun vs H Q E h => ?_) (fun cdv A outer s H vs Q E hr h => ?_)
  · obtain ⟨p, n, rfl, _⟩ := h
    rfl
  · obtain ⟨p, n, rfl, pu, hn, q⟩ := h
    have hr1 := hr.mono (by decide : 1 ≤ 2)
    refine ⟨_, (pss_cons (ps_set (i := 1) scNumb.nd rfl (Or.inl rfl) (pe_lst (pa_cons pe_int (pa_cons pe_int (pa_cons pe_int (pa_cons pe_int (pa_cons pe_int (pa_cons pe_int (pa_cons pe_int (pa_cons (pe_un un_neg pe_int) (pa_cons pe_int (pa_cons pe_int (pa_cons (pe_op op_pow pe_int pe_int) (pa_cons (pe_op op_sub pe_int (pe_op op_pow pe_int pe_int))
        (pa_cons (pe_call GT hr1 (by rfl) DT.at_ DT.kp DT.bd .nil pass0 (pa_cons (pv 0) (pa_cons pe_int pa_nil))) pa_nil)))))))))))))))
        (pss_one (ps_ret (pe_call GO hr (by rfl) DO.at_ DO.kp DO.bd .nil pass0 (pa_cons (pv 0) (pa_cons (pv 1) pa_nil)))))), ?_⟩
    refine ⟨1, rfl, _, _, rfl, rfl, ⟨by decide, by decide, by decide⟩, _, _, rfl, rfl, ⟨by decide, by decide, by decide⟩, _, _, rfl, rfl, ?_⟩
    refine take_ok (i := 0) rfl pu (by omega) (by decide) (by decide) fun d G1 d0 d1 k1 pu1 => ⟨by show 13 ≤ sizeLine; decide, fun L hL => ?_⟩
    have nL := pu1.ne hL
    have s1 : ∀ o, Same G1 (upd G1 L o) := fun o => same_new hL
    refine ⟨_, rfl, _, rfl, p, L, n + 1, _, rfl, pu1.same (s1 _), by omega, upd_same, nL, by simp, by show 13 ≤ 1000; decide, fun v G2 mv k2 pu2 => ?_⟩
    have k02 : Kp (· ≠ p) H G2 := fun a o na h => k2 a o na (s1 _ _ _ (k1 a o na h))
    have pu2' := pu2.mono (m := n + 2) (by omega)
    simp only [List.mem_cons, List.not_mem_nil, or_false] at mv
    rcases mv with rfl | rfl | rfl | rfl | rfl | rfl | rfl | rfl | rfl | rfl | rfl | rfl | rfl
    · exact q _ _ (.inl (by decide)) k02 pu2'
    · exact q _ _ (.inl (by decide)) k02 pu2'
    · exact q _ _ (.inl (by decide)) k02 pu2'
    · exact q _ _ (.inl (by decide)) k02 pu2'
    · exact q _ _ (.inl (by decide)) k02 pu2'
    · exact q _ _ (.inl (by decide)) k02 pu2'
    · exact q _ _ (.inl (by decide)) k02 pu2'
    · exact q _ _ (.inl (by decide)) k02 pu2'
    · exact q _ _ (.inl (by decide)) k02 pu2'
    · exact q _ _ (.inl (by decide)) k02 pu2'
    · exact q _ _ (.inr (.inl rfl)) k02 pu2'
    · exact q _ _ (.inr (.inr rfl)) k02 pu2'
    · exact q _ _ (.inl (by omega)) k02 pu2'
/-! ### _law_near_name -/
def spNN : Sp := fun vs H Q _ => ∃ (p : Addr) (n : Int), vs = [.ref p] ∧ Purse H p n ∧ n ≤ 99800 ∧ ∀ z G, nmB 19 z → Kp (· ≠ p) H G → Purse G p (n + 13) → Q (.str z) G
abbrev nNN : List Str := ["_law_purse_here", "_law_letters", "_law_word", "_law_at", "_law_sign", "_law_k"]
theorem scNN : FnScope nNN ["_law_purse_here"] (defScope sNName) := ⟨rfl, rfl, rfl, by decide +kernel, rfl, by decide +kernel, by decide +kernel⟩
theorem signs_ok : ∀ y ∈ (["", "", "A", "1", " ", ".", "_", "\n"] : List Str), (∀ c ∈ y.cps.toList, c < 16 ^ 8) ∧ y.cps.size ≤ 1 := by decide +kernel
set_option maxHeartbeats 1000000 in
theorem ok_nname {f ft : Addr} {fd dt : FuncData} (F : Fun K "_law_near_name" "_law_near_name" sNName f fd) (DT : Df K mg "_law_take" ft dt pTake) (GT : FnOk P w K mg base CX0 1 ft dt pTake spTake) (mr : mg "range" = none) (ml : mg "len" = none) :
    FnOk P w K mg base CX0 2 f fd ["_law_purse_here"] spNN := by
  refine F.ok scNN (fun vs H Q E h => ?_) (fun cdv A outer s H vs Q E hr h => ?_)
  · obtain ⟨p, n, rfl, _⟩ := h
    rfl
  · obtain ⟨p, n, rfl, pu, hn, q⟩ := h
    refine ⟨_, pss_cons (ps_set (i := 1) scNN.nd rfl (Or.inr rfl) pe_str)
      (pss_cons (ps_set (i := 2) scNN.nd rfl (Or.inl rfl) (pe_join pe_str (pe_lc (own := [("_law_k", 5)]) (g := gName 5) (tt := tYes) rfl scNN.nd (pi_range1 (by rfl) mr (pa_cons pe_int pa_nil)) (blkOk_by (N := nNN) (sc := defScope sNName) (by decide +kernel))
        (fun _ _ _ _ _ => pg_name (i := 5) scNN.nd rfl (Or.inl rfl)) (fun _ _ _ _ _ => pts_nil) (fun _ _ _ _ _ => pe_ix ix_str (pv 1) (pe_call GT hr (by rfl) DT.at_ DT.kp DT.bd .nil pass0 (pa_cons (pv 0) (pa_cons pe_int pa_nil))) (fun _ _ => rfl)))))
      (pss_cons (ps_set (i := 2) scNN.nd rfl (Or.inl rfl) (pe_slice sl_str (pv 2) po_none (po_some (pe_ix ix_list (pe_lst (pa_cons pe_int (pa_cons pe_int (pa_cons pe_int (pa_cons (pe_call GT hr (by rfl) DT.at_ DT.kp DT.bd .nil pass0 (pa_cons (pv 0) (pa_cons pe_int pa_nil))) pa_nil))))) (pe_call GT hr (by rfl) DT.at_ DT.kp DT.bd .nil pass0 (pa_cons (pv 0) (pa_cons pe_int pa_nil))) (fun _ _ => rfl)))))
      (pss_cons (ps_set (i := 3) scNN.nd rfl (Or.inl rfl) (pe_call GT hr (by rfl) DT.at_ DT.kp DT.bd .nil pass0 (pa_cons (pv 0) (pa_cons (pe_op op_add (pe_callB call_len_str (by rfl) ml PySem.boot_len (pa_cons (pv 2) pa_nil)) pe_int) pa_nil))))
      (pss_cons (ps_set (i := 4) scNN.nd rfl (Or.inl rfl) (pe_ix ix_list (pe_lst (pa_cons pe_str (pa_cons pe_str (pa_cons pe_str (pa_cons pe_str (pa_cons pe_str (pa_cons pe_str (pa_cons pe_str (pa_cons pe_str pa_nil))))))))) (pe_call GT hr (by rfl) DT.at_ DT.kp DT.bd .nil pass0 (pa_cons (pv 0) (pa_cons pe_int pa_nil))) (fun _ _ => rfl)))
      (pss_one (ps_ret (pe_op op_add_str (pe_op op_add_str (pe_slice sl_str (pv 2) po_none (po_some (pv 3))) (pv 4)) (pe_slice sl_str (pv 2) (po_some (pv 3)) po_none)))))))), ?_⟩
    refine ⟨⟨_, rfl⟩, 9, rfl, by decide, by decide, fun D hD => ?_⟩
    have nD := pu.ne hD
    refine lc_range (lo := 0) (n := 9) (fun k G => ∃ cs : List Nat, cs.length = k ∧ (∀ c ∈ cs, c ∈ LET.cps.toList) ∧ G D = some (.lst ((cs.map fun c => (⟨#[c]⟩ : Str)).map V.str)) ∧ Kp (· ≠ p) H G ∧ Purse G p (n + (k : Int)))
      ⟨[], rfl, (fun _ m => nomatch m), upd_same, kp_same (same_new hD), by rw [show n + ((0 : Nat) : Int) = n by omega]; exact pu.of (upd_ne nD.symm)⟩ (fun k G hk pv => ?_) fun G pv => ?_
    · obtain ⟨cs, lc, hc, gD, kG, pG⟩ := pv
      refine ⟨rfl, _, rfl, take_ok (i := 0) rfl pG (by omega) (by decide) (by decide) (fun d G2 d0 d1 k2 pu2 => ?_)⟩
      obtain ⟨c, ec, mc⟩ := at_let d0 d1 (by decide)
      refine ⟨LET, d, c, rfl, rfl, by decide +kernel, ec, _, k2 _ _ nD gD, by rw [List.length_map, List.length_map, lc]; exact small1000 (by omega), cs ++ [c], by rw [List.length_append, lc]; rfl, fun x m => ?_, ?_, fun a o na h => ?_, ?_⟩
      · rcases List.mem_append.mp m with m | m
        · exact hc x m
        · rw [List.mem_singleton.mp m]; exact mc
      · rw [upd_same, List.map_append, List.map_append]; rfl
      · rw [upd_ne (ne_of_none h hD)]
        exact k2 a o na (kG a o na h)
      · rw [show n + ((k + 1 : Nat) : Int) = n + (k : Int) + 1 by omega]
        exact pu2.of (upd_ne nD.symm)
    · obtain ⟨cs, lc, hc, gD, kG, pG⟩ := pv
      have w0 : nmB 9 (Txt.join "" (cs.map fun c => (⟨#[c]⟩ : Str))) := word_ok hc (by omega)
      have sz0 : (((cs.map fun c => (⟨#[c]⟩ : Str))).map (·.length)).sum = cs.length := by
        have : ∀ l : List Nat, ((l.map fun c => (⟨#[c]⟩ : Str)).map (·.length)).sum = l.length := by
          intro l
          induction l with
          | nil => rfl
          | cons a r ih => rw [List.map_cons, List.map_cons, List.sum_cons, ih, List.length_cons]; show 1 + r.length = _; omega
        exact this cs
      refine ⟨"", D, _, rfl, rfl, .inl (SqL.of gD), ?_, ?_⟩
      · rw [sz0, lc, List.length_map, lc]; decide
      generalize Txt.join "" (cs.map fun c => (⟨#[c]⟩ : Str)) = z0 at w0
      refine ⟨_, rfl, take_ok (i := 0) rfl pG (by omega) (by decide) (by decide) (fun d G2 d0 d1 k2 pu2 => ?_)⟩
      have k02 := kG.trans k2
      refine disp_take (xs := [.int 1, .int 8, .int 9, .int d]) (i := 0) rfl pu2 (by omega) rfl (by decide) (by decide) fun v G3 mv k3 pu3 => ?_
      have k03 := k02.trans k3
      obtain ⟨e, rfl⟩ : ∃ e, v = V.int e := by
        simp only [List.mem_cons, List.not_mem_nil, or_false] at mv
        rcases mv with rfl | rfl | rfl | rfl <;> exact ⟨_, rfl⟩
      refine ⟨_, rfl, z0, rfl, Nat.le_trans w0.2 (by decide), ?_⟩
      have w1 := cut_ok w0 none (some e)
      generalize cutS z0 none (some e) = z at w1
      have lz : z.length ≤ 9 := w1.2
      refine ⟨_, rfl, _, rfl, z, rfl, Nat.le_trans lz (by decide), _, _, rfl, rfl, p, _, _, rfl, pu3, by omega, by omega, by omega, fun at_ G4 a0 a1 pu4 eq4 => ?_⟩
      have k04 := k03.trans (kp_take eq4)
      refine disp_take (xs := [.str "", .str "", .str "A", .str "1", .str " ", .str ".", .str "_", .str "\n"]) (i := 0) rfl pu4 (by omega) rfl (by decide) (by decide) fun v G5 mv k5 pu5 => ?_
      have k05 := k04.trans k5
      obtain ⟨y, rfl, hy⟩ : ∃ y : Str, v = .str y ∧ y ∈ (["", "", "A", "1", " ", ".", "_", "\n"] : List Str) := by
        have mv' : v ∈ (["", "", "A", "1", " ", ".", "_", "\n"] : List Str).map V.str := mv
        obtain ⟨y, my, e⟩ := List.mem_map.mp mv'
        exact ⟨y, e.symm, my⟩
      have wy : nmB 1 y := signs_ok y hy
      have c1 := cut_ok w1 none (some at_)
      have c2 := cut_ok w1 (some at_) none
      have c3 := nm_app c1 wy
      have c4 := nm_app c3 c2
      have lt : ∀ {m : Nat} {u : Str}, nmB m u → u.length ≤ m := fun h => h.2
      refine ⟨_, rfl, _, rfl, _, rfl, z, rfl, Nat.le_trans lz (by decide), _, rfl, _, _, rfl, rfl, ?_, _, rfl, _, rfl, _, rfl, z, rfl, Nat.le_trans lz (by decide), _, _, rfl, rfl, ?_, q _ _ c4 k05 (pu5.mono (by omega))⟩
      · have := lt c1
        have := lt wy
        rw [sizeLine_eq]
        omega
      · have := lt c3
        have := lt c2
        rw [sizeLine_eq]
        omega
end
end A1
end Bf

namespace Bf
open PySem PySem.Spec PyProof.Rows L2
namespace A1
theorem cut_whole {xs : List V} {lo hi : Option Int} (h : HT.sIx xs.length 0 lo = 0 ∧ HT.sIx xs.length xs.length hi = xs.length) : cutV xs lo hi = xs := by
  unfold cutV
  rw [h.1, h.2, List.drop_zero, Nat.sub_zero, List.take_length]
section
variable {K : PySem.W.Frag} {G : Hp} {a b : Addr} {xs ys : List V} {Q : VK}
theorem sl_ok {lo hi : Option Int} (ha : G a = some (.tup xs)) (q : ∀ t G', Same G G' → (t = a ∨ G t = none) → G' t = some (.tup (cutV xs lo hi)) → Q (.ref t) G') : rSlA K (.ref a) lo hi G Q :=
  ⟨a, xs, rfl, SqT.of ha, fun h => q a G (Same.refl _) (.inl rfl) (by rw [cut_whole h]; exact ha), fun _ t ht => q t _ (same_new ht) (.inr ht) upd_same⟩
theorem cat_ok (ha : G a = some (.tup xs)) (hb : G b = some (.tup ys)) (l : xs.length + ys.length ≤ 100000) (q : ∀ t G', Same G G' → (t = a ∨ t = b ∨ G t = none) → G' t = some (.tup (xs ++ ys)) → Q (.ref t) G') : rCatA K (.ref a) (.ref b) G Q :=
  ⟨a, b, xs, ys, rfl, rfl, SqT.of ha, SqT.of hb, by rw [sizeLine_eq]; omega, fun e => q b G (Same.refl _) (.inr (.inl rfl)) (by rw [e]; exact hb), fun _ e => q a G (Same.refl _) (.inl rfl) (by rw [e, List.append_nil]; exact ha), fun _ _ t ht => q t _ (same_new ht) (.inr (.inr ht)) upd_same⟩
end
/-! ### kinds, or what is nearly one -/
def numD : PyData → Option Int
  | .int i => some i
  | .bool b => some (if b = true then 1 else 0)
  | _ => none
def numOk (d : PyData) : Prop := ∃ i, numD d = some i ∧ 0 ≤ i ∧ i ≤ 9
inductive KdOk : PyData → Prop
  | one {d : PyData} (h : numOk d) : KdOk d
  | tup {ds : List PyData} (h : ∀ d ∈ ds, numOk d) (l : ds.length ≤ 3) : KdOk (.tuple ds)
  | lst {ds : List PyData} (h : ∀ d ∈ ds, numOk d) (l : ds.length ≤ 3) : KdOk (.list ds)
theorem num_fit {w k : Nat} {d : PyData} (h : numOk d) : fit w k d ∧ sl d ≤ 14 ∧ (∀ xs, d ≠ .tuple xs) ∧ (∀ xs, d ≠ .list xs) := by
  obtain ⟨i, e, a, b⟩ := h
  cases d with
  | int j =>
    cases e
    exact ⟨int_fit (by omega) (by omega), sl_small (by omega) (by omega), (fun _ z => nomatch z), fun _ z => nomatch z⟩
  | bool c => exact ⟨fit_bl, by simp only [sl]; omega, (fun _ z => nomatch z), fun _ z => nomatch z⟩
  | _ => cases e
theorem kd_fit {e : PyData} (h : KdOk e) : fit 10 1 e ∧ sl e ≤ 60 := by
  cases h with
  | one h => obtain ⟨a, b, _⟩ := num_fit (w := 10) (k := 1) h; exact ⟨a, by omega⟩
  | tup h l =>
    have s := slA_le (n := 14) fun d m => (num_fit (w := 10) (k := 0) (h d m)).2.1
    exact ⟨fit_tup.mpr ⟨by omega, fun d m => (num_fit (h d m)).1⟩, by rw [sl_tup]; omega⟩
  | lst h l =>
    have s := slA_le (n := 14) fun d m => (num_fit (w := 10) (k := 0) (h d m)).2.1
    exact ⟨fit_lst.mpr ⟨by omega, fun d m => (num_fit (h d m)).1⟩, by rw [sl_lst]; omega⟩
/-- a drawn kind -/
def KV (P : Addr → Prop) (G : Hp) (v : V) : Prop := ∃ e, Sh G P false v e ∧ KdOk e
theorem KV.kp {P : Addr → Prop} {G G' : Hp} {v : V} (k : Kp P G G') (h : KV P G v) : KV P G' v := let ⟨e, s, o⟩ := h; ⟨e, sh_kp k s, o⟩
theorem KV.tv {P : Addr → Prop} {G : Hp} {v : V} (h : KV P G v) : TV P G 10 1 60 v := let ⟨e, s, o⟩ := h; ⟨e, s, (kd_fit o).1, (kd_fit o).2⟩
/-- a number or a truth, drawn -/
def NV (v : V) : Prop := ∃ d, numOk d ∧ ((∃ i, v = .int i ∧ d = .int i) ∨ ∃ b, v = .bl b ∧ d = .bool b)
theorem NV.int {i : Int} (a : 0 ≤ i) (b : i ≤ 9) : NV (.int i) := ⟨.int i, ⟨i, rfl, a, b⟩, .inl ⟨i, rfl, rfl⟩⟩
theorem NV.bl {c : Bool} : NV (.bl c) := ⟨.bool c, ⟨_, rfl, by split <;> decide, by split <;> decide⟩, .inr ⟨c, rfl, rfl⟩⟩
theorem NV.sh {P : Addr → Prop} {G : Hp} {v : V} (h : NV v) : ∃ d, numOk d ∧ Sh G P false v d := by
  obtain ⟨d, o, ⟨i, rfl, rfl⟩ | ⟨b, rfl, rfl⟩⟩ := h
  · exact ⟨_, o, .int i⟩
  · exact ⟨_, o, .bl b⟩
theorem nvs {P : Addr → Prop} {G : Hp} : ∀ {vs : List V}, (∀ v ∈ vs, NV v) → ∃ ds, (∀ d ∈ ds, numOk d) ∧ ds.length = vs.length ∧ ShAll G P false vs ds
  | [], _ => ⟨[], (fun _ m => nomatch m), rfl, .nil⟩
  | v :: vs, h => by
    obtain ⟨d, o, s⟩ := NV.sh (P := P) (G := G) (h v List.mem_cons_self)
    obtain ⟨ds, os, l, ss⟩ := nvs (P := P) (G := G) (vs := vs) fun x m => h x (List.mem_cons_of_mem _ m)
    exact ⟨d :: ds, fun x m => (List.mem_cons.mp m).elim (fun e => e ▸ o) (os x), by rw [List.length_cons, List.length_cons, l], .cons s ss⟩
theorem KV.one {P : Addr → Prop} {G : Hp} {v : V} (h : NV v) : KV P G v := let ⟨d, o, s⟩ := NV.sh h; ⟨d, s, .one o⟩
theorem KV.tup {P : Addr → Prop} {G : Hp} {a : Addr} {vs : List V} (h : ∀ v ∈ vs, NV v) (l : vs.length ≤ 3) (pa : P a) (ga : G a = some (.tup vs)) : KV P G (.ref a) := let ⟨ds, o, e, s⟩ := nvs h; ⟨.tuple ds, .tup ga pa s, .tup o (by omega)⟩
theorem KV.lst {P : Addr → Prop} {G : Hp} {a : Addr} {vs : List V} (h : ∀ v ∈ vs, NV v) (l : vs.length ≤ 3) (pa : P a) (ga : G a = some (.lst vs)) : KV P G (.ref a) := let ⟨ds, o, e, s⟩ := nvs h; ⟨.list ds, .lst ga pa (fun z => nomatch z) s, .lst o (by omega)⟩
theorem nv2 {a b : V} (ha : NV a) (hb : NV b) : ∀ v ∈ [a, b], NV v := fun v m => by
  simp only [List.mem_cons, List.not_mem_nil, or_false] at m
  rcases m with rfl | rfl
  · exact ha
  · exact hb
section
variable {P : Program} {w : World} {K : PySem.W.Frag} {mg : Str → Option Value} {base : Heap}
def spNK : Sp := fun vs H Q _ => ∃ (p : Addr) (n : Int), vs = [.ref p] ∧ Purse H p n ∧ n ≤ 99900 ∧ ∀ v G, KV (fun b => b ≠ p ∧ H b = none) G v → Kp (· ≠ p) H G → Purse G p (n + 5) → Q v G
abbrev nNK : List Str := ["_law_purse_here", "_law_width", "_law_many"]
theorem scNK_ : FnScope nNK ["_law_purse_here"] (defScope sNKind) := ⟨rfl, rfl, rfl, by decide +kernel, rfl, by decide +kernel, by decide +kernel⟩
set_option maxHeartbeats 1000000 in
theorem ok_nkind {f ft : Addr} {fd dt : FuncData} (F : Fun K "_law_near_kind" "_law_near_kind" sNKind f fd) (DT : Df K mg "_law_take" ft dt pTake) (GT : FnOk P w K mg base CX0 1 ft dt pTake spTake) : FnOk P w K mg base CX0 2 f fd ["_law_purse_here"] spNK := by
  refine F.ok scNK_ (fun vs H Q E h => ?_) (fun cdv A outer s H vs Q E hr h => ?_)
  · obtain ⟨p, n, rfl, _⟩ := h
    rfl
  · obtain ⟨p, n, rfl, pu, hn, q⟩ := h
    refine ⟨_, (pss_cons (ps_set (i := 1) scNK_.nd rfl (Or.inl rfl) (pe_ix ix_list (pe_lst (pa_cons pe_int (pa_cons pe_int (pa_cons pe_int (pa_cons pe_int (pa_cons (pe_op op_add pe_int (pe_call GT hr (by rfl) DT.at_ DT.kp DT.bd .nil pass0 (pa_cons (pv 0) (pa_cons pe_int pa_nil)))) (pa_cons pe_bl pa_nil))))))) (pe_call GT hr (by rfl) DT.at_ DT.kp DT.bd .nil pass0 (pa_cons (pv 0) (pa_cons pe_int pa_nil))) (fun _ _ => rfl)))
      (pss_cons (ps_set (i := 2) scNK_.nd rfl (Or.inl rfl) (pe_ix ix_list (pe_lst (pa_cons pe_int (pa_cons pe_int (pa_cons pe_int (pa_cons pe_int (pa_cons (pe_op op_add pe_int (pe_call GT hr (by rfl) DT.at_ DT.kp DT.bd .nil pass0 (pa_cons (pv 0) (pa_cons pe_int pa_nil)))) (pa_cons pe_bl pa_nil))))))) (pe_call GT hr (by rfl) DT.at_ DT.kp DT.bd .nil pass0 (pa_cons (pv 0) (pa_cons pe_int pa_nil))) (fun _ _ => rfl)))
      (pss_one (ps_ret (pe_ix ix_list (pe_lst (pa_cons (pv 1) (pa_cons (pe_tup (pa_cons (pv 2) (pa_cons (pv 1) pa_nil))) (pa_cons (pe_tup (pa_cons (pv 2) (pa_cons (pv 1) pa_nil))) (pa_cons (pe_lst (pa_cons (pv 2) (pa_cons (pv 1) pa_nil))) (pa_cons (pe_tup (pa_cons (pv 2) (pa_cons (pv 1) (pa_cons pe_int pa_nil)))) (pa_cons (pe_tup (pa_cons (pv 2) pa_nil)) pa_nil))))))) (pe_call GT hr (by rfl) DT.at_ DT.kp DT.bd .nil pass0 (pa_cons (pv 0) (pa_cons pe_int pa_nil))) (fun _ _ => rfl)))))), ?_⟩
    refine take_ok (i := 0) rfl pu (by omega) (by decide) (by decide) fun d1 G1 d10 d11 k1 pu1 => ⟨_, _, rfl, rfl, ?_⟩
    refine disp_take (xs := [.int 1, .int 8, .int 9, .int 0, .int (1 + d1), .bl true]) (i := 0) rfl pu1 (by omega) rfl (by decide) (by decide) fun wv G2 mv k2 pu2 => ?_
    have nw : NV wv := by
      simp only [List.mem_cons, List.not_mem_nil, or_false] at mv
      rcases mv with rfl | rfl | rfl | rfl | rfl | rfl
      · exact .int (by decide) (by decide)
      · exact .int (by decide) (by decide)
      · exact .int (by decide) (by decide)
      · exact .int (by decide) (by decide)
      · exact .int (by omega) (by omega)
      · exact .bl
    clear mv
    have k02 := k1.trans k2
    refine take_ok (i := 0) rfl pu2 (by omega) (by decide) (by decide) fun d2 G3 d20 d21 k3 pu3 => ⟨_, _, rfl, rfl, ?_⟩
    refine disp_take (xs := [.int 1, .int 2, .int 4, .int 5, .int (2 + d2), .bl true]) (i := 0) rfl pu3 (by omega) rfl (by decide) (by decide) fun mw G4 mv k4 pu4 => ?_
    have nm : NV mw := by
      simp only [List.mem_cons, List.not_mem_nil, or_false] at mv
      rcases mv with rfl | rfl | rfl | rfl | rfl | rfl
      · exact .int (by decide) (by decide)
      · exact .int (by decide) (by decide)
      · exact .int (by decide) (by decide)
      · exact .int (by decide) (by decide)
      · exact .int (by omega) (by omega)
      · exact .bl
    clear mv
    have k04 := (k02.trans k3).trans k4
    refine ⟨_, rfl, _, rfl, _, rfl, by show 2 ≤ sizeLine; decide, fun t1 h1 => ⟨_, rfl, _, rfl, by show 2 ≤ sizeLine; decide, fun t2 h2 => ⟨_, rfl, _, rfl, by show 2 ≤ sizeLine; decide, fun t3 h3 => ⟨_, rfl, _, rfl, by show 3 ≤ sizeLine; decide, fun t4 h4 => ⟨_, rfl, by show 1 ≤ sizeLine; decide, fun t5 h5 => ?_⟩⟩⟩⟩⟩
    have s1 : Same G4 (upd G4 t1 (.tup [mw, wv])) := same_new h1
    have f1 : (upd G4 t1 (.tup [mw, wv])) t1 = some (.tup [mw, wv]) := upd_same
    generalize upd G4 t1 (.tup [mw, wv]) = A1 at s1 f1 h2 h3 h4 h5
    have s2 : Same A1 (upd A1 t2 (.tup [mw, wv])) := same_new h2
    have f2 : (upd A1 t2 (.tup [mw, wv])) t2 = some (.tup [mw, wv]) := upd_same
    generalize upd A1 t2 (.tup [mw, wv]) = A2 at s2 f2 h3 h4 h5
    have s3 : Same A2 (upd A2 t3 (.lst [mw, wv])) := same_new h3
    have f3 : (upd A2 t3 (.lst [mw, wv])) t3 = some (.lst [mw, wv]) := upd_same
    generalize upd A2 t3 (.lst [mw, wv]) = A3 at s3 f3 h4 h5
    have s4 : Same A3 (upd A3 t4 (.tup [mw, wv, .int 1])) := same_new h4
    have f4 : (upd A3 t4 (.tup [mw, wv, .int 1])) t4 = some (.tup [mw, wv, .int 1]) := upd_same
    generalize upd A3 t4 (.tup [mw, wv, .int 1]) = A4 at s4 f4 h5
    have s5 : Same A4 (upd A4 t5 (.tup [mw])) := same_new h5
    have f5 : (upd A4 t5 (.tup [mw])) t5 = some (.tup [mw]) := upd_same
    generalize upd A4 t5 (.tup [mw]) = A5 at s5 f5
    have pA1 := pu4.same s1
    have pA2 := pA1.same s2
    have pA3 := pA2.same s3
    have pA4 := pA3.same s4
    have pA5 := pA4.same s5
    refine disp_take (xs := [wv, .ref t1, .ref t2, .ref t3, .ref t4, .ref t5]) (i := 0) rfl pA5 (by omega) rfl (by decide) (by decide) fun v G6 mv k6 pu6 => ?_
    have k06 : Kp (· ≠ p) H G6 := fun b o nb e => k6 b o nb (s5 _ _ (s4 _ _ (s3 _ _ (s2 _ _ (s1 _ _ (k04 b o nb e))))))
    refine q v G6 ?_ k06 (pu6.mono (by omega))
    have fr : ∀ {a : Addr}, G4 a = none → a ≠ p ∧ H a = none := fun h => ⟨pu4.ne h, pu4.back k04 h⟩
    have n1 := fr h1
    have n2 := fr (s1.free h2)
    have n3 := fr ((s1.trans s2).free h3)
    have n4 := fr (((s1.trans s2).trans s3).free h4)
    have n5 := fr ((((s1.trans s2).trans s3).trans s4).free h5)
    have nn := nv2 nm nw
    simp only [List.mem_cons, List.not_mem_nil, or_false] at mv
    rcases mv with rfl | rfl | rfl | rfl | rfl | rfl
    · exact .one nw
    · exact .tup nn (by simp) n1 (k6 _ _ n1.1 (s5 _ _ (s4 _ _ (s3 _ _ (s2 _ _ f1)))))
    · exact .tup nn (by simp) n2 (k6 _ _ n2.1 (s5 _ _ (s4 _ _ (s3 _ _ f2))))
    · exact .lst nn (by simp) n3 (k6 _ _ n3.1 (s5 _ _ (s4 _ _ f3)))
    · refine .tup (vs := [mw, wv, .int 1]) (fun x m => ?_) (by simp) n4 (k6 _ _ n4.1 (s5 _ _ f4))
      simp only [List.mem_cons, List.not_mem_nil, or_false] at m
      rcases m with rfl | rfl | rfl
      · exact nm
      · exact nw
      · exact .int (by decide) (by decide)
    · refine .tup (vs := [mw]) (fun x m => ?_) (by simp) n5 (k6 _ _ n5.1 f5)
      rw [List.mem_singleton.mp m]
      exact nm
end
end A1
end Bf

namespace Bf
open PySem PySem.Spec PyProof.Rows L2
namespace A1
theorem TL.on {P P' : Addr → Prop} {G : Hp} {W k m L : Nat} {vs : List V} (hp : ∀ a, P a → P' a) (h : TL P G W k m L vs) : TL P' G W k m L vs := let ⟨d, a, b, c⟩ := h; ⟨d, ShAll.on (fun x _ f _ => hp x f) (fun _ _ _ e => e) d vs a, b, c⟩
theorem abcd : ∀ y ∈ (["a", "b", "c", "d"] : List Str), (∀ c ∈ y.cps.toList, c < 16 ^ 8) ∧ y.cps.size ≤ 19 := by decide +kernel
section
variable {P : Program} {w : World} {K : PySem.W.Frag} {mg : Str → Option Value} {base : Heap}
def spNC : Sp := fun vs H Q _ => ∃ (p : Addr) (n : Int), vs = [.ref p] ∧ Purse H p n ∧ n ≤ 99000 ∧ ∀ v G, TV (fun b => b ≠ p ∧ H b = none) G 10 3 1000 v → Kp (· ≠ p) H G → Purse G p (n + 70) → Q v G
abbrev nNC : List Str := ["_law_purse_here", "_law_found", "_law_turn", "_law_name", "_law_truth", "_law_one"]
theorem scNC : FnScope nNC ["_law_purse_here"] (defScope sNClock) := ⟨rfl, rfl, rfl, by decide +kernel, rfl, by decide +kernel, by decide +kernel⟩
set_option maxHeartbeats 2000000 in
theorem ok_nclock {f ft fn : Addr} {fd dt dn : FuncData} (F : Fun K "_law_near_clock" "_law_near_clock" sNClock f fd) (DT : Df K mg "_law_take" ft dt pTake) (GT : FnOk P w K mg base CX0 1 ft dt pTake spTake)
    (DN : Df K mg "_law_near_name" fn dn ["_law_purse_here"]) (GN : FnOk P w K mg base CX0 2 fn dn ["_law_purse_here"] spNN) (mr : mg "range" = none) (mL : mg "list" = none) (mt : mg "tuple" = none) : FnOk P w K mg base CX0 3 f fd ["_law_purse_here"] spNC := by
  refine F.ok scNC (fun vs H Q E h => ?_) (fun cdv A outer s H vs Q E hr h => ?_)
  · obtain ⟨p, n, rfl, _⟩ := h
    rfl
  · obtain ⟨p, n, rfl, pu, hn, q⟩ := h
    have hr1 := hr.mono (by decide : 1 ≤ 2)
    refine ⟨_, (pss_cons (ps_set (i := 1) scNC.nd rfl (Or.inl rfl) (pe_lst pa_nil))
      (pss_cons (ps_for PassesOwn.never rfl (pi_range1 (by rfl) mr (pa_cons (pe_call GT hr1 (by rfl) DT.at_ DT.kp DT.bd .nil pass0 (pa_cons (pv 0) (pa_cons pe_int pa_nil))) pa_nil)) (pg_name (i := 2) scNC.nd rfl (Or.inl rfl))
        (pss_cons (ps_set (i := 3) scNC.nd rfl (Or.inl rfl) (pe_ix ix_list (pe_lst (pa_cons (pe_call GN hr (by rfl) DN.at_ DN.kp DN.bd .nil pass0 (pa_cons (pv 0) pa_nil)) (pa_cons pe_str (pa_cons pe_str (pa_cons pe_str (pa_cons pe_str pa_nil)))))) (pe_call GT hr1 (by rfl) DT.at_ DT.kp DT.bd .nil pass0 (pa_cons (pv 0) (pa_cons pe_int pa_nil))) (fun _ _ => rfl)))
        (pss_cons (ps_set (i := 4) scNC.nd rfl (Or.inl rfl) (pe_ix ix_list (pe_lst (pa_cons pe_int (pa_cons pe_int (pa_cons pe_int (pa_cons pe_int (pa_cons pe_int (pa_cons pe_int (pa_cons pe_int (pa_cons pe_bl (pa_cons pe_non pa_nil)))))))))) (pe_call GT hr1 (by rfl) DT.at_ DT.kp DT.bd .nil pass0 (pa_cons (pv 0) (pa_cons pe_int pa_nil))) (fun _ _ => rfl)))
        (pss_cons (ps_set (i := 5) scNC.nd rfl (Or.inl rfl) (pe_tup (pa_cons (pv 3) (pa_cons (pv 4) pa_nil))))
        (pss_one (ps_expr (pe_bm PySem.F.plainAttrs_list PySem.F.slot_list_append PySem.F.type_list_append mt_append (pv 1) (pa_cons (pe_ix ix_list (pe_lst (pa_cons (pv 5) (pa_cons (pv 5) (pa_cons (pv 5) (pa_cons (pv 5) (pa_cons (pv 5) (pa_cons (pe_callTy call_listN (by rfl) mL (by decide +kernel) (pa_cons (pv 5) pa_nil)) (pa_cons (pe_op op_catA (pv 5) (pe_tup (pa_cons pe_int pa_nil))) (pa_cons (pe_slice sl_tupA (pv 5) po_none (po_some pe_int)) pa_nil)))))))))
            (pe_call GT hr1 (by rfl) DT.at_ DT.kp DT.bd .nil pass0 (pa_cons (pv 0) (pa_cons pe_int pa_nil))) (fun _ _ => rfl)) pa_nil))))))))
      (pss_one (ps_ret (pe_ix ix_list (pe_lst (pa_cons (pe_callTy call_tuple_of (by rfl) mt (by decide +kernel) (pa_cons (pv 1) pa_nil)) (pa_cons (pe_callTy call_tuple_of (by rfl) mt (by decide +kernel) (pa_cons (pv 1) pa_nil)) (pa_cons (pe_callTy call_tuple_of (by rfl) mt (by decide +kernel) (pa_cons (pv 1) pa_nil)) (pa_cons (pv 1) pa_nil))))) (pe_call GT hr1 (by rfl) DT.at_ DT.kp DT.bd .nil pass0 (pa_cons (pv 0) (pa_cons pe_int pa_nil))) (fun _ _ => rfl)))))), ?_⟩
    refine ⟨by show 0 ≤ sizeLine; decide, fun L hL => ?_⟩
    have nL := pu.ne hL
    have s0 : Same H (upd H L (.lst [])) := same_new hL
    have g0 : (upd H L (.lst [])) L = some (.lst []) := upd_same
    generalize upd H L (.lst []) = H1 at s0 g0
    have pu1 := pu.same s0
    refine take_ok (i := 0) rfl pu1 (by omega) (by decide) (by decide) fun d G d0 d1 k1 pu2 => ⟨d, rfl, by omega, by omega, ?_⟩
    refine for_range (lo := 0) (n := d.toNat) (fun i σ G => ∃ v2 v3 v4 v5 vs, σ = [some (.ref p), some (.ref L), v2, v3, v4, v5] ∧ Kp (· ≠ p) H G ∧ G L = some (.lst vs) ∧ TL (fun b => (b ≠ p ∧ H b = none) ∧ b ≠ L) G 10 2 (240 * i) i vs ∧ Purse G p (n + 1 + 16 * (i : Int)))
      ⟨_, _, _, _, [], rfl, (kp_same s0).trans k1, k1 _ _ nL g0, TL.nil.mono (Nat.le_refl _) (Nat.le_refl _) (by omega) (by omega), pu2.mono (by omega)⟩ (fun i σ G hi pv => ?_) fun σ G pv => ?_
    · obtain ⟨v2, v3, v4, v5, vs, rfl, kG, gL, tl, pG⟩ := pv
      have hi5 : i ≤ 4 := by omega
      dsimp only [gName]
      -- the name
      refine ⟨_, rfl, p, _, rfl, pG, by omega, fun z G1 nz k1 pu1 => ?_⟩
      refine disp_take (xs := [.str z, .str "a", .str "b", .str "c", .str "d"]) (i := 0) rfl pu1 (by omega) rfl (by decide) (by decide) fun v G2 mv k2 pu2 => ?_
      obtain ⟨y, rfl, ny⟩ : ∃ y, v = V.str y ∧ nmB 19 y := by
        simp only [List.mem_cons, List.not_mem_nil, or_false] at mv
        rcases mv with rfl | rfl | rfl | rfl | rfl
        · exact ⟨_, rfl, nz⟩
        · exact ⟨_, rfl, abcd _ (by decide)⟩
        · exact ⟨_, rfl, abcd _ (by decide)⟩
        · exact ⟨_, rfl, abcd _ (by decide)⟩
        · exact ⟨_, rfl, abcd _ (by decide)⟩
      clear mv nz
      have k02 := k1.trans k2
      -- its truth
      dsimp only [gName]
      refine disp_take (xs := [.int 0, .int 1, .int 0, .int 1, .int 0, .int 1, .int 2, .bl true, .non]) (i := 0) rfl pu2 (by omega) rfl (by decide) (by decide) fun tv G3 mv k3 pu3 => ?_
      have tT : ∀ {P' : Addr → Prop} {G' : Hp}, TV P' G' 10 1 14 tv := fun {P' G'} => by
        simp only [List.mem_cons, List.not_mem_nil, or_false] at mv
        rcases mv with rfl | rfl | rfl | rfl | rfl | rfl | rfl | rfl | rfl
        · exact .int (by decide) (by decide)
        · exact .int (by decide) (by decide)
        · exact .int (by decide) (by decide)
        · exact .int (by decide) (by decide)
        · exact .int (by decide) (by decide)
        · exact .int (by decide) (by decide)
        · exact .int (by decide) (by decide)
        · exact .bl
        · exact .non
      clear mv
      have k03 := k02.trans k3
      dsimp only [gName]
      -- the pair
      refine ⟨_, rfl, _, rfl, by show 2 ≤ sizeLine; decide, fun t ht => ?_⟩
      have nt := pu3.ne ht
      have fr : ∀ {a : Addr}, G3 a = none → a ≠ p ∧ H a = none := fun h => ⟨pu3.ne h, pu3.back (kG.trans k03) h⟩
      have ft := fr ht
      have gL3 := k03 _ _ nL gL
      have tL : t ≠ L := fun e => by rw [e, gL3] at ht; cases ht
      have s4 : Same G3 (upd G3 t (.tup [.str y, tv])) := same_new ht
      have f4 : (upd G3 t (.tup [.str y, tv])) t = some (.tup [.str y, tv]) := upd_same
      generalize upd G3 t (.tup [.str y, tv]) = G4 at s4 f4
      have pu4 := pu3.same s4
      have gL4 := s4 _ _ gL3
      dsimp only [gName]
      refine ⟨_, rfl, .inl ⟨rfl, _, SqL.of gL4⟩, ?_⟩
      refine ⟨_, rfl, _, rfl, _, rfl, _, rfl, _, rfl, _, rfl, t, _, rfl, .inr (SqT.of f4), fun l hl _ => ?_⟩
      have nl := pu4.ne hl
      have fl := fr (s4.free hl)
      have lL : l ≠ L := fun e => by rw [e, gL4] at hl; cases hl
      have s5 : Same G4 (upd G4 l (.lst [.str y, tv])) := same_new hl
      have f5 : (upd G4 l (.lst [.str y, tv])) l = some (.lst [.str y, tv]) := upd_same
      generalize upd G4 l (.lst [.str y, tv]) = G5 at s5 f5
      have f45 := s5 _ _ f4
      have gL5 := s5 _ _ gL4
      have pu5 := pu4.same s5
      refine ⟨_, rfl, by show 1 ≤ sizeLine; decide, fun u hu => ?_⟩
      have s6 : Same G5 (upd G5 u (.tup [.int 0])) := same_new hu
      have f6 : (upd G5 u (.tup [.int 0])) u = some (.tup [.int 0]) := upd_same
      have nu := pu5.ne hu
      have fu := fr ((s4.trans s5).free hu)
      have uL : u ≠ L := fun e => by rw [e, gL5] at hu; cases hu
      generalize upd G5 u (.tup [.int 0]) = G6 at s6 f6
      refine cat_ok (s6 _ _ f45) f6 (by show 2 + 1 ≤ 100000; decide) fun c G7 s7 hc f7 => ?_
      have pu6 := pu5.same s6
      have gL6 := s6 _ _ gL5
      have nc : (c ≠ p ∧ H c = none) ∧ c ≠ L := by
        rcases hc with rfl | rfl | hc
        · exact ⟨ft, tL⟩
        · exact ⟨fu, uL⟩
        · exact ⟨fr (((s4.trans s5).trans s6).free hc), fun e => by rw [e, gL6] at hc; cases hc⟩
      have pu7 := pu6.same s7
      have gL7 := s7 _ _ gL6
      have f47 := s7 _ _ (s6 _ _ f45)
      refine ⟨_, rfl, 1, rfl, sl_ok f47 fun e G8 s8 he f8 => ?_⟩
      have ne_ : (e ≠ p ∧ H e = none) ∧ e ≠ L := by
        rcases he with rfl | he
        · exact ⟨ft, tL⟩
        · exact ⟨fr ((((s4.trans s5).trans s6).trans s7).free he), fun e => by rw [e, gL7] at he; cases he⟩
      have pu8 := pu7.same s8
      refine disp_take (xs := [.ref t, .ref t, .ref t, .ref t, .ref t, .ref l, .ref c, .ref e]) (i := 0) rfl pu8 (by omega) rfl (by decide) (by decide) fun v G9 mv k9 pu9 => ?_
      have s48 := (((s5.trans s6).trans s7).trans s8)
      have k49 : Kp (fun b => (b ≠ p ∧ H b = none) ∧ b ≠ L) G4 G9 := fun b o nb h => k9 b o nb.1.1 (s48 _ _ h)
      have k0 : Kp (· ≠ p) G G9 := fun b o nb h => k9 b o nb (s48 _ _ (s4 _ _ (k03 b o nb h)))
      have gL9 := k9 _ _ nL (s8 _ _ gL7)
      have yT : ∀ {P' : Addr → Prop} {G' : Hp}, TV P' G' 10 1 193 (.str y) := TV.str' ny (by decide)
      have pair : ∀ {P' : Addr → Prop} {G' : Hp}, TL P' G' 10 1 211 2 [.str y, tv] := fun {_ _} => (TL.cons yT (TL.one tT)).mono (Nat.le_refl _) (Nat.le_refl _) (by omega) (by omega)
      have tvv : TV (fun b => (b ≠ p ∧ H b = none) ∧ b ≠ L) G9 10 2 236 v := by
        simp only [List.mem_cons, List.not_mem_nil, or_false] at mv
        have o1 : TV (fun b => (b ≠ p ∧ H b = none) ∧ b ≠ L) G9 10 2 236 (.ref t) := (TV.tup pair ⟨ft, tL⟩ (k49 _ _ ⟨ft, tL⟩ f4) (by decide)).mono (Nat.le_refl _) (Nat.le_refl _) (by decide)
        rcases mv with rfl | rfl | rfl | rfl | rfl | rfl | rfl | rfl
        · exact o1
        · exact o1
        · exact o1
        · exact o1
        · exact o1
        · exact (TV.lst pair ⟨fl, lL⟩ (k9 _ _ nl (s8 _ _ (s7 _ _ (s6 _ _ f5)))) (by decide)).mono (Nat.le_refl _) (Nat.le_refl _) (by decide)
        · exact (TV.tup (TL.app pair (TL.one (TV.int (i := 0) (by decide) (by decide)))) nc (k9 _ _ nc.1.1 (s8 _ _ f7)) (by decide)).mono (Nat.le_refl _) (Nat.le_refl _) (by decide)
        · exact (TV.tup (TL.cut pair none (some 1)) ne_ (k9 _ _ ne_.1.1 f8) (by decide)).mono (Nat.le_refl _) (Nat.le_refl _) (by decide)
      clear mv
      have lv : vs.length ≤ i := by obtain ⟨_, _, _, _, l⟩ := tl; exact l
      refine ⟨L, _, _, rfl, rfl, gL9, by rw [sizeLine_eq]; omega, _, _, _, _, vs ++ [v], rfl, fun b o nb h => ?_, upd_same, ?_, ?_⟩
      · rw [upd_ne (ne_of_none h hL)]
        exact k0 b o nb (kG b o nb h)
      · have kU : Kp (fun b => (b ≠ p ∧ H b = none) ∧ b ≠ L) G9 (upd G9 L (.lst (vs ++ [v]))) := fun b o nb h => by rw [upd_ne nb.2]; exact h
        have k0' : Kp (fun b => (b ≠ p ∧ H b = none) ∧ b ≠ L) G G9 := fun b o nb h => k0 b o nb.1.1 h
        exact ((tl.kp (k0'.trans kU)).app (TL.one (tvv.kp kU))).mono (Nat.le_refl _) (Nat.le_refl _) (by omega) (by omega)
      · exact (pu9.mono (m := n + 1 + 16 * ((i + 1 : Nat) : Int)) (by omega)).of (upd_ne nL.symm)
    · obtain ⟨v2, v3, v4, v5, vs, rfl, kG, gL, tl, pG⟩ := pv
      have hd : d.toNat ≤ 4 := by omega
      have tlp : TL (fun b => b ≠ p ∧ H b = none) G 10 2 960 4 vs := (tl.on fun b h => h.1).mono (Nat.le_refl _) (Nat.le_refl _) (by omega) (by omega)
      refine ⟨_, rfl, L, _, rfl, .inl ⟨SqL.of gL, fun t1 h1 => ?_⟩⟩
      have s1 : Same G (upd G t1 (.tup vs)) := same_new h1
      have f1 : (upd G t1 (.tup vs)) t1 = some (.tup vs) := upd_same
      generalize upd G t1 (.tup vs) = A1 at s1 f1
      have p1 := pG.same s1
      refine ⟨_, rfl, L, _, rfl, .inl ⟨SqL.of (s1 _ _ gL), fun t2 h2 => ?_⟩⟩
      have s2 : Same A1 (upd A1 t2 (.tup vs)) := same_new h2
      have f2 : (upd A1 t2 (.tup vs)) t2 = some (.tup vs) := upd_same
      generalize upd A1 t2 (.tup vs) = A2 at s2 f2
      have p2 := p1.same s2
      refine ⟨_, rfl, L, _, rfl, .inl ⟨SqL.of (s2 _ _ (s1 _ _ gL)), fun t3 h3 => ⟨_, rfl, ?_⟩⟩⟩
      have s3 : Same A2 (upd A2 t3 (.tup vs)) := same_new h3
      have f3 : (upd A2 t3 (.tup vs)) t3 = some (.tup vs) := upd_same
      generalize upd A2 t3 (.tup vs) = A3 at s3 f3
      have p3 := p2.same s3
      refine disp_take (xs := [.ref t1, .ref t2, .ref t3, .ref L]) (i := 0) rfl p3 (by omega) rfl (by decide) (by decide) fun v G9 mv k9 pu9 => ?_
      have s03 := (s1.trans s2).trans s3
      have k09 : Kp (· ≠ p) G G9 := fun b o nb h => k9 b o nb (s03 _ _ h)
      refine q v G9 ?_ (kG.trans k09) (pu9.mono (by omega))
      have tl9 := tlp.kp (G' := G9) fun b o nb h => k09 b o nb.1 h
      simp only [List.mem_cons, List.not_mem_nil, or_false] at mv
      rcases mv with rfl | rfl | rfl | rfl
      · exact (TV.tup tl9 ⟨pG.ne h1, pG.back kG h1⟩ (k9 _ _ (pG.ne h1) (s3 _ _ (s2 _ _ f1))) (by decide)).mono (Nat.le_refl _) (Nat.le_refl _) (by decide)
      · exact (TV.tup tl9 ⟨p1.ne h2, pG.back kG (s1.free h2)⟩ (k9 _ _ (p1.ne h2) (s3 _ _ f2)) (by decide)).mono (Nat.le_refl _) (Nat.le_refl _) (by decide)
      · exact (TV.tup tl9 ⟨p2.ne h3, pG.back kG ((s1.trans s2).free h3)⟩ (k9 _ _ (p2.ne h3) f3) (by decide)).mono (Nat.le_refl _) (Nat.le_refl _) (by decide)
      · exact (TV.lst tl9 ⟨nL, hL⟩ (k09 _ _ nL gL) (by decide)).mono (Nat.le_refl _) (Nat.le_refl _) (by decide)
end
end A1
end Bf

namespace Bf
open PySem PySem.Spec PyProof.Rows L2
namespace A1
/-- a small number or a truth -/
def SV (v : V) : Prop := (∃ i, v = .int i ∧ -1 ≤ i ∧ i ≤ 256) ∨ ∃ b, v = .bl b
theorem SV.tv {P : Addr → Prop} {G : Hp} {W k : Nat} {v : V} (h : SV v) : TV P G W k 14 v := by
  rcases h with ⟨i, rfl, a, b⟩ | ⟨b, rfl⟩
  · exact TV.int (by omega) (by omega)
  · exact TV.bl
theorem svs {P : Addr → Prop} {G : Hp} : ∀ {vs : List V}, (∀ v ∈ vs, SV v) → TL P G 10 1 (16 * vs.length) vs.length vs
  | [], _ => TL.nil.mono (Nat.le_refl _) (Nat.le_refl _) (by omega) (by simp)
  | v :: vs, h => (TL.cons (SV.tv (h v List.mem_cons_self)) (svs fun x m => h x (List.mem_cons_of_mem _ m))).mono (Nat.le_refl _) (Nat.le_refl _) (by rw [List.length_cons]; omega) (Nat.le_refl _)
section
variable {P : Program} {w : World} {K : PySem.W.Frag} {mg : Str → Option Value} {base : Heap}
/-- the last of the numeric way: a worth at the bounds, or drawn -/
theorem top_ok {σ : L2.St} {p : Addr} {n T : Int} {E : XK} {H : Hp} {Q : VK} (h0 : σ[0]? = some (some (.ref p))) (h2 : σ[2]? = some (some (.int T))) (t1 : 2 ≤ T) (t2 : T ≤ 256) (pu : Purse H p n) (hn : n ≤ 99900)
    (q : ∀ v G, SV v → Kp (· ≠ p) H G → Purse G p (n + 2) → Q v G) :
    tOp (rIxL K) (tLst (tCons (tC (.int 0)) (tCons (tOp (rI0 fun i j => .int (i - j)) (tVar 2) (tC (.int 1))) (tCons (tVar 2) (tCons (tUn (rU fun i => V.int (-i)) (tC (.int 1))) (tCons (tCall spTake [] E (tCons (tVar 0) (tCons (tVar 2) tNil))) (tCons (tC (.bl true)) tNil)))))))
      (tCall spTake [] E (tCons (tVar 0) (tCons (tC (.int 6)) tNil))) σ H Q := by
  refine ⟨_, h2, _, _, rfl, rfl, _, h2, 1, rfl, _, h0, _, h2, p, T, n, rfl, pu, by omega, by omega, by omega, fun d G d0 d1 pu1 eq => ?_⟩
  refine disp_take (xs := [.int 0, .int (T - 1), .int T, .int (-1), .int d, .bl true]) h0 pu1 (by omega) rfl (by decide) (by decide) fun v G2 mv k2 pu2 => ?_
  refine q v G2 ?_ ((kp_take eq).trans k2) (pu2.mono (by omega))
  simp only [List.mem_cons, List.not_mem_nil, or_false] at mv
  rcases mv with rfl | rfl | rfl | rfl | rfl | rfl
  · exact .inl ⟨_, rfl, by decide, by decide⟩
  · exact .inl ⟨_, rfl, by omega, by omega⟩
  · exact .inl ⟨_, rfl, by omega, by omega⟩
  · exact .inl ⟨_, rfl, by decide, by decide⟩
  · exact .inl ⟨_, rfl, by omega, by omega⟩
  · exact .inr ⟨_, rfl⟩
def spNW (deep : Bool) : Sp := fun vs H Q _ => ∃ (p : Addr) (n : Int) (k : V), vs = [.ref p, k] ∧ Purse H p n ∧ n + (if deep = true then 30 else 2) ≤ 99500 ∧ KV (· ≠ p) H k ∧ (deep = true ∨ NV k) ∧ ∀ v G, TV (fun b => b ≠ p ∧ H b = none) G 10 2 200 v → (NV k → SV v) → Kp (· ≠ p) H G → Purse G p (n + if deep = true then 30 else 2) → Q v G
def spNWI (deep : Bool) : Sp := fun vs H Q E => deep = true ∧ spNW false vs H Q E
abbrev nNW : List Str := ["_law_purse_here", "_law_kind", "_law_top", "_law_many", "_law_found", "_law_k"]
abbrev pNW : List Str := ["_law_purse_here", "_law_kind"]
theorem scNW : FnScope nNW pNW (defScope sNWorth) := ⟨rfl, rfl, rfl, by decide +kernel, rfl, by decide +kernel, by decide +kernel⟩
theorem shl_in {i : Int} (a : 1 ≤ i) (b : i ≤ 8) : 2 ≤ 1 * (2 : Int) ^ i.toNat ∧ 1 * (2 : Int) ^ i.toNat ≤ 256 := by
  have : i = 1 ∨ i = 2 ∨ i = 3 ∨ i = 4 ∨ i = 5 ∨ i = 6 ∨ i = 7 ∨ i = 8 := by omega
  rcases this with rfl | rfl | rfl | rfl | rfl | rfl | rfl | rfl <;> decide
theorem numV_of {v : V} (h : NV v) : ∃ i, numV v = some i ∧ 0 ≤ i ∧ i ≤ 9 := by
  obtain ⟨d, ⟨i, e, a, b⟩, ⟨j, rfl, rfl⟩ | ⟨c, rfl, rfl⟩⟩ := h
  · cases e; exact ⟨_, rfl, a, b⟩
  · cases e; exact ⟨_, rfl, a, b⟩
theorem nv_of {H : Hp} {P : Addr → Prop} {v : V} {d : PyData} (h : Sh H P false v d) (o : numOk d) : NV v := by
  obtain ⟨i, e, a, b⟩ := o
  cases h with
  | int j => exact ⟨_, ⟨i, e, a, b⟩, .inl ⟨_, rfl, rfl⟩⟩
  | bl c => exact ⟨_, ⟨i, e, a, b⟩, .inr ⟨_, rfl, rfl⟩⟩
  | _ => cases e
theorem nv_isInt {v : V} {H : Hp} {Q : VK} (h : NV v) (q : Q (.bl true) H) : rIsB K [v, .ty "int"] H Q := by
  obtain ⟨d, o, ⟨i, rfl, rfl⟩ | ⟨b, rfl, rfl⟩⟩ := h
  · exact kn_is (.int i) (by decide) q
  · exact kn_is (.bl b) (by decide) q
set_option maxHeartbeats 2000000 in
theorem ok_nworth {f ft : Addr} {fd dt : FuncData} {lev : Nat} (deep : Bool) (hl : 1 ≤ lev) (F : Fun K "_law_near_worth" "_law_near_worth" sNWorth f fd) (DS : Df K mg "_law_near_worth" f fd pNW) (GS : FnOk P w K mg base CX0 lev f fd pNW (spNWI deep))
    (DT : Df K mg "_law_take" ft dt pTake) (GT : FnOk P w K mg base CX0 1 ft dt pTake spTake)
    (mi : mg "isinstance" = none) (mt : mg "tuple" = none) (mI : mg "int" = none) (mb : mg "bool" = none) (ml : mg "len" = none) (mr : mg "range" = none) : FnOk P w K mg base CX0 (lev + 1) f fd pNW (spNW deep) := by
  refine F.ok scNW (fun vs H Q E h => ?_) (fun cdv A outer s H vs Q E hr h => ?_)
  · obtain ⟨p, n, k, rfl, _⟩ := h
    rfl
  · obtain ⟨p, n, k, rfl, pu, hn, ⟨e, sh, ko⟩, hd, q⟩ := h
    have hr1 := hr.mono hl
    refine ⟨_, (pss_cons (ps_if (PW.pt (pw_or (pt_not (pt_val (pe_callB call_isB (by rfl) mi (by decide +kernel) (pa_cons (pv 1) (pa_cons (pe_bltn (v := .ty "tuple") (by rfl) mt (by decide +kernel) rfl) pa_nil))))) (pw_or (pt_cmpR op_ne (pe_callB call_len_seq (by rfl) ml PySem.boot_len (pa_cons (pv 1) pa_nil)) pe_int (nomark _)) (pw_or1 (pt_not (pt_val (pe_callB call_isB (by rfl) mi (by decide +kernel) (pa_cons (pe_ix ix_tup (pv 1) pe_int (fun _ _ => rfl)) (pa_cons (pe_bltn (v := .ty "int") (by rfl) mI (by decide +kernel) rfl) pa_nil))))))))) (pss_cons (ps_set (i := 2) scNW.nd rfl (Or.inl rfl) (pe_ifExp (PW.pt (pw_and (pt_val (pe_callB call_isB (by rfl) mi (by decide +kernel) (pa_cons (pv 1) (pa_cons (pe_bltn (v := .ty "int") (by rfl) mI (by decide +kernel) rfl) pa_nil)))) (pw_and (pt_not (pt_val (pe_callB call_isB (by rfl) mi (by decide +kernel) (pa_cons (pv 1) (pa_cons (pe_bltn (v := .ty "bool") (by rfl) mb (by decide +kernel) rfl) pa_nil))))) (pw_and1 (pt_chain op_lt op_lt pe_int (pv 1) pe_int))))) (pe_op op_shl pe_int (pv 1)) pe_int))
        (pss_one (ps_ret (pe_ix ix_list (pe_lst (pa_cons pe_int (pa_cons (pe_op op_sub (pv 2) pe_int) (pa_cons (pv 2) (pa_cons (pe_un un_neg pe_int) (pa_cons (pe_call GT hr1 (by rfl) DT.at_ DT.kp DT.bd .nil pass0 (pa_cons (pv 0) (pa_cons (pv 2) pa_nil))) (pa_cons pe_bl pa_nil))))))) (pe_call GT hr1 (by rfl) DT.at_ DT.kp DT.bd .nil pass0 (pa_cons (pv 0) (pa_cons pe_int pa_nil))) (fun _ _ => rfl))))) pss_nil)
        (Evl.pss_cut (ps_set (i := 3) scNW.nd rfl (Or.inl rfl) (pe_ifExp (PW.pt (pw_and (pt_val (pe_callB call_isB (by rfl) mi (by decide +kernel) (pa_cons (pe_ix ix_tup (pv 1) pe_int (fun _ _ => rfl)) (pa_cons (pe_bltn (v := .ty "int") (by rfl) mI (by decide +kernel) rfl) pa_nil)))) (pw_and1 (pt_chain op_ltM op_ltM pe_int (pe_ix ix_tup (pv 1) pe_int (fun _ _ => rfl)) pe_int)))) (pe_ix ix_tup (pv 1) pe_int (fun _ _ => rfl)) pe_int))
        (pss_cons (ps_setLc (i := 4) (own := [("_law_k", 5)]) (g := gName 5) (tt := tYes) (by rfl) scNW.nd rfl rfl (sw_true rfl rfl rfl (by decide +kernel)) (pi_rangeM (by rfl) mr (pa_cons (pv 3) pa_nil)) (blkOk_by (N := nNW) (sc := defScope sNWorth) (by decide +kernel)) (fun _ _ _ _ _ => pg_name (i := 5) scNW.nd rfl (Or.inl rfl)) (fun _ _ _ _ _ => pts_nil) (fun _ _ _ _ _ => (pe_ifExp (pt_cmpR op_eq (pe_call GT hr1 (by rfl) DT.at_ DT.kp DT.bd .nil pass0 (pa_cons (pv 0) (pa_cons pe_int pa_nil))) pe_int (nomark _)) (pe_call GS hr (by rfl) DS.at_ DS.kp DS.bd .nil pass0 (pa_cons (pv 0) (pa_cons (pe_ix (ixT (K := K) rfl) (pv 1) pe_int (fun _ _ => rfl)) pa_nil))) pe_int)))
        (pss_one (ps_ret (pe_ix ix_list (pe_lst (pa_cons (pe_callTy call_tuple_of (by rfl) mt (by decide +kernel) (pa_cons (pv 4) pa_nil)) (pa_cons (pe_callTy call_tuple_of (by rfl) mt (by decide +kernel) (pa_cons (pv 4) pa_nil)) (pa_cons (pv 4) (pa_cons (pe_callTy call_tuple_of (by rfl) mt (by decide +kernel) (pa_cons (pe_slice sl_listN (pv 4) (po_some pe_int) po_none) pa_nil)) (pa_cons (pe_callTy call_tuple_of (by rfl) mt (by decide +kernel) (pa_cons (pe_op op_catN (pv 4) (pe_lst (pa_cons pe_int pa_nil))) pa_nil)) pa_nil)))))) (pe_call GT hr1 (by rfl) DT.at_ DT.kp DT.bd .nil pass0 (pa_cons (pv 0) (pa_cons pe_int pa_nil))) (fun _ _ => rfl))))))), ?_⟩
    have hn' : n ≤ 99500 := by
      have : (0 : Int) ≤ if deep = true then 30 else 2 := by split <;> decide
      omega
    have da := sh_da (w := 10) (k := 1) (by decide) e k (kd_fit ko).1 sh
    -- the numeric way's end
    have fin : ∀ v G, SV v → Kp (· ≠ p) H G → Purse G p (n + 2) → Q v G := fun v G sv kG pG => q v G ((SV.tv sv).mono (Nat.le_refl _) (Nat.le_refl _) (by decide)) (fun _ => sv) kG (pG.mono (by split <;> omega))
    cases ko with
    | one o =>
      have nk := nv_of sh o
      obtain ⟨d, o', ⟨i, rfl, rfl⟩ | ⟨b, rfl, rfl⟩⟩ := nk
      · refine ⟨_, rfl, kn_is (.int i) (by decide) ⟨_, rfl, iteT (iteT ?_)⟩⟩
        refine ⟨_, rfl, kn_is (.int i) (by decide) ⟨_, rfl, iteT ⟨_, rfl, kn_is (.int i) (by decide) ⟨_, rfl, iteT ?_⟩⟩⟩⟩
        have four := top_ok (K := K) (σ := [some (.ref p), some (.int i), some (.int 4), none, none, none]) (E := fun _ _ _ => False) (T := 4) rfl rfl (by decide) (by decide) pu (by omega) fin
        refine ⟨_, rfl, _, _, rfl, rfl, _, rfl, ite2 (fun g1 => ?_) (fun g1 => ⟨_, rfl, iteF four⟩)⟩
        refine ⟨_, _, rfl, rfl, _, rfl, ite2 (fun g2 => ?_) (fun g2 => four)⟩
        have i1 := of_decide_eq_true g1
        have i8 := of_decide_eq_true g2
        obtain ⟨b1, b2⟩ := shl_in (i := i) (by omega) (by omega)
        exact ⟨_, rfl, _, _, rfl, rfl, ⟨by omega, by omega, by decide⟩, top_ok (K := K) rfl rfl b1 b2 pu (by omega) fin⟩
      · refine ⟨_, rfl, kn_is (.bl b) (by decide) ⟨_, rfl, iteT (iteT ?_)⟩⟩
        refine ⟨_, rfl, kn_is (.bl b) (by decide) ⟨_, rfl, iteT ⟨_, rfl, kn_is (.bl b) (by decide) ⟨_, rfl, iteF ?_⟩⟩⟩⟩
        exact top_ok (K := K) (T := 4) rfl rfl (by decide) (by decide) pu (by omega) fin
    | @lst ds ho lo =>
      cases sh with
      | @lst a xs _ h pa _ r =>
        have kn : Kn K H (.ref a) "list" := .lst (.base (.lst h))
        refine ⟨_, rfl, kn_is kn (by decide) ⟨_, rfl, iteT (iteT ?_)⟩⟩
        refine ⟨_, rfl, kn_is kn (by decide) ⟨_, rfl, iteF ?_⟩⟩
        exact top_ok (K := K) (T := 4) rfl rfl (by decide) (by decide) pu (by omega) fin
    | @tup ds ho lo =>
      cases sh with
      | @tup a xs _ h pa r =>
        have kn : Kn K H (.ref a) "tuple" := .tup (.base (.tup h))
        have na : a ≠ p := pa
        have ln := shAll_len r
        refine ⟨_, rfl, kn_is kn (by decide) ⟨_, rfl, iteF ?_⟩⟩
        refine ⟨_, rfl, a, xs, rfl, .inr (SqT.of h), rfl, _, rfl, ?_⟩
        by_cases e2 : xs.length = 2
        · match xs, e2, r with
          | [u0, u1], _, .cons (d := d0) r0 (.cons (d := d1) r1 .nil) =>
            have n0 := nv_of r0 (ho d0 (by simp))
            have n1 := nv_of r1 (ho d1 (by simp))
            have dp : deep = true := hd.resolve_right fun z => by obtain ⟨_, _, ⟨_, z, _⟩ | ⟨_, z, _⟩⟩ := z <;> cases z
            rw [dp, if_pos rfl] at hn
            refine iteN (by rfl) ⟨_, rfl, a, _, 1, _, rfl, rfl, SqT.of h, rfl, nv_isInt n1 ⟨_, rfl, iteF ?_⟩⟩
            obtain ⟨i0, e0, i00, i09⟩ := numV_of n0
            refine ⟨fun σ G => G = H ∧ ∃ mv j, σ = [some (.ref p), some (.ref a), none, some mv, none, none] ∧ numV mv = some j ∧ 1 ≤ j ∧ j ≤ 8, ?_, fun σ G pv => ?_⟩
            · refine ⟨_, rfl, a, _, 0, _, rfl, rfl, SqT.of h, rfl, nv_isInt n0 ⟨_, rfl, iteT ?_⟩⟩
              refine ⟨_, rfl, a, _, 0, _, rfl, rfl, SqT.of h, rfl, 0, i0, rfl, e0, _, rfl, ite2 (fun g1 => ?_) (fun g1 => ?_)⟩
              · refine ⟨i0, 9, e0, rfl, _, rfl, ite2 (fun g2 => ?_) (fun g2 => ?_)⟩
                · have := of_decide_eq_true g1
                  have := of_decide_eq_true g2
                  exact ⟨_, rfl, a, _, 0, _, rfl, rfl, SqT.of h, rfl, rfl, _, i0, rfl, e0, by omega, by omega⟩
                · exact ⟨rfl, _, 2, rfl, rfl, by decide, by decide⟩
              · exact ⟨_, rfl, iteF ⟨rfl, _, 2, rfl, rfl, by decide, by decide⟩⟩
            · obtain ⟨rfl, mv, j, rfl, ej, j1, j8⟩ := pv
              have jn : j.toNat ≤ 8 := by omega
              refine ⟨_, rfl, mv, j, rfl, ej, by omega, by omega, fun D hD => ?_⟩
              have nD := pu.ne hD
              refine lc_range (lo := 0) (n := j.toNat) (fun i G' => Kp (· ≠ p) G G' ∧ Purse G' p (n + 3 * (i : Int)) ∧ ∃ vs, (∀ v ∈ vs, SV v) ∧ vs.length = i ∧ G' D = some (.lst vs))
                ⟨kp_same (same_new hD), (pu.of (upd_ne nD.symm)).mono (by omega), [], (fun _ m => nomatch m), rfl, upd_same⟩ (fun i G' hi pv => ?_) fun G' pv => ?_
              · obtain ⟨kG, pG, vs, hv, lv, gD⟩ := pv
                refine ⟨rfl, take_ok (i := 0) rfl pG (by omega) (by decide) (by decide) fun c G2 c0 c1 k2 pu2 => ?_⟩
                have k02 := kG.trans k2
                have put : ∀ {v : V} {G3 : Hp}, SV v → Kp (· ≠ p) G2 G3 → Purse G3 p (n + 3 * ((i + 1 : Nat) : Int)) → ∃ acc, G3 D = some (.lst acc) ∧ acc.length < sizeLine ∧ (Kp (· ≠ p) G (upd G3 D (.lst (acc ++ [v]))) ∧ Purse (upd G3 D (.lst (acc ++ [v]))) p (n + 3 * ((i + 1 : Nat) : Int)) ∧ ∃ vs, (∀ v ∈ vs, SV v) ∧ vs.length = i + 1 ∧ (upd G3 D (.lst (acc ++ [v]))) D = some (.lst vs)) := fun {v G3} sv k3 p3 => by
                  refine ⟨vs, k3 _ _ nD (k2 _ _ nD gD), by rw [lv]; exact small1000 (by omega), fun b o nb e => ?_, p3.of (upd_ne nD.symm), vs ++ [v], fun x m => ?_, by rw [List.length_append, lv]; rfl, upd_same⟩
                  · rw [upd_ne (ne_of_none e hD)]
                    exact k3 b o nb (k02 b o nb e)
                  · rcases List.mem_append.mp m with m | m
                    · exact hv x m
                    · rw [List.mem_singleton.mp m]; exact sv
                refine ⟨rfl, _, rfl, ite2 (fun _ => ?_) (fun _ => ?_)⟩
                · refine ⟨_, rfl, _, rfl, a, _, 1, _, rfl, rfl, SqT.of (k02 _ _ na h), rfl, dp, p, _, u1, rfl, pu2, by rw [if_neg (by decide)]; omega, .one n1, .inr n1, fun v G3 _ sv k3 pu3 => put (sv n1) k3 (pu3.mono ?_)⟩
                  rw [if_neg (by decide)]
                  omega
                · exact put (.inl ⟨0, rfl, by decide, by decide⟩) (fun _ _ _ e => e) (pu2.mono (by omega))
              · obtain ⟨kG, pG, vs, hv, lv, gD⟩ := pv
                have lv8 : vs.length ≤ 8 := by omega
                have tl : ∀ {P' : Addr → Prop} {G' : Hp}, TL P' G' 10 1 128 8 vs := fun {_ _} => (svs hv).mono (Nat.le_refl _) (Nat.le_refl _) (by omega) lv8
                refine ⟨_, rfl, D, _, rfl, .inl ⟨SqL.of gD, fun t1 h1 => ?_⟩⟩
                have s1 : Same G' (upd G' t1 (.tup vs)) := same_new h1
                have f1 : (upd G' t1 (.tup vs)) t1 = some (.tup vs) := upd_same
                generalize upd G' t1 (.tup vs) = A1 at s1 f1
                have p1 := pG.same s1
                have gD1 := s1 _ _ gD
                refine ⟨_, rfl, D, _, rfl, .inl ⟨SqL.of gD1, fun t2 h2 => ⟨_, rfl, ?_⟩⟩⟩
                have s2 : Same A1 (upd A1 t2 (.tup vs)) := same_new h2
                have f2 : (upd A1 t2 (.tup vs)) t2 = some (.tup vs) := upd_same
                generalize upd A1 t2 (.tup vs) = A2 at s2 f2
                have p2 := p1.same s2
                have gD2 := s2 _ _ gD1
                refine ⟨_, rfl, 1, rfl, noPart ⟨D, vs, rfl, SqL.of gD2, fun l hl _ => ?_⟩⟩
                have s3 : Same A2 (upd A2 l (.lst (cutV vs (some 1) none))) := same_new hl
                have f3 : (upd A2 l (.lst (cutV vs (some 1) none))) l = some (.lst (cutV vs (some 1) none)) := upd_same
                generalize upd A2 l (.lst (cutV vs (some 1) none)) = A3 at s3 f3
                have p3 := p2.same s3
                refine ⟨l, _, rfl, .inl ⟨SqL.of f3, fun t3 h3 => ⟨_, rfl, by show 1 ≤ sizeLine; decide, fun u hu => ?_⟩⟩⟩
                have s4 : Same A3 (upd A3 t3 (.tup (cutV vs (some 1) none))) := same_new h3
                have f4 : (upd A3 t3 (.tup (cutV vs (some 1) none))) t3 = some (.tup (cutV vs (some 1) none)) := upd_same
                generalize upd A3 t3 (.tup (cutV vs (some 1) none)) = A4 at s4 f4 hu
                have p4 := p3.same s4
                have s5 : Same A4 (upd A4 u (.lst [.int 0])) := same_new hu
                have f5 : (upd A4 u (.lst [.int 0])) u = some (.lst [.int 0]) := upd_same
                generalize upd A4 u (.lst [.int 0]) = A5 at s5 f5
                have p5 := p4.same s5
                have gD5 := s5 _ _ (s4 _ _ (s3 _ _ gD2))
                refine ⟨D, u, vs, [.int 0], rfl, rfl, gD5, f5, by rw [sizeLine_eq]; show vs.length + 1 ≤ _; omega, fun c hc _ => ?_⟩
                have s6 : Same A5 (upd A5 c (.lst (vs ++ [.int 0]))) := same_new hc
                have f6 : (upd A5 c (.lst (vs ++ [.int 0]))) c = some (.lst (vs ++ [.int 0])) := upd_same
                generalize upd A5 c (.lst (vs ++ [.int 0])) = A6 at s6 f6
                have p6 := p5.same s6
                refine ⟨c, _, rfl, .inl ⟨SqL.of f6, fun t4 h4 => ?_⟩⟩
                have s7 : Same A6 (upd A6 t4 (.tup (vs ++ [.int 0]))) := same_new h4
                have f7 : (upd A6 t4 (.tup (vs ++ [.int 0]))) t4 = some (.tup (vs ++ [.int 0])) := upd_same
                generalize upd A6 t4 (.tup (vs ++ [.int 0])) = A7 at s7 f7
                have p7 := p6.same s7
                refine disp_take (xs := [.ref t1, .ref t2, .ref D, .ref t3, .ref t4]) (i := 0) rfl p7 (by omega) rfl (by decide) (by decide) fun v G9 mv k9 pu9 => ?_
                have s27 : Same A2 A7 := ((((s3.trans s4).trans s5).trans s6).trans s7)
                have k09 : Kp (· ≠ p) G G9 := fun b o nb e => k9 b o nb (s27 _ _ (s2 _ _ (s1 _ _ (kG b o nb e))))
                refine q v G9 ?_ (fun z => by obtain ⟨_, _, ⟨_, z, _⟩ | ⟨_, z, _⟩⟩ := z <;> cases z) k09 (pu9.mono (by rw [dp, if_pos rfl]; omega))
                simp only [List.mem_cons, List.not_mem_nil, or_false] at mv
                rcases mv with rfl | rfl | rfl | rfl | rfl
                · exact (TV.tup (P := fun b => b ≠ p ∧ G b = none) tl ⟨pG.ne h1, pG.back kG h1⟩ (k9 _ _ (pG.ne h1) (s27 _ _ (s2 _ _ f1))) (by decide)).mono (Nat.le_refl _) (Nat.le_refl _) (by decide)
                · exact (TV.tup (P := fun b => b ≠ p ∧ G b = none) tl ⟨p1.ne h2, pG.back kG (s1.free h2)⟩ (k9 _ _ (p1.ne h2) (s27 _ _ f2)) (by decide)).mono (Nat.le_refl _) (Nat.le_refl _) (by decide)
                · exact (TV.lst (P := fun b => b ≠ p ∧ G b = none) tl ⟨nD, hD⟩ (k9 _ _ nD (s27 _ _ gD2)) (by decide)).mono (Nat.le_refl _) (Nat.le_refl _) (by decide)
                · exact (TV.tup (P := fun b => b ≠ p ∧ G b = none) (tl.cut (some 1) none) ⟨p3.ne h3, pG.back kG (((s1.trans s2).trans s3).free h3)⟩ (k9 _ _ (p3.ne h3) (s7 _ _ (s6 _ _ (s5 _ _ f4)))) (by decide)).mono (Nat.le_refl _) (Nat.le_refl _) (by decide)
                · exact (TV.tup (P := fun b => b ≠ p ∧ G b = none) (tl.app (TL.one (TV.int (i := 0) (by decide) (by decide)))) ⟨p6.ne h4, pG.back kG ((((((s1.trans s2).trans s3).trans s4).trans s5).trans s6).free h4)⟩ (k9 _ _ (p6.ne h4) f7) (by decide)).mono (Nat.le_refl _) (Nat.le_refl _) (by decide)
        · have nl : ¬ V.int ((xs.length : Nat) : Int) = V.int 2 := fun z => e2 (by have := V.int.inj z; omega)
          refine iteB (by rw [decide_eq_false nl]; rfl) (iteT ?_)
          refine ⟨_, rfl, kn_is kn (by decide) ⟨_, rfl, iteF ?_⟩⟩
          exact top_ok (K := K) (T := 4) rfl rfl (by decide) (by decide) pu (by omega) fin
end
end A1
end Bf

namespace Bf
open PySem PySem.Spec PyProof.Rows L2
/-- isinstance(e, c), e the exception that the suite holds, with fields; c a class or a tuple of classes -/
def rIsS (K : PySem.W.Frag) (a : Addr) (cls : Value) (d : Option Addr) : List V → Hp → VK → Prop := fun xs H Q => ∃ (D d' : Addr), cls = .ref D ∧ d = some d' ∧ ExcC K D ∧ rIsD K D a d' xs H Q
theorem call_isS {X : Cx} {K : PySem.W.Frag} {a : Addr} {oe : Obj} {cls : Value} {d : Option Addr} {pn : List (Addr × Obj)} (h : X.K = K) (hz : Zc cls d oe) (hf : ∃ vs, oe.data = .fields vs) : CallR (X.suite a ((a, oe) :: pn)) (.builtin "isinstance") (rIsS K a cls d) := by
  subst h
  intro pins s σ H xs us Q I r h
  obtain ⟨D, d', rfl, rfl, C, h⟩ := h
  exact call_isD (cls := .ref D) C hz hf pins s σ H xs us Q I r h
namespace A1
section
variable {P : Program} {w : World} {K : PySem.W.Frag} {mg : Str → Option Value} {base : Heap}
/-- what the law needs of NoKind's class and the three families -/
structure Fams (K : PySem.W.Frag) (mg : Str → Option Value) (cK cF cM cB : Addr) : Prop where
  gF : mg "FlowError" = some (.ref cF)
  gM : mg "Missing" = some (.ref cM)
  gB : mg "Barred" = some (.ref cB)
  ec : ExcC K cK
  xm : PySem.W.exmOne K (.ref cK) (.ref cK) = some true
  kF : PySem.W.kitOne K (.ref cK) (.ref cF) = some true
  kM : PySem.W.kitOne K (.ref cK) (.ref cM) = some false
  kB : PySem.W.kitOne K (.ref cK) (.ref cB) = some false
def spCaught (K : PySem.W.Frag) : Sp := fun vs H Q _ => ∃ (x k : V) (o : Option PyData) (e : PyData), vs = [x, k] ∧ Th K H x o ∧ Da H k e ∧
  (kindD e = true → ∀ L G, Same H G → H L = none → L ≠ sysModules → G L = some (.lst [.str "told", .bl (worthO o e)]) → Q (.ref L) G) ∧ (kindD e = false → ∀ L G, Same H G → H L = none → L ≠ sysModules → G L = some (.lst [.str "kind", k]) → Q (.ref L) G)
abbrev nCaught : List Str := ["_law_thing", "_law_kind", "_law_found", "_law_e"]
abbrev pCaught : List Str := ["_law_thing", "_law_kind"]
theorem scCaught : FnScope nCaught pCaught (defScope sCaught) := ⟨rfl, rfl, rfl, by decide +kernel, rfl, by decide +kernel, by decide +kernel⟩
theorem kit_any2 {t u v : Value} (h1 : PySem.W.kitOne K t u = some false) (h2 : PySem.W.kitOne K t v = some false) : PySem.W.kitAny K t [u, v] = some false :=
  kitAny_cons h1 (fun _ => kitAny_cons h2 (fun _ => rfl) (fun z => nomatch z)) (fun z => nomatch z)
theorem ok_caught {f fw cK fI cF cM cB : Addr} {fd dw fdI : FuncData} (F : Fun K "_law_caught" "_law_caught" sCaught f fd) (TT : ExT K mg "NoKind" cK fI fdI) (Z : Fams K mg cK cF cM cB)
    (Dw : Df K mg "is_worth" fw dw ["thing", "kind"]) (Gw : FnOk P w K mg base (CXL P w) 5 fw dw ["thing", "kind"] (spIsWorth K cK)) (mi : mg "isinstance" = none) : FnOk P w K mg base CX0 6 f fd pCaught (spCaught K) := by
  refine F.ok scCaught (fun vs H Q E h => ?_) (fun cdv A outer s H vs Q E hr h => ?_)
  · obtain ⟨x, k, o, e, rfl, _⟩ := h
    rfl
  · obtain ⟨x, k, o, e, rfl, th, db, q1, q2⟩ := h
    refine ⟨_, pss_cons (ps_arms rfl rfl scCaught.nd
      (fun W pn xe tk _ => pss_one (ps_set (i := 2) scCaught.nd rfl (Or.inl rfl) (pe_lstN (pa_cons pe_str (pa_cons (pe_callS Gw hr (by rfl) Dw.at_ Dw.kp Dw.bd (fun σ => L2.passAt tk σ) (pa_cons (pv 0) (pa_cons (pv 1) pa_nil))) pa_nil)))))
      (Arms.cons (c := .ref cK) (i := 3) ⟨by rfl, by decide, .inl TT.gC⟩ rfl rfl (fun a oe cls d pn hz hf => pss_cons (ps_if (PW.pt (pw_or (pt_not (pt_val (pe_callB (call_isS (K := K) rfl hz hf) (by rfl) mi (by decide +kernel) (pa_cons (pv 3) (pa_cons (pe_glob (v := .ref cF) (by rfl) Z.gF rfl) pa_nil)))))
          (pw_or1 (pt_val (pe_callB (call_isS (K := K) rfl hz hf) (by rfl) mi (by decide +kernel) (pa_cons (pv 3) (pa_cons (pe_tup (pa_cons (pe_glob (v := .ref cM) (by rfl) Z.gM rfl) (pa_cons (pe_glob (v := .ref cB) (by rfl) Z.gB rfl) pa_nil))) pa_nil)))))))
          (pss_one (ps_ret (pe_lst (pa_cons pe_str (pa_cons pe_non pa_nil))))) pss_nil)
        (pss_one (ps_ret (pe_lstN (pa_cons pe_str (pa_cons (pe_xf TT.xf TT.nf hz hf (pv 3)) pa_nil)))))) Arms.nil)) (pss_one (ps_ret (pv 2))), ?_⟩
    refine ⟨_, rfl, _, rfl, x, k, o, e, rfl, th, db, ?_⟩
    cases hk : kindD e with
    | true => exact .inr ⟨rfl, fun G s => ⟨by show 2 ≤ 1000; decide, fun L hL nL => ⟨_, rfl, q1 hk L _ (same_trans_new s hL) (s.free hL) nL upd_same⟩⟩⟩
    | false =>
      refine .inl ⟨rfl, fun d' H' s' hd hx => ⟨true, Z.xm, fun _ a ha => ?_, fun z => nomatch z⟩⟩
      refine ⟨_, rfl, cK, d', rfl, rfl, Z.ec, [("found", k)], hx, .inl ⟨_, _, true, rfl, .own cF, Z.kF, _, rfl, iteF ?_⟩⟩
      refine ⟨_, rfl, by show 2 ≤ sizeLine; decide, fun T hT => ⟨cK, d', rfl, rfl, Z.ec, [("found", k)], (same_new hT) _ _ hx, .inr ⟨T, _, [.ref cM, .ref cB], false, rfl, upd_same, .cons (.own cM) (.cons (.own cB) .nil), kit_any2 Z.kM Z.kB, _, rfl, iteF ?_⟩⟩⟩
      refine ⟨_, rfl, rfl, rfl, d', _, _, rfl, (same_new hT) _ _ hx, rfl, by show 2 ≤ 1000; decide, fun L hL nL => ?_⟩
      exact q2 hk L _ (same_trans_new (same_trans_new s' hT) hL) ((same_trans_new s' hT).free hL) nL upd_same
end
end A1
end Bf

namespace Bf
open PySem PySem.Spec PyProof.Rows L2
theorem RIt.same {K : PySem.W.Frag} {H H' : Hp} {v : V} {t : Str} (s : Same H H') (h : RIt K H v t) : RIt K H' v t := by
  cases h with
  | dat sh sw dp => exact .dat (A1.Sh.on (fun _ _ f _ => f) (fun a o _ e => s a o e) _ v sh) sw dp
  | exc ev ef => exact .exc (ev.same s) ef
theorem RIts.same {K : PySem.W.Frag} {H H' : Hp} (s : Same H H') : ∀ {vs : List V} {ts : List Str}, RIts K H vs ts → RIts K H' vs ts
  | _, _, .nil => .nil
  | _, _, .cons h r => .cons (h.same s) (RIts.same s r)
/-- all is kept but a list that is the thing -/
def Keeps (x : V) (H G : Hp) : Prop := ∀ a o, H a = some o → (∀ xs, x = .ref a → o ≠ .lst xs) → G a = some o
theorem keeps_same {x : V} {H G : Hp} (s : Same H G) : Keeps x H G := fun a o h _ => s a o h
/-- a list that is the thing has grown -/
def Grown (x : V) (H G : Hp) : Prop := ∀ a xs, x = .ref a → H a = some (.lst xs) → G a = some (.lst (xs ++ [.int 0]))
namespace A1
/-- a thing, as it is asked and as it is written -/
structure TH (K : PySem.W.Frag) (H : Hp) (x : V) (o : Option PyData) (t : Str) : Prop where
  th : Th K H x o
  it : RIt K H x t
  le : t.length ≤ 5000
theorem TH.same {K : PySem.W.Frag} {H H' : Hp} {x : V} {o : Option PyData} {t : Str} (s : Same H H') (h : TH K H x o t) : TH K H' x o t := ⟨h.th.same s, h.it.same s, h.le⟩
theorem rit_of {K : PySem.W.Frag} {H : Hp} {P : Addr → Prop} {b : Bool} {v : V} {d : PyData} {w k : Nat} (sh : Sh H P b v d) (ft : fit w k d) (hk : k ≤ 50) : RIt K H v d.shown ∧ d.shown.length ≤ sl d := by
  obtain ⟨a, c, e⟩ := fit_shows d ft
  exact ⟨.dat sh a (by omega), e⟩
theorem rits_of {K : PySem.W.Frag} {H : Hp} {P : Addr → Prop} {b : Bool} {w k : Nat} (hk : k ≤ 50) : ∀ {vs : List V} {ds : List PyData}, ShAll H P b vs ds → (∀ d ∈ ds, fit w k d) → RIts K H vs (PyData.shownAll ds) ∧ ((PyData.shownAll ds).map (·.length)).sum + 2 * (PyData.shownAll ds).length ≤ slA ds
  | _, _, .nil, _ => ⟨by simp only [PyData.shownAll]; exact .nil, by simp only [PyData.shownAll, List.map_nil, List.sum_nil, List.length_nil]; omega⟩
  | _, _, .cons (d := d) (ds := ds) h r, f => by
    obtain ⟨a, l⟩ := rit_of (K := K) h (f d List.mem_cons_self) hk
    obtain ⟨a2, l2⟩ := rits_of (K := K) hk r fun x m => f x (List.mem_cons_of_mem _ m)
    refine ⟨by simp only [PyData.shownAll]; exact .cons a a2, ?_⟩
    simp only [PyData.shownAll, List.map_cons, List.sum_cons, List.length_cons, slA_cons] at l2 ⊢
    omega
theorem lt2 {t u : Str} (h : t.length ≤ 5000) (k : u.length ≤ 5000) : (listText [t, u]).length ≤ sizeLine := by
  have := listText_len_le [t, u]
  simp only [List.map_cons, List.map_nil, List.sum_cons, List.sum_nil, List.length_cons, List.length_nil] at this
  rw [sizeLine_eq]
  omega
theorem str_it {K : PySem.W.Frag} {H : Hp} (y : Str) : RIt K H (.str y) (PyData.shown (.str y)) := .dat (P := fun _ => True) (b := false) (.str y) (by simp only [PyData.showable]) (by simp only [PyData.depth]; omega)
theorem bl_it {K : PySem.W.Frag} {H : Hp} (c : Bool) : RIt K H (.bl c) (PyData.shown (.bool c)) := .dat (P := fun _ => True) (b := false) (.bl c) (by simp only [PyData.showable]) (by simp only [PyData.depth]; omega)
theorem told_l : (PyData.shown (.str "told")).length ≤ 5000 ∧ (PyData.shown (.str "kind")).length ≤ 5000 ∧ ∀ c, (PyData.shown (.bool c)).length ≤ 5000 := by decide +kernel
section
variable {P : Program} {w : World} {K : PySem.W.Frag} {mg : Str → Option Value} {base : Heap}
def spWR (K : PySem.W.Frag) : Sp := fun vs H Q _ => ∃ (x k : V) (o : Option PyData) (t : Str) (P0 : Addr → Prop) (e : PyData), vs = [x, k] ∧ TH K H x o t ∧ Sh H P0 false k e ∧ KdOk e ∧ ∀ G, Keeps k H G → Grown k H G → Q (.bl true) G
abbrev nWR : List Str := ["_law_thing", "_law_kind", "_law_kept", "_law_found", "_law_due"]
theorem scWR : FnScope nWR pCaught (defScope sWRight) := ⟨rfl, rfl, rfl, by decide +kernel, rfl, by decide +kernel, by decide +kernel⟩
set_option maxHeartbeats 2000000 in
theorem ok_wright {f fc fw fk : Addr} {fd dc dw dk : FuncData} (F : Fun K "_law_worth_right" "_law_worth_right" sWRight f fd) (DC : Df K mg "_law_caught" fc dc pCaught) (GC : FnOk P w K mg base CX0 6 fc dc pCaught (spCaught K))
    (DLW : Df K mg "_law_is_worth" fw dw ["_law_thing", "_law_kind"]) (GLW : FnOk P w K mg base CX0 2 fw dw ["_law_thing", "_law_kind"] (spLWorth K)) (DLK : Df K mg "_law_is_kind" fk dk nLIsKind) (GLK : FnOk P w K mg base CX0 2 fk dk nLIsKind (spKind K))
    (mi : mg "isinstance" = none) (mL : mg "list" = none) (mp : mg "repr" = none) : FnG P w K mg base CX0 7 f fd pCaught (spWR K) := by
  refine Fun.okG F scWR (fun vs H Q E h => ?_) (fun cdv A outer s H vs Q E hA hr h => ?_)
  · obtain ⟨x, k, o, t, P0, e, rfl, _⟩ := h
    rfl
  · obtain ⟨x, k, o, t, P0, e, rfl, tx, sh, ko, q⟩ := h
    have hr6 := hr
    have hr2 := hr.mono (by decide : 2 ≤ 6)
    have hA' : (A.deeper (envOfC "_law_worth_right" (defScope sWRight) s.heap.objs.size f cdv)).guards = some [] := hA
    refine ⟨_, (pss_cons (ps_set (i := 2) scWR.nd rfl (Or.inl rfl) (pe_callB (call_reprX hA' hr.units) (by rfl) mp (by decide +kernel) (pa_cons (pe_lst (pa_cons (pv 0) (pa_cons (pv 1) pa_nil))) pa_nil)))
        (pss_cons (ps_set (i := 3) scWR.nd rfl (Or.inl rfl) (pe_call GC hr6 (by rfl) DC.at_ DC.kp DC.bd .nil pass0 (pa_cons (pv 0) (pa_cons (pv 1) pa_nil))))
        (pss_cons (ps_set (i := 4) scWR.nd rfl (Or.inl rfl) (pe_ifExp (pt_val (pe_call GLK hr2 (by rfl) DLK.at_ DLK.kp DLK.bd .nil pass0 (pa_cons (pv 1) pa_nil))) (pe_lst (pa_cons pe_str (pa_cons (pe_call GLW hr2 (by rfl) DLW.at_ DLW.kp DLW.bd .nil pass0 (pa_cons (pv 0) (pa_cons (pv 1) pa_nil))) pa_nil))) (pe_lst (pa_cons pe_str (pa_cons (pv 1) pa_nil)))))
        (pss_cons (ps_if (PW.pt (pw_or (pt_cmpR op_ne (pe_callB (call_reprX hA' hr.units) (by rfl) mp (by decide +kernel) (pa_cons (pv 3) pa_nil)) (pe_callB (call_reprX hA' hr.units) (by rfl) mp (by decide +kernel) (pa_cons (pv 4) pa_nil)) (nomark _)) (pw_or1 (pt_cmpR op_ne (pe_callB (call_reprX hA' hr.units) (by rfl) mp (by decide +kernel) (pa_cons (pe_lst (pa_cons (pv 0) (pa_cons (pv 1) pa_nil))) pa_nil)) (pv 2) (nomark _))))) (pss_one (ps_ret pe_bl)) pss_nil)
        (pss_cons (ps_if (pt_val (pe_callB call_isB (by rfl) mi (by decide +kernel) (pa_cons (pv 1) (pa_cons (pe_bltn (v := .ty "list") (by rfl) mL (by decide +kernel) rfl) pa_nil)))) (pss_cons (ps_expr (pe_bm PySem.F.plainAttrs_list PySem.F.slot_list_append PySem.F.type_list_append mt_append (pv 1) (pa_cons pe_int pa_nil)))
        (pss_one (ps_ret (pe_cmpR op_eq (pe_callB (call_reprX hA' hr.units) (by rfl) mp (by decide +kernel) (pa_cons (pe_ix ix_list (pv 3) pe_int (fun _ _ => rfl)) pa_nil)) (pe_callB (call_reprX hA' hr.units) (by rfl) mp (by decide +kernel) (pa_cons (pv 1) pa_nil)) (nomark _))))) pss_nil)
        (pss_one (ps_ret (pe_cmpR op_eq (pe_callB (call_reprX hA' hr.units) (by rfl) mp (by decide +kernel) (pa_cons (pe_call GC hr6 (by rfl) DC.at_ DC.kp DC.bd .nil pass0 (pa_cons (pv 0) (pa_cons (pv 1) pa_nil))) pa_nil)) (pe_callB (call_reprX hA' hr.units) (by rfl) mp (by decide +kernel) (pa_cons (pv 4) pa_nil)) (nomark _))))))))), ?_⟩
    have fk := kd_fit ko
    have da := sh_da (w := 10) (k := 1) (by decide) e k fk.1 sh
    obtain ⟨ik, lk_⟩ := rit_of (K := K) sh fk.1 (by decide)
    have lk5 : e.shown.length ≤ 5000 := by have := fk.2; omega
    have two : ∀ {G : Hp}, Same H G → RIts K G [x, k] [t, e.shown] := fun s => .cons (tx.it.same s) (.cons (ik.same s) .nil)
    have l2 := lt2 tx.le lk5
    refine ⟨_, rfl, _, rfl, by show 2 ≤ sizeLine; decide, fun L1 h1 => ⟨L1, _, _, rfl, upd_same, two (same_new h1), l2, ?_⟩⟩
    have s1 : Same H (upd H L1 (.lst [x, k])) := same_new h1
    generalize upd H L1 (.lst [x, k]) = H1 at s1
    dsimp only [gName]
    cases hk : kindD e with
    | true =>
      have isL : isN (tyD e) "list" = false := by
        rcases kind_inv hk with ⟨z, rfl, _⟩ | ⟨m, z, rfl, _⟩ <;> rfl
      have gr : ∀ G, Grown k H G := fun G a xs ek hx => by
        subst ek
        rcases kind_inv hk with ⟨z, rfl, _⟩ | ⟨m, z, rfl, _⟩
        · cases sh
        · cases sh with
          | tup h _ _ => rw [h] at hx; cases hx
      have told : ∀ {G : Hp} {b : Bool}, RIts K G [.str "told", .bl b] [PyData.shown (.str "told"), PyData.shown (.bool b)] := fun {G b} => .cons (str_it _) (.cons (bl_it b) .nil)
      have lT : ∀ b, (listText [PyData.shown (.str "told"), PyData.shown (.bool b)]).length ≤ sizeLine := fun b => lt2 told_l.1 (told_l.2.2 b)
      refine ⟨_, rfl, _, rfl, x, k, o, e, rfl, tx.th.same s1, Da.same s1 _ _ da, fun _ L G2 s2 _ _ gL => ?_, (fun z => by rw [hk] at z; cases z)⟩
      have s12 := s1.trans s2
      dsimp only [gName]
      refine ⟨_, rfl, k, some e, rfl, .dat (Da.same s12 _ _ da), _, rfl, iteB (show kindD e = true from hk) ?_⟩
      refine ⟨_, rfl, _, rfl, x, k, o, e, rfl, tx.th.same s12, Da.same s12 _ _ da, hk, fun G3 s3 => ⟨by show 2 ≤ sizeLine; decide, fun M hM => ?_⟩⟩
      have s4 : Same G3 (upd G3 M (.lst [.str "told", .bl (worthO o e)])) := same_new hM
      have gM : (upd G3 M (.lst [.str "told", .bl (worthO o e)])) M = some (.lst [.str "told", .bl (worthO o e)]) := upd_same
      generalize upd G3 M (.lst [.str "told", .bl (worthO o e)]) = G4 at s4 gM
      have s14 := (s12.trans s3).trans s4
      have gL4 := s4 _ _ (s3 _ _ gL)
      dsimp only [gName]
      refine ⟨_, rfl, L, _, _, rfl, gL4, told, lT _, _, rfl, M, _, _, rfl, gM, told, lT _, rfl, _, rfl, iteNS rfl ?_⟩
      refine ⟨_, rfl, _, rfl, by show 2 ≤ sizeLine; decide, fun N hN => ⟨N, _, _, rfl, upd_same, two (s14.trans (same_new hN)), l2, _, rfl, rfl, _, rfl, iteNS rfl ?_⟩⟩
      have s5 : Same G4 (upd G4 N (.lst [x, k])) := same_new hN
      generalize upd G4 N (.lst [x, k]) = G5 at s5
      have s15 := s14.trans s5
      refine ⟨_, rfl, kn_is (n := tyD e) (Da.same s15 _ _ da).kn (by decide) ⟨_, rfl, ?_⟩⟩
      rw [isL]
      refine iteF ?_
      refine ⟨_, rfl, _, rfl, x, k, o, e, rfl, tx.th.same s15, Da.same s15 _ _ da, fun _ L2 G6 s6 _ _ gL2 => ⟨L2, _, _, rfl, gL2, told, lT _, _, rfl, M, _, _, rfl, s6 _ _ (s5 _ _ gM), told, lT _, rfl, ?_⟩, (fun z => by rw [hk] at z; cases z)⟩
      rw [decide_eq_true rfl]
      exact q _ (keeps_same (s15.trans s6)) (gr _)
    | false =>
      have kd : ∀ {G : Hp}, Same H G → RIts K G [.str "kind", k] [PyData.shown (.str "kind"), e.shown] := fun s => .cons (str_it _) (.cons (ik.same s) .nil)
      have lK : (listText [PyData.shown (.str "kind"), e.shown]).length ≤ sizeLine := lt2 told_l.2.1 lk5
      refine ⟨_, rfl, _, rfl, x, k, o, e, rfl, tx.th.same s1, Da.same s1 _ _ da, (fun z => by rw [hk] at z; cases z), fun _ L G2 s2 fL _ gL => ?_⟩
      have s12 := s1.trans s2
      dsimp only [gName]
      refine ⟨_, rfl, k, some e, rfl, .dat (Da.same s12 _ _ da), _, rfl, iteN (show kindD e = false from hk) ?_⟩
      refine ⟨_, rfl, by show 2 ≤ sizeLine; decide, fun M hM => ?_⟩
      have s4 : Same G2 (upd G2 M (.lst [.str "kind", k])) := same_new hM
      have gM : (upd G2 M (.lst [.str "kind", k])) M = some (.lst [.str "kind", k]) := upd_same
      generalize upd G2 M (.lst [.str "kind", k]) = G4 at s4 gM
      have s14 := s12.trans s4
      have gL4 := s4 _ _ gL
      dsimp only [gName]
      refine ⟨_, rfl, L, _, _, rfl, gL4, kd s14, lK, _, rfl, M, _, _, rfl, gM, kd s14, lK, rfl, _, rfl, iteNS rfl ?_⟩
      refine ⟨_, rfl, _, rfl, by show 2 ≤ sizeLine; decide, fun N hN => ⟨N, _, _, rfl, upd_same, two (s14.trans (same_new hN)), l2, _, rfl, rfl, _, rfl, iteNS rfl ?_⟩⟩
      have s5 : Same G4 (upd G4 N (.lst [x, k])) := same_new hN
      generalize upd G4 N (.lst [x, k]) = G5 at s5
      have s15 := s14.trans s5
      refine ⟨_, rfl, kn_is (n := tyD e) (Da.same s15 _ _ da).kn (by decide) ⟨_, rfl, ?_⟩⟩
      by_cases il : ∃ ds, e = .list ds
      · obtain ⟨ds, rfl⟩ := il
        refine iteT ?_
        cases sh with
        | @lst a xs _ h pa _ r =>
        cases ko with
        | one oo => obtain ⟨_, z, _⟩ := oo; cases z
        | lst ho lo =>
        have ln := shAll_len r
        have h5 := s15 _ _ h
        have gL5 := s5 _ _ gL4
        have aL : L ≠ a := fun e => by rw [e, s1 _ _ h] at fL; cases fL
        refine ⟨_, rfl, .inl ⟨rfl, _, SqL.of h5⟩, a, _, _, rfl, rfl, h5, by rw [sizeLine_eq]; omega, ?_⟩
        have ga : (upd G5 a (.lst (xs ++ [.int 0]))) a = some (.lst (xs ++ [.int 0])) := upd_same
        have gL6 : (upd G5 a (.lst (xs ++ [.int 0]))) L = some (.lst [.str "kind", .ref a]) := by rw [upd_ne aL]; exact gL5
        have kp : Keeps (.ref a) H (upd G5 a (.lst (xs ++ [.int 0]))) := fun b o e n => by
          by_cases hb : b = a
          · subst hb
            rw [h] at e
            cases e
            exact absurd rfl (n xs rfl)
          · rw [upd_ne hb]
            exact s15 _ _ e
        have gr : Grown (.ref a) H (upd G5 a (.lst (xs ++ [.int 0]))) := fun b ys eb hb => by
          cases eb
          rw [h] at hb
          cases hb
          exact ga
        have nums : ∃ ds', ShAll (upd G5 a (.lst (xs ++ [.int 0]))) (fun _ => True) false (xs ++ [.int 0]) ds' ∧ (∀ d ∈ ds', fit 10 0 d) ∧ slA ds' ≤ 100 := by
          have nv : ∀ v ∈ xs ++ [V.int 0], NV v := fun v m => by
            rcases List.mem_append.mp m with m | m
            · obtain ⟨i, ei⟩ := List.mem_iff_getElem?.mp m
              obtain ⟨d, ed, sd⟩ := shA_get r ei
              exact nv_of sd (ho d (List.mem_of_getElem? ed))
            · rw [List.mem_singleton.mp m]
              exact .int (by decide) (by decide)
          obtain ⟨ds', o', l', ss⟩ := nvs (P := fun _ => True) (G := upd G5 a (.lst (xs ++ [.int 0]))) nv
          refine ⟨ds', ss, fun d m => (num_fit (o' d m)).1, ?_⟩
          have := slA_le (n := 14) fun d m => (num_fit (w := 10) (k := 0) (o' d m)).2.1
          rw [l', List.length_append, List.length_singleton] at this
          omega
        obtain ⟨ds', ss, ff, le'⟩ := nums
        obtain ⟨ri, rl⟩ := rits_of (K := K) (by decide) ss ff
        have lw : (listText (PyData.shownAll ds')).length ≤ sizeLine := by
          have := listText_len_le (PyData.shownAll ds')
          rw [sizeLine_eq]
          omega
        refine ⟨_, rfl, L, _, 1, _, rfl, rfl, SqL.of gL6, rfl, a, _, _, rfl, ga, ri, lw, _, rfl, a, _, _, rfl, ga, ri, lw, rfl, ?_⟩
        rw [decide_eq_true rfl]
        exact q _ kp gr
      · have isL : isN (tyD e) "list" = false := by
          cases e with
          | list ds => exact absurd ⟨ds, rfl⟩ il
          | _ => rfl
        rw [isL]
        have gr : ∀ G, Grown k H G := fun G a xs ek hx => by
          subst ek
          cases sh with
          | tup h _ _ => rw [h] at hx; cases hx
          | lst h _ _ _ => exact absurd ⟨_, rfl⟩ il
          | emp hb _ _ => cases hb
        refine iteF ?_
        refine ⟨_, rfl, _, rfl, x, k, o, e, rfl, tx.th.same s15, Da.same s15 _ _ da, (fun z => by rw [hk] at z; cases z), fun _ L2 G6 s6 _ _ gL2 => ⟨L2, _, _, rfl, gL2, kd (s15.trans s6), lK, _, rfl, M, _, _, rfl, s6 _ _ (s5 _ _ gM), kd (s15.trans s6), lK, rfl, ?_⟩⟩
        rw [decide_eq_true rfl]
        exact q _ (keeps_same (s15.trans s6)) (gr _)
end
end A1
end Bf

namespace Bf
open PySem PySem.Spec PyProof.Rows L2
/-- at a: an exception of the class at C, made of the text z, with these fields -/
def ExVf (H : Hp) (a C : Addr) (z : Str) (fs : List (Str × V)) : Prop := ∃ d t : Addr, H a = some (exoT a C (some d) t) ∧ H d = some (exd d fs) ∧ H t = some (.tup [.str z])
theorem ExVf.ev {H : Hp} {a C : Addr} {z : Str} {fs : List (Str × V)} (h : ExVf H a C z fs) : ExV H a C z := let ⟨d, t, a, b, c⟩ := h; ⟨d, t, fs, a, b, c⟩
theorem ExVf.same {H H' : Hp} {a C : Addr} {z : Str} {fs : List (Str × V)} (s : Same H H') (h : ExVf H a C z fs) : ExVf H' a C z fs := let ⟨d, t, a, b, c⟩ := h; ⟨d, t, s _ _ a, s _ _ b, s _ _ c⟩
/-- what has been made so far of an exception that is being made -/
structure Mkn (H : Hp) (a C t1 dx : Addr) (z : Str) (fs : List (Str × V)) (G : Hp) : Prop where
  keep : ∀ b o, b ≠ a → H b = some o → G b = some o
  ea : G a = some (exoT a C (some dx) t1)
  ed : G dx = some (exd dx fs)
  et : G t1 = some (.tup [.str z])
  nd : H dx = none
  na : dx ≠ a
  nt : t1 ≠ dx
theorem Mkn.ex {H : Hp} {a C t1 dx : Addr} {z : Str} {fs : List (Str × V)} {G : Hp} (m : Mkn H a C t1 dx z fs G) : ExVf G a C z fs := ⟨dx, t1, m.ea, m.ed, m.et⟩
theorem mk_first {H : Hp} {a C t t1 dx : Addr} {z f : Str} {v : V} (ea : H a = some (exoT a C none t)) (n1 : H t1 = none) (ne1 : t1 ≠ a) (n : (upd (upd H t1 (.tup [.str z])) a (exoT a C none t1)) dx = none) (ne : dx ≠ a) :
    Mkn H a C t1 dx z [(f, v)] (upd (upd (upd (upd H t1 (.tup [.str z])) a (exoT a C none t1)) dx (exd dx [(f, v)])) a (exoT a C (some dx) t1)) := by
  have nt : t1 ≠ dx := by
    refine ne_of_none (H := upd (upd H t1 (.tup [.str z])) a (exoT a C none t1)) (o := .tup [.str z]) ?_ n
    rw [upd_ne ne1, upd_same]
  have nd : H dx = none := by
    rw [upd_ne ne, upd_ne nt.symm] at n
    exact n
  refine ⟨fun b o nb e => ?_, upd_same, by rw [upd_ne ne, upd_same], by rw [upd_ne ne1, upd_ne nt, upd_ne ne1, upd_same], nd, ne, nt⟩
  have n1b := ne_of_none e n1
  have nbd : b ≠ dx := ne_of_none e nd
  rw [upd_ne nb, upd_ne nbd, upd_ne nb, upd_ne n1b]
  exact e
theorem mk_next {H : Hp} {a C t1 dx : Addr} {z f : Str} {v : V} {fs : List (Str × V)} {G : Hp} (m : Mkn H a C t1 dx z fs G) : Mkn H a C t1 dx z ((f, v) :: fs) (upd G dx (exd dx ((f, v) :: fs))) :=
  ⟨fun b o nb e => by rw [upd_ne (ne_of_none e m.nd)]; exact m.keep b o nb e, by rw [upd_ne m.na.symm]; exact m.ea, upd_same, by rw [upd_ne m.nt]; exact m.et, m.nd, m.na, m.nt⟩
/-- self is an exception that is being made, without fields as yet; its args are told -/
def spBaseG (K : PySem.W.Frag) (B : String) : Sp := fun vs H Q _ => ∃ (a C t : Addr) (v : V), vs = [.ref a, v] ∧ OexG K C B ∧ H a = some (exoT a C none t) ∧ ∀ t1, H t1 = none → t1 ≠ a → Q .non (upd (upd H t1 (.tup [v])) a (exoT a C none t1))
/-- an own exception's __init__, by its text and its fields' names -/
def spIn (C : Addr) (z : Str) (ns : List Str) : Sp := fun vs H Q _ => ∃ (a t : Addr) (ws : List V), vs = .ref a :: ws ∧ ws.length = ns.length ∧ H a = some (exoT a C none t) ∧
  ∀ H', (∀ b o, b ≠ a → H b = some o → H' b = some o) → ExVf H' a C z (ns.zip ws).reverse → Q .non H'
/-- what an __init__ needs of the base's class -/
structure BaseG (P : Program) (w : World) (K : PySem.W.Frag) (mg : Str → Option Value) (base : Heap) (mc : Value) (x : Str) (B : String) (CF fF : Addr) (fdF : FuncData) : Prop where
  g : mg x = some (.ref CF)
  rd : ClX.CRead K CF mc
  va : PySem.W.findCls K (.ref CF) mc "__init__" = some (.val (.ref fF))
  kp : PySem.W.keepIn K (.ref fF) = true
  bd : Binds K fdF ["self", "text"] []
  ok : FnOk P w K mg base CX0 2 fF fdF ["self", "text"] (spBaseG K B)
namespace A1
section
variable {P : Program} {w : World} {K : PySem.W.Frag} {mg : Str → Option Value} {base : Heap}
theorem scT1 : FnScope ["self", "text"] ["self", "text"] (defScope (inClass (top 1) 0)) := ⟨rfl, rfl, rfl, by decide +kernel, rfl, by decide +kernel, by decide +kernel⟩
theorem ok_T1 {f : Addr} {fd : FuncData} (F : Fun K "__init__" "FlowError.__init__" (inClass (top 1) 0) f fd) (mV : mg "ValueError" = none)
    (vV : PySem.W.findCls K (.type "ValueError") (.type "type") "__init__" = some (.val (.builtin "ValueError.__init__"))) : FnOk P w K mg base CX0 2 f fd ["self", "text"] (spBaseG K "ValueError") := by
  refine F.ok scT1 (fun vs H Q E h => ?_) (fun cdv A outer s H vs Q E hr h => ?_)
  · obtain ⟨a, C, t, v, rfl, _⟩ := h
    rfl
  · obtain ⟨a, C, t, v, rfl, ox, ea, q⟩ := h
    exact ⟨_, pss_one (ps_expr (pe_binitG base_VE (by rfl) mV vV (pa_cons (pv 0) (pa_cons (pv 1) pa_nil)))), _, rfl, _, rfl, a, C, t, [v], rfl, by show 1 ≤ 1000; decide, ox, ea, q⟩
theorem scT2 : FnScope ["self", "text"] ["self", "text"] (defScope (inClass (top 2) 0)) := ⟨rfl, rfl, rfl, by decide +kernel, rfl, by decide +kernel, by decide +kernel⟩
theorem ok_T2 {f : Addr} {fd : FuncData} (F : Fun K "__init__" "Missing.__init__" (inClass (top 2) 0) f fd) (mV : mg "KeyError" = none)
    (vV : PySem.W.findCls K (.type "KeyError") (.type "type") "__init__" = some (.val (.builtin "KeyError.__init__"))) : FnOk P w K mg base CX0 2 f fd ["self", "text"] (spBaseG K "KeyError") := by
  refine F.ok scT2 (fun vs H Q E h => ?_) (fun cdv A outer s H vs Q E hr h => ?_)
  · obtain ⟨a, C, t, v, rfl, _⟩ := h
    rfl
  · obtain ⟨a, C, t, v, rfl, ox, ea, q⟩ := h
    exact ⟨_, pss_one (ps_expr (pe_binitG base_KE (by rfl) mV vV (pa_cons (pv 0) (pa_cons (pv 1) pa_nil)))), _, rfl, _, rfl, a, C, t, [v], rfl, by show 1 ≤ 1000; decide, ox, ea, q⟩
theorem scT3 : FnScope ["self", "text"] ["self", "text"] (defScope (inClass (top 3) 0)) := ⟨rfl, rfl, rfl, by decide +kernel, rfl, by decide +kernel, by decide +kernel⟩
theorem ok_T3 {f : Addr} {fd : FuncData} (F : Fun K "__init__" "Barred.__init__" (inClass (top 3) 0) f fd) (mV : mg "LookupError" = none)
    (vV : PySem.W.findCls K (.type "LookupError") (.type "type") "__init__" = some (.val (.builtin "LookupError.__init__"))) : FnOk P w K mg base CX0 2 f fd ["self", "text"] (spBaseG K "LookupError") := by
  refine F.ok scT3 (fun vs H Q E h => ?_) (fun cdv A outer s H vs Q E hr h => ?_)
  · obtain ⟨a, C, t, v, rfl, _⟩ := h
    rfl
  · obtain ⟨a, C, t, v, rfl, ox, ea, q⟩ := h
    exact ⟨_, pss_one (ps_expr (pe_binitG base_LE (by rfl) mV vV (pa_cons (pv 0) (pa_cons (pv 1) pa_nil)))), _, rfl, _, rfl, a, C, t, [v], rfl, by show 1 ≤ 1000; decide, ox, ea, q⟩
theorem scI4 : FnScope ["self", "found"] ["self", "found"] (defScope (inClass (top 4) 0)) := ⟨rfl, rfl, rfl, by decide +kernel, rfl, by decide +kernel, by decide +kernel⟩
theorem ok_I4 {f C CF fF : Addr} {fd fdF : FuncData} {mc : Value} (F : Fun K "__init__" "NoKind.__init__" (inClass (top 4) 0) f fd) (BS : BaseG P w K mg base mc "FlowError" "ValueError" CF fF fdF) (ox : OexG K C "ValueError") (nf0 : PySem.W.findIn K (.ref C) "found" = some none) :
    FnOk P w K mg base CX0 3 f fd ["self", "found"] (spIn C "no kind" ["found"]) := by
  refine F.ok scI4 (fun vs H Q E h => ?_) (fun cdv A outer s H vs Q E hr h => ?_)
  · obtain ⟨a, t, ws, rfl, l, _⟩ := h
    exact congrArg (· + 1) l
  · obtain ⟨a, t, ws, rfl, l, ea, q⟩ := h
    match ws, l with
    | [v0], _ =>
    refine ⟨_, pss_cons (ps_expr (pe_clsFn BS.ok hr (by rfl) BS.g BS.rd BS.va BS.kp BS.bd pass0 (pa_cons (pv 0) (pa_cons pe_str pa_nil)))) (pss_one (ps_ostG (pv 0) (pv 1))),
      _, rfl, a, C, t, _, rfl, ox, ea, fun t1 n1 ne1 => ⟨_, rfl, _, rfl, a, C, t1, _, rfl, ox, nf0, .inl ⟨upd_same, fun dx n ne => ?_⟩⟩⟩
    have m0 := mk_first (z := "no kind") (f := "found") (v := v0) ea n1 ne1 n ne
    exact q _ m0.keep m0.ex
theorem scI5 : FnScope ["self", "found"] ["self", "found"] (defScope (inClass (top 5) 0)) := ⟨rfl, rfl, rfl, by decide +kernel, rfl, by decide +kernel, by decide +kernel⟩
theorem ok_I5 {f C CF fF : Addr} {fd fdF : FuncData} {mc : Value} (F : Fun K "__init__" "NoWidth.__init__" (inClass (top 5) 0) f fd) (BS : BaseG P w K mg base mc "FlowError" "ValueError" CF fF fdF) (ox : OexG K C "ValueError") (nf0 : PySem.W.findIn K (.ref C) "found" = some none) :
    FnOk P w K mg base CX0 3 f fd ["self", "found"] (spIn C "no width" ["found"]) := by
  refine F.ok scI5 (fun vs H Q E h => ?_) (fun cdv A outer s H vs Q E hr h => ?_)
  · obtain ⟨a, t, ws, rfl, l, _⟩ := h
    exact congrArg (· + 1) l
  · obtain ⟨a, t, ws, rfl, l, ea, q⟩ := h
    match ws, l with
    | [v0], _ =>
    refine ⟨_, pss_cons (ps_expr (pe_clsFn BS.ok hr (by rfl) BS.g BS.rd BS.va BS.kp BS.bd pass0 (pa_cons (pv 0) (pa_cons pe_str pa_nil)))) (pss_one (ps_ostG (pv 0) (pv 1))),
      _, rfl, a, C, t, _, rfl, ox, ea, fun t1 n1 ne1 => ⟨_, rfl, _, rfl, a, C, t1, _, rfl, ox, nf0, .inl ⟨upd_same, fun dx n ne => ?_⟩⟩⟩
    have m0 := mk_first (z := "no width") (f := "found") (v := v0) ea n1 ne1 n ne
    exact q _ m0.keep m0.ex
theorem scI6 : FnScope ["self", "found"] ["self", "found"] (defScope (inClass (top 6) 0)) := ⟨rfl, rfl, rfl, by decide +kernel, rfl, by decide +kernel, by decide +kernel⟩
theorem ok_I6 {f C CF fF : Addr} {fd fdF : FuncData} {mc : Value} (F : Fun K "__init__" "NoWorth.__init__" (inClass (top 6) 0) f fd) (BS : BaseG P w K mg base mc "FlowError" "ValueError" CF fF fdF) (ox : OexG K C "ValueError") (nf0 : PySem.W.findIn K (.ref C) "found" = some none) :
    FnOk P w K mg base CX0 3 f fd ["self", "found"] (spIn C "no worth of the width" ["found"]) := by
  refine F.ok scI6 (fun vs H Q E h => ?_) (fun cdv A outer s H vs Q E hr h => ?_)
  · obtain ⟨a, t, ws, rfl, l, _⟩ := h
    exact congrArg (· + 1) l
  · obtain ⟨a, t, ws, rfl, l, ea, q⟩ := h
    match ws, l with
    | [v0], _ =>
    refine ⟨_, pss_cons (ps_expr (pe_clsFn BS.ok hr (by rfl) BS.g BS.rd BS.va BS.kp BS.bd pass0 (pa_cons (pv 0) (pa_cons pe_str pa_nil)))) (pss_one (ps_ostG (pv 0) (pv 1))),
      _, rfl, a, C, t, _, rfl, ox, ea, fun t1 n1 ne1 => ⟨_, rfl, _, rfl, a, C, t1, _, rfl, ox, nf0, .inl ⟨upd_same, fun dx n ne => ?_⟩⟩⟩
    have m0 := mk_first (z := "no worth of the width") (f := "found") (v := v0) ea n1 ne1 n ne
    exact q _ m0.keep m0.ex
theorem scI7 : FnScope ["self", "found"] ["self", "found"] (defScope (inClass (top 7) 0)) := ⟨rfl, rfl, rfl, by decide +kernel, rfl, by decide +kernel, by decide +kernel⟩
theorem ok_I7 {f C CF fF : Addr} {fd fdF : FuncData} {mc : Value} (F : Fun K "__init__" "NoWorths.__init__" (inClass (top 7) 0) f fd) (BS : BaseG P w K mg base mc "FlowError" "ValueError" CF fF fdF) (ox : OexG K C "ValueError") (nf0 : PySem.W.findIn K (.ref C) "found" = some none) :
    FnOk P w K mg base CX0 3 f fd ["self", "found"] (spIn C "no such worths as are wanted" ["found"]) := by
  refine F.ok scI7 (fun vs H Q E h => ?_) (fun cdv A outer s H vs Q E hr h => ?_)
  · obtain ⟨a, t, ws, rfl, l, _⟩ := h
    exact congrArg (· + 1) l
  · obtain ⟨a, t, ws, rfl, l, ea, q⟩ := h
    match ws, l with
    | [v0], _ =>
    refine ⟨_, pss_cons (ps_expr (pe_clsFn BS.ok hr (by rfl) BS.g BS.rd BS.va BS.kp BS.bd pass0 (pa_cons (pv 0) (pa_cons pe_str pa_nil)))) (pss_one (ps_ostG (pv 0) (pv 1))),
      _, rfl, a, C, t, _, rfl, ox, ea, fun t1 n1 ne1 => ⟨_, rfl, _, rfl, a, C, t1, _, rfl, ox, nf0, .inl ⟨upd_same, fun dx n ne => ?_⟩⟩⟩
    have m0 := mk_first (z := "no such worths as are wanted") (f := "found") (v := v0) ea n1 ne1 n ne
    exact q _ m0.keep m0.ex
theorem scI8 : FnScope ["self", "found"] ["self", "found"] (defScope (inClass (top 8) 0)) := ⟨rfl, rfl, rfl, by decide +kernel, rfl, by decide +kernel, by decide +kernel⟩
theorem ok_I8 {f C CF fF : Addr} {fd fdF : FuncData} {mc : Value} (F : Fun K "__init__" "NoBits.__init__" (inClass (top 8) 0) f fd) (BS : BaseG P w K mg base mc "FlowError" "ValueError" CF fF fdF) (ox : OexG K C "ValueError") (nf0 : PySem.W.findIn K (.ref C) "found" = some none) :
    FnOk P w K mg base CX0 3 f fd ["self", "found"] (spIn C "no list of one to eight truths" ["found"]) := by
  refine F.ok scI8 (fun vs H Q E h => ?_) (fun cdv A outer s H vs Q E hr h => ?_)
  · obtain ⟨a, t, ws, rfl, l, _⟩ := h
    exact congrArg (· + 1) l
  · obtain ⟨a, t, ws, rfl, l, ea, q⟩ := h
    match ws, l with
    | [v0], _ =>
    refine ⟨_, pss_cons (ps_expr (pe_clsFn BS.ok hr (by rfl) BS.g BS.rd BS.va BS.kp BS.bd pass0 (pa_cons (pv 0) (pa_cons pe_str pa_nil)))) (pss_one (ps_ostG (pv 0) (pv 1))),
      _, rfl, a, C, t, _, rfl, ox, ea, fun t1 n1 ne1 => ⟨_, rfl, _, rfl, a, C, t1, _, rfl, ox, nf0, .inl ⟨upd_same, fun dx n ne => ?_⟩⟩⟩
    have m0 := mk_first (z := "no list of one to eight truths") (f := "found") (v := v0) ea n1 ne1 n ne
    exact q _ m0.keep m0.ex
theorem scI9 : FnScope ["self", "found"] ["self", "found"] (defScope (inClass (top 9) 0)) := ⟨rfl, rfl, rfl, by decide +kernel, rfl, by decide +kernel, by decide +kernel⟩
theorem ok_I9 {f C CF fF : Addr} {fd fdF : FuncData} {mc : Value} (F : Fun K "__init__" "NoNumber.__init__" (inClass (top 9) 0) f fd) (BS : BaseG P w K mg base mc "FlowError" "ValueError" CF fF fdF) (ox : OexG K C "ValueError") (nf0 : PySem.W.findIn K (.ref C) "found" = some none) :
    FnOk P w K mg base CX0 3 f fd ["self", "found"] (spIn C "no such number as is wanted" ["found"]) := by
  refine F.ok scI9 (fun vs H Q E h => ?_) (fun cdv A outer s H vs Q E hr h => ?_)
  · obtain ⟨a, t, ws, rfl, l, _⟩ := h
    exact congrArg (· + 1) l
  · obtain ⟨a, t, ws, rfl, l, ea, q⟩ := h
    match ws, l with
    | [v0], _ =>
    refine ⟨_, pss_cons (ps_expr (pe_clsFn BS.ok hr (by rfl) BS.g BS.rd BS.va BS.kp BS.bd pass0 (pa_cons (pv 0) (pa_cons pe_str pa_nil)))) (pss_one (ps_ostG (pv 0) (pv 1))),
      _, rfl, a, C, t, _, rfl, ox, ea, fun t1 n1 ne1 => ⟨_, rfl, _, rfl, a, C, t1, _, rfl, ox, nf0, .inl ⟨upd_same, fun dx n ne => ?_⟩⟩⟩
    have m0 := mk_first (z := "no such number as is wanted") (f := "found") (v := v0) ea n1 ne1 n ne
    exact q _ m0.keep m0.ex
theorem scI10 : FnScope ["self", "found"] ["self", "found"] (defScope (inClass (top 10) 0)) := ⟨rfl, rfl, rfl, by decide +kernel, rfl, by decide +kernel, by decide +kernel⟩
theorem ok_I10 {f C CF fF : Addr} {fd fdF : FuncData} {mc : Value} (F : Fun K "__init__" "NoOp.__init__" (inClass (top 10) 0) f fd) (BS : BaseG P w K mg base mc "FlowError" "ValueError" CF fF fdF) (ox : OexG K C "ValueError") (nf0 : PySem.W.findIn K (.ref C) "found" = some none) :
    FnOk P w K mg base CX0 3 f fd ["self", "found"] (spIn C "no word of reckoning" ["found"]) := by
  refine F.ok scI10 (fun vs H Q E h => ?_) (fun cdv A outer s H vs Q E hr h => ?_)
  · obtain ⟨a, t, ws, rfl, l, _⟩ := h
    exact congrArg (· + 1) l
  · obtain ⟨a, t, ws, rfl, l, ea, q⟩ := h
    match ws, l with
    | [v0], _ =>
    refine ⟨_, pss_cons (ps_expr (pe_clsFn BS.ok hr (by rfl) BS.g BS.rd BS.va BS.kp BS.bd pass0 (pa_cons (pv 0) (pa_cons pe_str pa_nil)))) (pss_one (ps_ostG (pv 0) (pv 1))),
      _, rfl, a, C, t, _, rfl, ox, ea, fun t1 n1 ne1 => ⟨_, rfl, _, rfl, a, C, t1, _, rfl, ox, nf0, .inl ⟨upd_same, fun dx n ne => ?_⟩⟩⟩
    have m0 := mk_first (z := "no word of reckoning") (f := "found") (v := v0) ea n1 ne1 n ne
    exact q _ m0.keep m0.ex
theorem scI11 : FnScope ["self", "found"] ["self", "found"] (defScope (inClass (top 11) 0)) := ⟨rfl, rfl, rfl, by decide +kernel, rfl, by decide +kernel, by decide +kernel⟩
theorem ok_I11 {f C CF fF : Addr} {fd fdF : FuncData} {mc : Value} (F : Fun K "__init__" "NoTerm.__init__" (inClass (top 11) 0) f fd) (BS : BaseG P w K mg base mc "FlowError" "ValueError" CF fF fdF) (ox : OexG K C "ValueError") (nf0 : PySem.W.findIn K (.ref C) "found" = some none) :
    FnOk P w K mg base CX0 3 f fd ["self", "found"] (spIn C "no such term or right side" ["found"]) := by
  refine F.ok scI11 (fun vs H Q E h => ?_) (fun cdv A outer s H vs Q E hr h => ?_)
  · obtain ⟨a, t, ws, rfl, l, _⟩ := h
    exact congrArg (· + 1) l
  · obtain ⟨a, t, ws, rfl, l, ea, q⟩ := h
    match ws, l with
    | [v0], _ =>
    refine ⟨_, pss_cons (ps_expr (pe_clsFn BS.ok hr (by rfl) BS.g BS.rd BS.va BS.kp BS.bd pass0 (pa_cons (pv 0) (pa_cons pe_str pa_nil)))) (pss_one (ps_ostG (pv 0) (pv 1))),
      _, rfl, a, C, t, _, rfl, ox, ea, fun t1 n1 ne1 => ⟨_, rfl, _, rfl, a, C, t1, _, rfl, ox, nf0, .inl ⟨upd_same, fun dx n ne => ?_⟩⟩⟩
    have m0 := mk_first (z := "no such term or right side") (f := "found") (v := v0) ea n1 ne1 n ne
    exact q _ m0.keep m0.ex
theorem scI12 : FnScope ["self", "found"] ["self", "found"] (defScope (inClass (top 12) 0)) := ⟨rfl, rfl, rfl, by decide +kernel, rfl, by decide +kernel, by decide +kernel⟩
theorem ok_I12 {f C CF fF : Addr} {fd fdF : FuncData} {mc : Value} (F : Fun K "__init__" "NoNames.__init__" (inClass (top 12) 0) f fd) (BS : BaseG P w K mg base mc "FlowError" "ValueError" CF fF fdF) (ox : OexG K C "ValueError") (nf0 : PySem.W.findIn K (.ref C) "found" = some none) :
    FnOk P w K mg base CX0 3 f fd ["self", "found"] (spIn C "no dict from names to names" ["found"]) := by
  refine F.ok scI12 (fun vs H Q E h => ?_) (fun cdv A outer s H vs Q E hr h => ?_)
  · obtain ⟨a, t, ws, rfl, l, _⟩ := h
    exact congrArg (· + 1) l
  · obtain ⟨a, t, ws, rfl, l, ea, q⟩ := h
    match ws, l with
    | [v0], _ =>
    refine ⟨_, pss_cons (ps_expr (pe_clsFn BS.ok hr (by rfl) BS.g BS.rd BS.va BS.kp BS.bd pass0 (pa_cons (pv 0) (pa_cons pe_str pa_nil)))) (pss_one (ps_ostG (pv 0) (pv 1))),
      _, rfl, a, C, t, _, rfl, ox, ea, fun t1 n1 ne1 => ⟨_, rfl, _, rfl, a, C, t1, _, rfl, ox, nf0, .inl ⟨upd_same, fun dx n ne => ?_⟩⟩⟩
    have m0 := mk_first (z := "no dict from names to names") (f := "found") (v := v0) ea n1 ne1 n ne
    exact q _ m0.keep m0.ex
theorem scI13 : FnScope ["self", "found"] ["self", "found"] (defScope (inClass (top 13) 0)) := ⟨rfl, rfl, rfl, by decide +kernel, rfl, by decide +kernel, by decide +kernel⟩
theorem ok_I13 {f C CF fF : Addr} {fd fdF : FuncData} {mc : Value} (F : Fun K "__init__" "NoNode.__init__" (inClass (top 13) 0) f fd) (BS : BaseG P w K mg base mc "FlowError" "ValueError" CF fF fdF) (ox : OexG K C "ValueError") (nf0 : PySem.W.findIn K (.ref C) "found" = some none) :
    FnOk P w K mg base CX0 3 f fd ["self", "found"] (spIn C "no node" ["found"]) := by
  refine F.ok scI13 (fun vs H Q E h => ?_) (fun cdv A outer s H vs Q E hr h => ?_)
  · obtain ⟨a, t, ws, rfl, l, _⟩ := h
    exact congrArg (· + 1) l
  · obtain ⟨a, t, ws, rfl, l, ea, q⟩ := h
    match ws, l with
    | [v0], _ =>
    refine ⟨_, pss_cons (ps_expr (pe_clsFn BS.ok hr (by rfl) BS.g BS.rd BS.va BS.kp BS.bd pass0 (pa_cons (pv 0) (pa_cons pe_str pa_nil)))) (pss_one (ps_ostG (pv 0) (pv 1))),
      _, rfl, a, C, t, _, rfl, ox, ea, fun t1 n1 ne1 => ⟨_, rfl, _, rfl, a, C, t1, _, rfl, ox, nf0, .inl ⟨upd_same, fun dx n ne => ?_⟩⟩⟩
    have m0 := mk_first (z := "no node") (f := "found") (v := v0) ea n1 ne1 n ne
    exact q _ m0.keep m0.ex
theorem scI14 : FnScope ["self", "found"] ["self", "found"] (defScope (inClass (top 14) 0)) := ⟨rfl, rfl, rfl, by decide +kernel, rfl, by decide +kernel, by decide +kernel⟩
theorem ok_I14 {f C CF fF : Addr} {fd fdF : FuncData} {mc : Value} (F : Fun K "__init__" "NoNodes.__init__" (inClass (top 14) 0) f fd) (BS : BaseG P w K mg base mc "FlowError" "ValueError" CF fF fdF) (ox : OexG K C "ValueError") (nf0 : PySem.W.findIn K (.ref C) "found" = some none) :
    FnOk P w K mg base CX0 3 f fd ["self", "found"] (spIn C "no list of nodes" ["found"]) := by
  refine F.ok scI14 (fun vs H Q E h => ?_) (fun cdv A outer s H vs Q E hr h => ?_)
  · obtain ⟨a, t, ws, rfl, l, _⟩ := h
    exact congrArg (· + 1) l
  · obtain ⟨a, t, ws, rfl, l, ea, q⟩ := h
    match ws, l with
    | [v0], _ =>
    refine ⟨_, pss_cons (ps_expr (pe_clsFn BS.ok hr (by rfl) BS.g BS.rd BS.va BS.kp BS.bd pass0 (pa_cons (pv 0) (pa_cons pe_str pa_nil)))) (pss_one (ps_ostG (pv 0) (pv 1))),
      _, rfl, a, C, t, _, rfl, ox, ea, fun t1 n1 ne1 => ⟨_, rfl, _, rfl, a, C, t1, _, rfl, ox, nf0, .inl ⟨upd_same, fun dx n ne => ?_⟩⟩⟩
    have m0 := mk_first (z := "no list of nodes") (f := "found") (v := v0) ea n1 ne1 n ne
    exact q _ m0.keep m0.ex
theorem scI15 : FnScope ["self", "found"] ["self", "found"] (defScope (inClass (top 15) 0)) := ⟨rfl, rfl, rfl, by decide +kernel, rfl, by decide +kernel, by decide +kernel⟩
theorem ok_I15 {f C CF fF : Addr} {fd fdF : FuncData} {mc : Value} (F : Fun K "__init__" "NoProgram.__init__" (inClass (top 15) 0) f fd) (BS : BaseG P w K mg base mc "FlowError" "ValueError" CF fF fdF) (ox : OexG K C "ValueError") (nf0 : PySem.W.findIn K (.ref C) "found" = some none) :
    FnOk P w K mg base CX0 3 f fd ["self", "found"] (spIn C "no program" ["found"]) := by
  refine F.ok scI15 (fun vs H Q E h => ?_) (fun cdv A outer s H vs Q E hr h => ?_)
  · obtain ⟨a, t, ws, rfl, l, _⟩ := h
    exact congrArg (· + 1) l
  · obtain ⟨a, t, ws, rfl, l, ea, q⟩ := h
    match ws, l with
    | [v0], _ =>
    refine ⟨_, pss_cons (ps_expr (pe_clsFn BS.ok hr (by rfl) BS.g BS.rd BS.va BS.kp BS.bd pass0 (pa_cons (pv 0) (pa_cons pe_str pa_nil)))) (pss_one (ps_ostG (pv 0) (pv 1))),
      _, rfl, a, C, t, _, rfl, ox, ea, fun t1 n1 ne1 => ⟨_, rfl, _, rfl, a, C, t1, _, rfl, ox, nf0, .inl ⟨upd_same, fun dx n ne => ?_⟩⟩⟩
    have m0 := mk_first (z := "no program") (f := "found") (v := v0) ea n1 ne1 n ne
    exact q _ m0.keep m0.ex
theorem scI16 : FnScope ["self", "found"] ["self", "found"] (defScope (inClass (top 16) 0)) := ⟨rfl, rfl, rfl, by decide +kernel, rfl, by decide +kernel, by decide +kernel⟩
theorem ok_I16 {f C CF fF : Addr} {fd fdF : FuncData} {mc : Value} (F : Fun K "__init__" "NoIns.__init__" (inClass (top 16) 0) f fd) (BS : BaseG P w K mg base mc "FlowError" "ValueError" CF fF fdF) (ox : OexG K C "ValueError") (nf0 : PySem.W.findIn K (.ref C) "found" = some none) :
    FnOk P w K mg base CX0 3 f fd ["self", "found"] (spIn C "no such ins as are wanted" ["found"]) := by
  refine F.ok scI16 (fun vs H Q E h => ?_) (fun cdv A outer s H vs Q E hr h => ?_)
  · obtain ⟨a, t, ws, rfl, l, _⟩ := h
    exact congrArg (· + 1) l
  · obtain ⟨a, t, ws, rfl, l, ea, q⟩ := h
    match ws, l with
    | [v0], _ =>
    refine ⟨_, pss_cons (ps_expr (pe_clsFn BS.ok hr (by rfl) BS.g BS.rd BS.va BS.kp BS.bd pass0 (pa_cons (pv 0) (pa_cons pe_str pa_nil)))) (pss_one (ps_ostG (pv 0) (pv 1))),
      _, rfl, a, C, t, _, rfl, ox, ea, fun t1 n1 ne1 => ⟨_, rfl, _, rfl, a, C, t1, _, rfl, ox, nf0, .inl ⟨upd_same, fun dx n ne => ?_⟩⟩⟩
    have m0 := mk_first (z := "no such ins as are wanted") (f := "found") (v := v0) ea n1 ne1 n ne
    exact q _ m0.keep m0.ex
theorem scI17 : FnScope ["self", "found"] ["self", "found"] (defScope (inClass (top 17) 0)) := ⟨rfl, rfl, rfl, by decide +kernel, rfl, by decide +kernel, by decide +kernel⟩
theorem ok_I17 {f C CF fF : Addr} {fd fdF : FuncData} {mc : Value} (F : Fun K "__init__" "NoFlat.__init__" (inClass (top 17) 0) f fd) (BS : BaseG P w K mg base mc "FlowError" "ValueError" CF fF fdF) (ox : OexG K C "ValueError") (nf0 : PySem.W.findIn K (.ref C) "found" = some none) :
    FnOk P w K mg base CX0 3 f fd ["self", "found"] (spIn C "no flat list" ["found"]) := by
  refine F.ok scI17 (fun vs H Q E h => ?_) (fun cdv A outer s H vs Q E hr h => ?_)
  · obtain ⟨a, t, ws, rfl, l, _⟩ := h
    exact congrArg (· + 1) l
  · obtain ⟨a, t, ws, rfl, l, ea, q⟩ := h
    match ws, l with
    | [v0], _ =>
    refine ⟨_, pss_cons (ps_expr (pe_clsFn BS.ok hr (by rfl) BS.g BS.rd BS.va BS.kp BS.bd pass0 (pa_cons (pv 0) (pa_cons pe_str pa_nil)))) (pss_one (ps_ostG (pv 0) (pv 1))),
      _, rfl, a, C, t, _, rfl, ox, ea, fun t1 n1 ne1 => ⟨_, rfl, _, rfl, a, C, t1, _, rfl, ox, nf0, .inl ⟨upd_same, fun dx n ne => ?_⟩⟩⟩
    have m0 := mk_first (z := "no flat list") (f := "found") (v := v0) ea n1 ne1 n ne
    exact q _ m0.keep m0.ex
theorem scI18 : FnScope ["self", "found"] ["self", "found"] (defScope (inClass (top 18) 0)) := ⟨rfl, rfl, rfl, by decide +kernel, rfl, by decide +kernel, by decide +kernel⟩
theorem ok_I18 {f C CF fF : Addr} {fd fdF : FuncData} {mc : Value} (F : Fun K "__init__" "NoCode.__init__" (inClass (top 18) 0) f fd) (BS : BaseG P w K mg base mc "FlowError" "ValueError" CF fF fdF) (ox : OexG K C "ValueError") (nf0 : PySem.W.findIn K (.ref C) "found" = some none) :
    FnOk P w K mg base CX0 3 f fd ["self", "found"] (spIn C "no code" ["found"]) := by
  refine F.ok scI18 (fun vs H Q E h => ?_) (fun cdv A outer s H vs Q E hr h => ?_)
  · obtain ⟨a, t, ws, rfl, l, _⟩ := h
    exact congrArg (· + 1) l
  · obtain ⟨a, t, ws, rfl, l, ea, q⟩ := h
    match ws, l with
    | [v0], _ =>
    refine ⟨_, pss_cons (ps_expr (pe_clsFn BS.ok hr (by rfl) BS.g BS.rd BS.va BS.kp BS.bd pass0 (pa_cons (pv 0) (pa_cons pe_str pa_nil)))) (pss_one (ps_ostG (pv 0) (pv 1))),
      _, rfl, a, C, t, _, rfl, ox, ea, fun t1 n1 ne1 => ⟨_, rfl, _, rfl, a, C, t1, _, rfl, ox, nf0, .inl ⟨upd_same, fun dx n ne => ?_⟩⟩⟩
    have m0 := mk_first (z := "no code") (f := "found") (v := v0) ea n1 ne1 n ne
    exact q _ m0.keep m0.ex
theorem scI19 : FnScope ["self", "found"] ["self", "found"] (defScope (inClass (top 19) 0)) := ⟨rfl, rfl, rfl, by decide +kernel, rfl, by decide +kernel, by decide +kernel⟩
theorem ok_I19 {f C CF fF : Addr} {fd fdF : FuncData} {mc : Value} (F : Fun K "__init__" "NoWires.__init__" (inClass (top 19) 0) f fd) (BS : BaseG P w K mg base mc "FlowError" "ValueError" CF fF fdF) (ox : OexG K C "ValueError") (nf0 : PySem.W.findIn K (.ref C) "found" = some none) :
    FnOk P w K mg base CX0 3 f fd ["self", "found"] (spIn C "no net of wires" ["found"]) := by
  refine F.ok scI19 (fun vs H Q E h => ?_) (fun cdv A outer s H vs Q E hr h => ?_)
  · obtain ⟨a, t, ws, rfl, l, _⟩ := h
    exact congrArg (· + 1) l
  · obtain ⟨a, t, ws, rfl, l, ea, q⟩ := h
    match ws, l with
    | [v0], _ =>
    refine ⟨_, pss_cons (ps_expr (pe_clsFn BS.ok hr (by rfl) BS.g BS.rd BS.va BS.kp BS.bd pass0 (pa_cons (pv 0) (pa_cons pe_str pa_nil)))) (pss_one (ps_ostG (pv 0) (pv 1))),
      _, rfl, a, C, t, _, rfl, ox, ea, fun t1 n1 ne1 => ⟨_, rfl, _, rfl, a, C, t1, _, rfl, ox, nf0, .inl ⟨upd_same, fun dx n ne => ?_⟩⟩⟩
    have m0 := mk_first (z := "no net of wires") (f := "found") (v := v0) ea n1 ne1 n ne
    exact q _ m0.keep m0.ex
theorem scI20 : FnScope ["self", "found"] ["self", "found"] (defScope (inClass (top 20) 0)) := ⟨rfl, rfl, rfl, by decide +kernel, rfl, by decide +kernel, by decide +kernel⟩
theorem ok_I20 {f C CF fF : Addr} {fd fdF : FuncData} {mc : Value} (F : Fun K "__init__" "NoLetter.__init__" (inClass (top 20) 0) f fd) (BS : BaseG P w K mg base mc "FlowError" "ValueError" CF fF fdF) (ox : OexG K C "ValueError") (nf0 : PySem.W.findIn K (.ref C) "found" = some none) :
    FnOk P w K mg base CX0 3 f fd ["self", "found"] (spIn C "no letter" ["found"]) := by
  refine F.ok scI20 (fun vs H Q E h => ?_) (fun cdv A outer s H vs Q E hr h => ?_)
  · obtain ⟨a, t, ws, rfl, l, _⟩ := h
    exact congrArg (· + 1) l
  · obtain ⟨a, t, ws, rfl, l, ea, q⟩ := h
    match ws, l with
    | [v0], _ =>
    refine ⟨_, pss_cons (ps_expr (pe_clsFn BS.ok hr (by rfl) BS.g BS.rd BS.va BS.kp BS.bd pass0 (pa_cons (pv 0) (pa_cons pe_str pa_nil)))) (pss_one (ps_ostG (pv 0) (pv 1))),
      _, rfl, a, C, t, _, rfl, ox, ea, fun t1 n1 ne1 => ⟨_, rfl, _, rfl, a, C, t1, _, rfl, ox, nf0, .inl ⟨upd_same, fun dx n ne => ?_⟩⟩⟩
    have m0 := mk_first (z := "no letter") (f := "found") (v := v0) ea n1 ne1 n ne
    exact q _ m0.keep m0.ex
theorem scI21 : FnScope ["self", "found"] ["self", "found"] (defScope (inClass (top 21) 0)) := ⟨rfl, rfl, rfl, by decide +kernel, rfl, by decide +kernel, by decide +kernel⟩
theorem ok_I21 {f C CF fF : Addr} {fd fdF : FuncData} {mc : Value} (F : Fun K "__init__" "NoPaper.__init__" (inClass (top 21) 0) f fd) (BS : BaseG P w K mg base mc "FlowError" "ValueError" CF fF fdF) (ox : OexG K C "ValueError") (nf0 : PySem.W.findIn K (.ref C) "found" = some none) :
    FnOk P w K mg base CX0 3 f fd ["self", "found"] (spIn C "no paper" ["found"]) := by
  refine F.ok scI21 (fun vs H Q E h => ?_) (fun cdv A outer s H vs Q E hr h => ?_)
  · obtain ⟨a, t, ws, rfl, l, _⟩ := h
    exact congrArg (· + 1) l
  · obtain ⟨a, t, ws, rfl, l, ea, q⟩ := h
    match ws, l with
    | [v0], _ =>
    refine ⟨_, pss_cons (ps_expr (pe_clsFn BS.ok hr (by rfl) BS.g BS.rd BS.va BS.kp BS.bd pass0 (pa_cons (pv 0) (pa_cons pe_str pa_nil)))) (pss_one (ps_ostG (pv 0) (pv 1))),
      _, rfl, a, C, t, _, rfl, ox, ea, fun t1 n1 ne1 => ⟨_, rfl, _, rfl, a, C, t1, _, rfl, ox, nf0, .inl ⟨upd_same, fun dx n ne => ?_⟩⟩⟩
    have m0 := mk_first (z := "no paper") (f := "found") (v := v0) ea n1 ne1 n ne
    exact q _ m0.keep m0.ex
theorem scI22 : FnScope ["self", "found"] ["self", "found"] (defScope (inClass (top 22) 0)) := ⟨rfl, rfl, rfl, by decide +kernel, rfl, by decide +kernel, by decide +kernel⟩
theorem ok_I22 {f C CF fF : Addr} {fd fdF : FuncData} {mc : Value} (F : Fun K "__init__" "NoEdit.__init__" (inClass (top 22) 0) f fd) (BS : BaseG P w K mg base mc "FlowError" "ValueError" CF fF fdF) (ox : OexG K C "ValueError") (nf0 : PySem.W.findIn K (.ref C) "found" = some none) :
    FnOk P w K mg base CX0 3 f fd ["self", "found"] (spIn C "no such edit as can be led over" ["found"]) := by
  refine F.ok scI22 (fun vs H Q E h => ?_) (fun cdv A outer s H vs Q E hr h => ?_)
  · obtain ⟨a, t, ws, rfl, l, _⟩ := h
    exact congrArg (· + 1) l
  · obtain ⟨a, t, ws, rfl, l, ea, q⟩ := h
    match ws, l with
    | [v0], _ =>
    refine ⟨_, pss_cons (ps_expr (pe_clsFn BS.ok hr (by rfl) BS.g BS.rd BS.va BS.kp BS.bd pass0 (pa_cons (pv 0) (pa_cons pe_str pa_nil)))) (pss_one (ps_ostG (pv 0) (pv 1))),
      _, rfl, a, C, t, _, rfl, ox, ea, fun t1 n1 ne1 => ⟨_, rfl, _, rfl, a, C, t1, _, rfl, ox, nf0, .inl ⟨upd_same, fun dx n ne => ?_⟩⟩⟩
    have m0 := mk_first (z := "no such edit as can be led over") (f := "found") (v := v0) ea n1 ne1 n ne
    exact q _ m0.keep m0.ex
theorem scI23 : FnScope ["self", "found"] ["self", "found"] (defScope (inClass (top 23) 0)) := ⟨rfl, rfl, rfl, by decide +kernel, rfl, by decide +kernel, by decide +kernel⟩
theorem ok_I23 {f C CF fF : Addr} {fd fdF : FuncData} {mc : Value} (F : Fun K "__init__" "NoModules.__init__" (inClass (top 23) 0) f fd) (BS : BaseG P w K mg base mc "FlowError" "ValueError" CF fF fdF) (ox : OexG K C "ValueError") (nf0 : PySem.W.findIn K (.ref C) "found" = some none) :
    FnOk P w K mg base CX0 3 f fd ["self", "found"] (spIn C "no such modules as are wanted" ["found"]) := by
  refine F.ok scI23 (fun vs H Q E h => ?_) (fun cdv A outer s H vs Q E hr h => ?_)
  · obtain ⟨a, t, ws, rfl, l, _⟩ := h
    exact congrArg (· + 1) l
  · obtain ⟨a, t, ws, rfl, l, ea, q⟩ := h
    match ws, l with
    | [v0], _ =>
    refine ⟨_, pss_cons (ps_expr (pe_clsFn BS.ok hr (by rfl) BS.g BS.rd BS.va BS.kp BS.bd pass0 (pa_cons (pv 0) (pa_cons pe_str pa_nil)))) (pss_one (ps_ostG (pv 0) (pv 1))),
      _, rfl, a, C, t, _, rfl, ox, ea, fun t1 n1 ne1 => ⟨_, rfl, _, rfl, a, C, t1, _, rfl, ox, nf0, .inl ⟨upd_same, fun dx n ne => ?_⟩⟩⟩
    have m0 := mk_first (z := "no such modules as are wanted") (f := "found") (v := v0) ea n1 ne1 n ne
    exact q _ m0.keep m0.ex
theorem scI24 : FnScope ["self", "found"] ["self", "found"] (defScope (inClass (top 24) 0)) := ⟨rfl, rfl, rfl, by decide +kernel, rfl, by decide +kernel, by decide +kernel⟩
theorem ok_I24 {f C CF fF : Addr} {fd fdF : FuncData} {mc : Value} (F : Fun K "__init__" "NoText.__init__" (inClass (top 24) 0) f fd) (BS : BaseG P w K mg base mc "FlowError" "ValueError" CF fF fdF) (ox : OexG K C "ValueError") (nf0 : PySem.W.findIn K (.ref C) "found" = some none) :
    FnOk P w K mg base CX0 3 f fd ["self", "found"] (spIn C "no such text as can be read" ["found"]) := by
  refine F.ok scI24 (fun vs H Q E h => ?_) (fun cdv A outer s H vs Q E hr h => ?_)
  · obtain ⟨a, t, ws, rfl, l, _⟩ := h
    exact congrArg (· + 1) l
  · obtain ⟨a, t, ws, rfl, l, ea, q⟩ := h
    match ws, l with
    | [v0], _ =>
    refine ⟨_, pss_cons (ps_expr (pe_clsFn BS.ok hr (by rfl) BS.g BS.rd BS.va BS.kp BS.bd pass0 (pa_cons (pv 0) (pa_cons pe_str pa_nil)))) (pss_one (ps_ostG (pv 0) (pv 1))),
      _, rfl, a, C, t, _, rfl, ox, ea, fun t1 n1 ne1 => ⟨_, rfl, _, rfl, a, C, t1, _, rfl, ox, nf0, .inl ⟨upd_same, fun dx n ne => ?_⟩⟩⟩
    have m0 := mk_first (z := "no such text as can be read") (f := "found") (v := v0) ea n1 ne1 n ne
    exact q _ m0.keep m0.ex
theorem scI25 : FnScope ["self", "found"] ["self", "found"] (defScope (inClass (top 25) 0)) := ⟨rfl, rfl, rfl, by decide +kernel, rfl, by decide +kernel, by decide +kernel⟩
theorem ok_I25 {f C CF fF : Addr} {fd fdF : FuncData} {mc : Value} (F : Fun K "__init__" "NoLine.__init__" (inClass (top 25) 0) f fd) (BS : BaseG P w K mg base mc "FlowError" "ValueError" CF fF fdF) (ox : OexG K C "ValueError") (nf0 : PySem.W.findIn K (.ref C) "found" = some none) :
    FnOk P w K mg base CX0 3 f fd ["self", "found"] (spIn C "no row that a desk takes" ["found"]) := by
  refine F.ok scI25 (fun vs H Q E h => ?_) (fun cdv A outer s H vs Q E hr h => ?_)
  · obtain ⟨a, t, ws, rfl, l, _⟩ := h
    exact congrArg (· + 1) l
  · obtain ⟨a, t, ws, rfl, l, ea, q⟩ := h
    match ws, l with
    | [v0], _ =>
    refine ⟨_, pss_cons (ps_expr (pe_clsFn BS.ok hr (by rfl) BS.g BS.rd BS.va BS.kp BS.bd pass0 (pa_cons (pv 0) (pa_cons pe_str pa_nil)))) (pss_one (ps_ostG (pv 0) (pv 1))),
      _, rfl, a, C, t, _, rfl, ox, ea, fun t1 n1 ne1 => ⟨_, rfl, _, rfl, a, C, t1, _, rfl, ox, nf0, .inl ⟨upd_same, fun dx n ne => ?_⟩⟩⟩
    have m0 := mk_first (z := "no row that a desk takes") (f := "found") (v := v0) ea n1 ne1 n ne
    exact q _ m0.keep m0.ex
theorem scI26 : FnScope ["self", "where", "at", "why", "found"] ["self", "where", "at", "why", "found"] (defScope (inClass (top 26) 0)) := ⟨rfl, rfl, rfl, by decide +kernel, rfl, by decide +kernel, by decide +kernel⟩
theorem ok_I26 {f C CF fF : Addr} {fd fdF : FuncData} {mc : Value} (F : Fun K "__init__" "Unfit.__init__" (inClass (top 26) 0) f fd) (BS : BaseG P w K mg base mc "FlowError" "ValueError" CF fF fdF) (ox : OexG K C "ValueError") (nf0 : PySem.W.findIn K (.ref C) "where" = some none) (nf1 : PySem.W.findIn K (.ref C) "at" = some none) (nf2 : PySem.W.findIn K (.ref C) "why" = some none) (nf3 : PySem.W.findIn K (.ref C) "found" = some none) :
    FnOk P w K mg base CX0 3 f fd ["self", "where", "at", "why", "found"] (spIn C "a node doesn't fit" ["where", "at", "why", "found"]) := by
  refine F.ok scI26 (fun vs H Q E h => ?_) (fun cdv A outer s H vs Q E hr h => ?_)
  · obtain ⟨a, t, ws, rfl, l, _⟩ := h
    exact congrArg (· + 1) l
  · obtain ⟨a, t, ws, rfl, l, ea, q⟩ := h
    match ws, l with
    | [v0, v1, v2, v3], _ =>
    refine ⟨_, pss_cons (ps_expr (pe_clsFn BS.ok hr (by rfl) BS.g BS.rd BS.va BS.kp BS.bd pass0 (pa_cons (pv 0) (pa_cons pe_str pa_nil)))) (pss_cons (ps_ostG (pv 0) (pv 1)) (pss_cons (ps_ostG (pv 0) (pv 2)) (pss_cons (ps_ostG (pv 0) (pv 3)) (pss_one (ps_ostG (pv 0) (pv 4)))))),
      _, rfl, a, C, t, _, rfl, ox, ea, fun t1 n1 ne1 => ⟨_, rfl, _, rfl, a, C, t1, _, rfl, ox, nf0, .inl ⟨upd_same, fun dx n ne => ?_⟩⟩⟩
    have m0 := mk_first (z := "a node doesn't fit") (f := "where") (v := v0) ea n1 ne1 n ne
    refine ⟨_, rfl, _, rfl, a, C, t1, _, rfl, ox, nf1, .inr ⟨dx, _, m0.ea, m0.ed, by simp, ?_⟩⟩
    have m1 := mk_next (f := "at") (v := v1) m0
    refine ⟨_, rfl, _, rfl, a, C, t1, _, rfl, ox, nf2, .inr ⟨dx, _, m1.ea, m1.ed, by simp, ?_⟩⟩
    have m2 := mk_next (f := "why") (v := v2) m1
    refine ⟨_, rfl, _, rfl, a, C, t1, _, rfl, ox, nf3, .inr ⟨dx, _, m2.ea, m2.ed, by simp, ?_⟩⟩
    have m3 := mk_next (f := "found") (v := v3) m2
    exact q _ m3.keep m3.ex
theorem scI27 : FnScope ["self", "where", "ring"] ["self", "where", "ring"] (defScope (inClass (top 27) 0)) := ⟨rfl, rfl, rfl, by decide +kernel, rfl, by decide +kernel, by decide +kernel⟩
theorem ok_I27 {f C CF fF : Addr} {fd fdF : FuncData} {mc : Value} (F : Fun K "__init__" "Ringed.__init__" (inClass (top 27) 0) f fd) (BS : BaseG P w K mg base mc "FlowError" "ValueError" CF fF fdF) (ox : OexG K C "ValueError") (nf0 : PySem.W.findIn K (.ref C) "where" = some none) (nf1 : PySem.W.findIn K (.ref C) "ring" = some none) :
    FnOk P w K mg base CX0 3 f fd ["self", "where", "ring"] (spIn C "flows need one another in a ring" ["where", "ring"]) := by
  refine F.ok scI27 (fun vs H Q E h => ?_) (fun cdv A outer s H vs Q E hr h => ?_)
  · obtain ⟨a, t, ws, rfl, l, _⟩ := h
    exact congrArg (· + 1) l
  · obtain ⟨a, t, ws, rfl, l, ea, q⟩ := h
    match ws, l with
    | [v0, v1], _ =>
    refine ⟨_, pss_cons (ps_expr (pe_clsFn BS.ok hr (by rfl) BS.g BS.rd BS.va BS.kp BS.bd pass0 (pa_cons (pv 0) (pa_cons pe_str pa_nil)))) (pss_cons (ps_ostG (pv 0) (pv 1)) (pss_one (ps_ostG (pv 0) (pv 2)))),
      _, rfl, a, C, t, _, rfl, ox, ea, fun t1 n1 ne1 => ⟨_, rfl, _, rfl, a, C, t1, _, rfl, ox, nf0, .inl ⟨upd_same, fun dx n ne => ?_⟩⟩⟩
    have m0 := mk_first (z := "flows need one another in a ring") (f := "where") (v := v0) ea n1 ne1 n ne
    refine ⟨_, rfl, _, rfl, a, C, t1, _, rfl, ox, nf1, .inr ⟨dx, _, m0.ea, m0.ed, by simp, ?_⟩⟩
    have m1 := mk_next (f := "ring") (v := v1) m0
    exact q _ m1.keep m1.ex
theorem scI28 : FnScope ["self", "where", "at", "found"] ["self", "where", "at", "found"] (defScope (inClass (top 28) 0)) := ⟨rfl, rfl, rfl, by decide +kernel, rfl, by decide +kernel, by decide +kernel⟩
theorem ok_I28 {f C CF fF : Addr} {fd fdF : FuncData} {mc : Value} (F : Fun K "__init__" "Bare.__init__" (inClass (top 28) 0) f fd) (BS : BaseG P w K mg base mc "FlowError" "ValueError" CF fF fdF) (ox : OexG K C "ValueError") (nf0 : PySem.W.findIn K (.ref C) "where" = some none) (nf1 : PySem.W.findIn K (.ref C) "at" = some none) (nf2 : PySem.W.findIn K (.ref C) "found" = some none) :
    FnOk P w K mg base CX0 3 f fd ["self", "where", "at", "found"] (spIn C "a worth may lack" ["where", "at", "found"]) := by
  refine F.ok scI28 (fun vs H Q E h => ?_) (fun cdv A outer s H vs Q E hr h => ?_)
  · obtain ⟨a, t, ws, rfl, l, _⟩ := h
    exact congrArg (· + 1) l
  · obtain ⟨a, t, ws, rfl, l, ea, q⟩ := h
    match ws, l with
    | [v0, v1, v2], _ =>
    refine ⟨_, pss_cons (ps_expr (pe_clsFn BS.ok hr (by rfl) BS.g BS.rd BS.va BS.kp BS.bd pass0 (pa_cons (pv 0) (pa_cons pe_str pa_nil)))) (pss_cons (ps_ostG (pv 0) (pv 1)) (pss_cons (ps_ostG (pv 0) (pv 2)) (pss_one (ps_ostG (pv 0) (pv 3))))),
      _, rfl, a, C, t, _, rfl, ox, ea, fun t1 n1 ne1 => ⟨_, rfl, _, rfl, a, C, t1, _, rfl, ox, nf0, .inl ⟨upd_same, fun dx n ne => ?_⟩⟩⟩
    have m0 := mk_first (z := "a worth may lack") (f := "where") (v := v0) ea n1 ne1 n ne
    refine ⟨_, rfl, _, rfl, a, C, t1, _, rfl, ox, nf1, .inr ⟨dx, _, m0.ea, m0.ed, by simp, ?_⟩⟩
    have m1 := mk_next (f := "at") (v := v1) m0
    refine ⟨_, rfl, _, rfl, a, C, t1, _, rfl, ox, nf2, .inr ⟨dx, _, m1.ea, m1.ed, by simp, ?_⟩⟩
    have m2 := mk_next (f := "found") (v := v2) m1
    exact q _ m2.keep m2.ex
theorem scI29 : FnScope ["self", "at"] ["self", "at"] (defScope (inClass (top 29) 0)) := ⟨rfl, rfl, rfl, by decide +kernel, rfl, by decide +kernel, by decide +kernel⟩
theorem ok_I29 {f C CF fF : Addr} {fd fdF : FuncData} {mc : Value} (F : Fun K "__init__" "NoRow.__init__" (inClass (top 29) 0) f fd) (BS : BaseG P w K mg base mc "FlowError" "ValueError" CF fF fdF) (ox : OexG K C "ValueError") (nf0 : PySem.W.findIn K (.ref C) "at" = some none) :
    FnOk P w K mg base CX0 3 f fd ["self", "at"] (spIn C "a row isn't right" ["at"]) := by
  refine F.ok scI29 (fun vs H Q E h => ?_) (fun cdv A outer s H vs Q E hr h => ?_)
  · obtain ⟨a, t, ws, rfl, l, _⟩ := h
    exact congrArg (· + 1) l
  · obtain ⟨a, t, ws, rfl, l, ea, q⟩ := h
    match ws, l with
    | [v0], _ =>
    refine ⟨_, pss_cons (ps_expr (pe_clsFn BS.ok hr (by rfl) BS.g BS.rd BS.va BS.kp BS.bd pass0 (pa_cons (pv 0) (pa_cons pe_str pa_nil)))) (pss_one (ps_ostG (pv 0) (pv 1))),
      _, rfl, a, C, t, _, rfl, ox, ea, fun t1 n1 ne1 => ⟨_, rfl, _, rfl, a, C, t1, _, rfl, ox, nf0, .inl ⟨upd_same, fun dx n ne => ?_⟩⟩⟩
    have m0 := mk_first (z := "a row isn't right") (f := "at") (v := v0) ea n1 ne1 n ne
    exact q _ m0.keep m0.ex
theorem scI30 : FnScope ["self", "found"] ["self", "found"] (defScope (inClass (top 30) 0)) := ⟨rfl, rfl, rfl, by decide +kernel, rfl, by decide +kernel, by decide +kernel⟩
theorem ok_I30 {f C CF fF : Addr} {fd fdF : FuncData} {mc : Value} (F : Fun K "__init__" "NotThere.__init__" (inClass (top 30) 0) f fd) (BS : BaseG P w K mg base mc "Missing" "KeyError" CF fF fdF) (ox : OexG K C "KeyError") (nf0 : PySem.W.findIn K (.ref C) "found" = some none) :
    FnOk P w K mg base CX0 3 f fd ["self", "found"] (spIn C "not there" ["found"]) := by
  refine F.ok scI30 (fun vs H Q E h => ?_) (fun cdv A outer s H vs Q E hr h => ?_)
  · obtain ⟨a, t, ws, rfl, l, _⟩ := h
    exact congrArg (· + 1) l
  · obtain ⟨a, t, ws, rfl, l, ea, q⟩ := h
    match ws, l with
    | [v0], _ =>
    refine ⟨_, pss_cons (ps_expr (pe_clsFn BS.ok hr (by rfl) BS.g BS.rd BS.va BS.kp BS.bd pass0 (pa_cons (pv 0) (pa_cons pe_str pa_nil)))) (pss_one (ps_ostG (pv 0) (pv 1))),
      _, rfl, a, C, t, _, rfl, ox, ea, fun t1 n1 ne1 => ⟨_, rfl, _, rfl, a, C, t1, _, rfl, ox, nf0, .inl ⟨upd_same, fun dx n ne => ?_⟩⟩⟩
    have m0 := mk_first (z := "not there") (f := "found") (v := v0) ea n1 ne1 n ne
    exact q _ m0.keep m0.ex
theorem scI31 : FnScope ["self", "found"] ["self", "found"] (defScope (inClass (top 31) 0)) := ⟨rfl, rfl, rfl, by decide +kernel, rfl, by decide +kernel, by decide +kernel⟩
theorem ok_I31 {f C CF fF : Addr} {fd fdF : FuncData} {mc : Value} (F : Fun K "__init__" "NoOut.__init__" (inClass (top 31) 0) f fd) (BS : BaseG P w K mg base mc "Missing" "KeyError" CF fF fdF) (ox : OexG K C "KeyError") (nf0 : PySem.W.findIn K (.ref C) "found" = some none) :
    FnOk P w K mg base CX0 3 f fd ["self", "found"] (spIn C "no out that is a saying" ["found"]) := by
  refine F.ok scI31 (fun vs H Q E h => ?_) (fun cdv A outer s H vs Q E hr h => ?_)
  · obtain ⟨a, t, ws, rfl, l, _⟩ := h
    exact congrArg (· + 1) l
  · obtain ⟨a, t, ws, rfl, l, ea, q⟩ := h
    match ws, l with
    | [v0], _ =>
    refine ⟨_, pss_cons (ps_expr (pe_clsFn BS.ok hr (by rfl) BS.g BS.rd BS.va BS.kp BS.bd pass0 (pa_cons (pv 0) (pa_cons pe_str pa_nil)))) (pss_one (ps_ostG (pv 0) (pv 1))),
      _, rfl, a, C, t, _, rfl, ox, ea, fun t1 n1 ne1 => ⟨_, rfl, _, rfl, a, C, t1, _, rfl, ox, nf0, .inl ⟨upd_same, fun dx n ne => ?_⟩⟩⟩
    have m0 := mk_first (z := "no out that is a saying") (f := "found") (v := v0) ea n1 ne1 n ne
    exact q _ m0.keep m0.ex
theorem scI32 : FnScope ["self", "where", "found"] ["self", "where", "found"] (defScope (inClass (top 32) 0)) := ⟨rfl, rfl, rfl, by decide +kernel, rfl, by decide +kernel, by decide +kernel⟩
theorem ok_I32 {f C CF fF : Addr} {fd fdF : FuncData} {mc : Value} (F : Fun K "__init__" "NoImport.__init__" (inClass (top 32) 0) f fd) (BS : BaseG P w K mg base mc "Missing" "KeyError" CF fF fdF) (ox : OexG K C "KeyError") (nf0 : PySem.W.findIn K (.ref C) "where" = some none) (nf1 : PySem.W.findIn K (.ref C) "found" = some none) :
    FnOk P w K mg base CX0 3 f fd ["self", "where", "found"] (spIn C "a used module isn't there" ["where", "found"]) := by
  refine F.ok scI32 (fun vs H Q E h => ?_) (fun cdv A outer s H vs Q E hr h => ?_)
  · obtain ⟨a, t, ws, rfl, l, _⟩ := h
    exact congrArg (· + 1) l
  · obtain ⟨a, t, ws, rfl, l, ea, q⟩ := h
    match ws, l with
    | [v0, v1], _ =>
    refine ⟨_, pss_cons (ps_expr (pe_clsFn BS.ok hr (by rfl) BS.g BS.rd BS.va BS.kp BS.bd pass0 (pa_cons (pv 0) (pa_cons pe_str pa_nil)))) (pss_cons (ps_ostG (pv 0) (pv 1)) (pss_one (ps_ostG (pv 0) (pv 2)))),
      _, rfl, a, C, t, _, rfl, ox, ea, fun t1 n1 ne1 => ⟨_, rfl, _, rfl, a, C, t1, _, rfl, ox, nf0, .inl ⟨upd_same, fun dx n ne => ?_⟩⟩⟩
    have m0 := mk_first (z := "a used module isn't there") (f := "where") (v := v0) ea n1 ne1 n ne
    refine ⟨_, rfl, _, rfl, a, C, t1, _, rfl, ox, nf1, .inr ⟨dx, _, m0.ea, m0.ed, by simp, ?_⟩⟩
    have m1 := mk_next (f := "found") (v := v1) m0
    exact q _ m1.keep m1.ex
theorem scI33 : FnScope ["self", "many"] ["self", "many"] (defScope (inClass (top 33) 0)) := ⟨rfl, rfl, rfl, by decide +kernel, rfl, by decide +kernel, by decide +kernel⟩
theorem ok_I33 {f C CF fF : Addr} {fd fdF : FuncData} {mc : Value} (F : Fun K "__init__" "TooMany.__init__" (inClass (top 33) 0) f fd) (BS : BaseG P w K mg base mc "Barred" "LookupError" CF fF fdF) (ox : OexG K C "LookupError") (nf0 : PySem.W.findIn K (.ref C) "many" = some none) :
    FnOk P w K mg base CX0 3 f fd ["self", "many"] (spIn C "too many" ["many"]) := by
  refine F.ok scI33 (fun vs H Q E h => ?_) (fun cdv A outer s H vs Q E hr h => ?_)
  · obtain ⟨a, t, ws, rfl, l, _⟩ := h
    exact congrArg (· + 1) l
  · obtain ⟨a, t, ws, rfl, l, ea, q⟩ := h
    match ws, l with
    | [v0], _ =>
    refine ⟨_, pss_cons (ps_expr (pe_clsFn BS.ok hr (by rfl) BS.g BS.rd BS.va BS.kp BS.bd pass0 (pa_cons (pv 0) (pa_cons pe_str pa_nil)))) (pss_one (ps_ostG (pv 0) (pv 1))),
      _, rfl, a, C, t, _, rfl, ox, ea, fun t1 n1 ne1 => ⟨_, rfl, _, rfl, a, C, t1, _, rfl, ox, nf0, .inl ⟨upd_same, fun dx n ne => ?_⟩⟩⟩
    have m0 := mk_first (z := "too many") (f := "many") (v := v0) ea n1 ne1 n ne
    exact q _ m0.keep m0.ex
theorem scI34 : FnScope ["self", "many"] ["self", "many"] (defScope (inClass (top 34) 0)) := ⟨rfl, rfl, rfl, by decide +kernel, rfl, by decide +kernel, by decide +kernel⟩
theorem ok_I34 {f C CF fF : Addr} {fd fdF : FuncData} {mc : Value} (F : Fun K "__init__" "TooSlow.__init__" (inClass (top 34) 0) f fd) (BS : BaseG P w K mg base mc "Barred" "LookupError" CF fF fdF) (ox : OexG K C "LookupError") (nf0 : PySem.W.findIn K (.ref C) "many" = some none) :
    FnOk P w K mg base CX0 3 f fd ["self", "many"] (spIn C "too many steps for the time of a beat" ["many"]) := by
  refine F.ok scI34 (fun vs H Q E h => ?_) (fun cdv A outer s H vs Q E hr h => ?_)
  · obtain ⟨a, t, ws, rfl, l, _⟩ := h
    exact congrArg (· + 1) l
  · obtain ⟨a, t, ws, rfl, l, ea, q⟩ := h
    match ws, l with
    | [v0], _ =>
    refine ⟨_, pss_cons (ps_expr (pe_clsFn BS.ok hr (by rfl) BS.g BS.rd BS.va BS.kp BS.bd pass0 (pa_cons (pv 0) (pa_cons pe_str pa_nil)))) (pss_one (ps_ostG (pv 0) (pv 1))),
      _, rfl, a, C, t, _, rfl, ox, ea, fun t1 n1 ne1 => ⟨_, rfl, _, rfl, a, C, t1, _, rfl, ox, nf0, .inl ⟨upd_same, fun dx n ne => ?_⟩⟩⟩
    have m0 := mk_first (z := "too many steps for the time of a beat") (f := "many") (v := v0) ea n1 ne1 n ne
    exact q _ m0.keep m0.ex
theorem scI35 : FnScope ["self", "found"] ["self", "found"] (defScope (inClass (top 35) 0)) := ⟨rfl, rfl, rfl, by decide +kernel, rfl, by decide +kernel, by decide +kernel⟩
theorem ok_I35 {f C CF fF : Addr} {fd fdF : FuncData} {mc : Value} (F : Fun K "__init__" "TooLate.__init__" (inClass (top 35) 0) f fd) (BS : BaseG P w K mg base mc "Barred" "LookupError" CF fF fdF) (ox : OexG K C "LookupError") (nf0 : PySem.W.findIn K (.ref C) "found" = some none) :
    FnOk P w K mg base CX0 3 f fd ["self", "found"] (spIn C "the beat has begun" ["found"]) := by
  refine F.ok scI35 (fun vs H Q E h => ?_) (fun cdv A outer s H vs Q E hr h => ?_)
  · obtain ⟨a, t, ws, rfl, l, _⟩ := h
    exact congrArg (· + 1) l
  · obtain ⟨a, t, ws, rfl, l, ea, q⟩ := h
    match ws, l with
    | [v0], _ =>
    refine ⟨_, pss_cons (ps_expr (pe_clsFn BS.ok hr (by rfl) BS.g BS.rd BS.va BS.kp BS.bd pass0 (pa_cons (pv 0) (pa_cons pe_str pa_nil)))) (pss_one (ps_ostG (pv 0) (pv 1))),
      _, rfl, a, C, t, _, rfl, ox, ea, fun t1 n1 ne1 => ⟨_, rfl, _, rfl, a, C, t1, _, rfl, ox, nf0, .inl ⟨upd_same, fun dx n ne => ?_⟩⟩⟩
    have m0 := mk_first (z := "the beat has begun") (f := "found") (v := v0) ea n1 ne1 n ne
    exact q _ m0.keep m0.ex
theorem scI36 : FnScope ["self", "found"] ["self", "found"] (defScope (inClass (top 36) 0)) := ⟨rfl, rfl, rfl, by decide +kernel, rfl, by decide +kernel, by decide +kernel⟩
theorem ok_I36 {f C CF fF : Addr} {fd fdF : FuncData} {mc : Value} (F : Fun K "__init__" "Twice.__init__" (inClass (top 36) 0) f fd) (BS : BaseG P w K mg base mc "Barred" "LookupError" CF fF fdF) (ox : OexG K C "LookupError") (nf0 : PySem.W.findIn K (.ref C) "found" = some none) :
    FnOk P w K mg base CX0 3 f fd ["self", "found"] (spIn C "given once already" ["found"]) := by
  refine F.ok scI36 (fun vs H Q E h => ?_) (fun cdv A outer s H vs Q E hr h => ?_)
  · obtain ⟨a, t, ws, rfl, l, _⟩ := h
    exact congrArg (· + 1) l
  · obtain ⟨a, t, ws, rfl, l, ea, q⟩ := h
    match ws, l with
    | [v0], _ =>
    refine ⟨_, pss_cons (ps_expr (pe_clsFn BS.ok hr (by rfl) BS.g BS.rd BS.va BS.kp BS.bd pass0 (pa_cons (pv 0) (pa_cons pe_str pa_nil)))) (pss_one (ps_ostG (pv 0) (pv 1))),
      _, rfl, a, C, t, _, rfl, ox, ea, fun t1 n1 ne1 => ⟨_, rfl, _, rfl, a, C, t1, _, rfl, ox, nf0, .inl ⟨upd_same, fun dx n ne => ?_⟩⟩⟩
    have m0 := mk_first (z := "given once already") (f := "found") (v := v0) ea n1 ne1 n ne
    exact q _ m0.keep m0.ex
theorem scI37 : FnScope ["self", "found"] ["self", "found"] (defScope (inClass (top 37) 0)) := ⟨rfl, rfl, rfl, by decide +kernel, rfl, by decide +kernel, by decide +kernel⟩
theorem ok_I37 {f C CF fF : Addr} {fd fdF : FuncData} {mc : Value} (F : Fun K "__init__" "Over.__init__" (inClass (top 37) 0) f fd) (BS : BaseG P w K mg base mc "Barred" "LookupError" CF fF fdF) (ox : OexG K C "LookupError") (nf0 : PySem.W.findIn K (.ref C) "found" = some none) :
    FnOk P w K mg base CX0 3 f fd ["self", "found"] (spIn C "the beats are over" ["found"]) := by
  refine F.ok scI37 (fun vs H Q E h => ?_) (fun cdv A outer s H vs Q E hr h => ?_)
  · obtain ⟨a, t, ws, rfl, l, _⟩ := h
    exact congrArg (· + 1) l
  · obtain ⟨a, t, ws, rfl, l, ea, q⟩ := h
    match ws, l with
    | [v0], _ =>
    refine ⟨_, pss_cons (ps_expr (pe_clsFn BS.ok hr (by rfl) BS.g BS.rd BS.va BS.kp BS.bd pass0 (pa_cons (pv 0) (pa_cons pe_str pa_nil)))) (pss_one (ps_ostG (pv 0) (pv 1))),
      _, rfl, a, C, t, _, rfl, ox, ea, fun t1 n1 ne1 => ⟨_, rfl, _, rfl, a, C, t1, _, rfl, ox, nf0, .inl ⟨upd_same, fun dx n ne => ?_⟩⟩⟩
    have m0 := mk_first (z := "the beats are over") (f := "found") (v := v0) ea n1 ne1 n ne
    exact q _ m0.keep m0.ex
theorem scI38 : FnScope ["self", "found"] ["self", "found"] (defScope (inClass (top 38) 0)) := ⟨rfl, rfl, rfl, by decide +kernel, rfl, by decide +kernel, by decide +kernel⟩
theorem ok_I38 {f C CF fF : Addr} {fd fdF : FuncData} {mc : Value} (F : Fun K "__init__" "Busy.__init__" (inClass (top 38) 0) f fd) (BS : BaseG P w K mg base mc "Barred" "LookupError" CF fF fdF) (ox : OexG K C "LookupError") (nf0 : PySem.W.findIn K (.ref C) "found" = some none) :
    FnOk P w K mg base CX0 3 f fd ["self", "found"] (spIn C "ticks go by" ["found"]) := by
  refine F.ok scI38 (fun vs H Q E h => ?_) (fun cdv A outer s H vs Q E hr h => ?_)
  · obtain ⟨a, t, ws, rfl, l, _⟩ := h
    exact congrArg (· + 1) l
  · obtain ⟨a, t, ws, rfl, l, ea, q⟩ := h
    match ws, l with
    | [v0], _ =>
    refine ⟨_, pss_cons (ps_expr (pe_clsFn BS.ok hr (by rfl) BS.g BS.rd BS.va BS.kp BS.bd pass0 (pa_cons (pv 0) (pa_cons pe_str pa_nil)))) (pss_one (ps_ostG (pv 0) (pv 1))),
      _, rfl, a, C, t, _, rfl, ox, ea, fun t1 n1 ne1 => ⟨_, rfl, _, rfl, a, C, t1, _, rfl, ox, nf0, .inl ⟨upd_same, fun dx n ne => ?_⟩⟩⟩
    have m0 := mk_first (z := "ticks go by") (f := "found") (v := v0) ea n1 ne1 n ne
    exact q _ m0.keep m0.ex
end
end A1
end Bf

namespace Bf
open PySem PySem.Spec PyProof.Rows L2
/-- what the written part says of a class: what stands behind it in its order, its metaclass -/
structure EC (K : PySem.W.Frag) (C : Addr) (bm : List Value) : Prop where
  cl : ∃ cd, PySem.W.clsIn K C = some cd ∧ cd.mro = .ref C :: bm
  ty : PySem.W.typeIn K (.ref C) = some (.type "type")
theorem EC.sub {K : PySem.W.Frag} {C : Addr} {bm : List Value} (c : EC K C bm) (t : Value) : PySem.W.subIn K (.ref C) t = some ((Value.ref C :: bm).contains t) := by
  obtain ⟨cd, h, m⟩ := c.cl
  show PySem.W.mroIn K C t = _
  unfold PySem.W.mroIn
  rw [h, Option.bind_some, m]
  rfl
theorem EC.kr {K : PySem.W.Frag} {C D : Addr} {bm bn : List Value} (c : EC K C bm) (d : EC K D bn) : PySem.W.kitOne K (.ref C) (.ref D) = some ((Value.ref C :: bm).contains (.ref D)) := by
  unfold PySem.W.kitOne
  by_cases e : (Value.ref C == Value.ref D) = true
  · rw [if_pos e, ← beq_iff_eq.mp e]
    simp
  · rw [if_neg e]
    show (if ((PySem.W.clsIn K D).isSome && PySem.W.typeIn K (.ref D) == some (.type "type")) = true then PySem.W.subIn K (.ref C) (.ref D) else none) = _
    obtain ⟨cd, h, m⟩ := d.cl
    rw [h, d.ty, if_pos (by simp), c.sub]
theorem EC.kt {K : PySem.W.Frag} {C : Addr} {bm : List Value} (c : EC K C bm) {T : String} (hT : PySem.W.kitMeta T = true) : PySem.W.kitOne K (.ref C) (.type T) = some (bm.contains (.type T)) := by
  unfold PySem.W.kitOne
  rw [if_neg (show ¬(Value.ref C == Value.type T) = true from fun z => nomatch (beq_iff_eq.mp z))]
  show (if PySem.W.kitMeta T = true then PySem.W.subIn K (.ref C) (.type T) else none) = _
  rw [if_pos hT, c.sub, PySem.HandSPX.has_ref]
namespace A1
abbrev NM : List Str := [("NoKind" : Str), ("NoWidth" : Str), ("NoWorth" : Str), ("NoWorths" : Str), ("NoBits" : Str), ("NoNumber" : Str), ("NoOp" : Str), ("NoTerm" : Str), ("NoNames" : Str), ("NoNode" : Str), ("NoNodes" : Str), ("NoProgram" : Str), ("NoIns" : Str), ("NoFlat" : Str), ("NoCode" : Str), ("NoWires" : Str), ("NoLetter" : Str), ("NoPaper" : Str), ("NoEdit" : Str), ("NoModules" : Str), ("NoText" : Str), ("NoLine" : Str), ("NotThere" : Str), ("NoOut" : Str), ("TooLate" : Str), ("Twice" : Str), ("Over" : Str), ("Busy" : Str), ("Unfit" : Str), ("Ringed" : Str), ("Bare" : Str), ("NoRow" : Str), ("NoImport" : Str), ("TooMany" : Str), ("TooSlow" : Str)]
/-- the family of each refusal: 0, FlowError; 1, Missing; 2, Barred -/
def fam (i : Nat) : Nat := if i = 22 ∨ i = 23 ∨ i = 32 then 1 else if i = 24 ∨ i = 25 ∨ i = 26 ∨ i = 27 ∨ i = 33 ∨ i = 34 then 2 else 0
def famL (j : Nat) : List Bool := [j == 0, j == 1, j == 2, j == 0, j == 1, j == 1 || j == 2]
/-- of which families an exception of the class C is -/
structure FamK (K : PySem.W.Frag) (cF cM cB C : Addr) (j : Nat) : Prop where
  ec : ExcC K C
  f : PySem.W.kitOne K (.ref C) (.ref cF) = some (j == 0)
  m : PySem.W.kitOne K (.ref C) (.ref cM) = some (j == 1)
  b : PySem.W.kitOne K (.ref C) (.ref cB) = some (j == 2)
  v : PySem.W.kitOne K (.ref C) (.type "ValueError") = some (j == 0)
  k : PySem.W.kitOne K (.ref C) (.type "KeyError") = some (j == 1)
  l : PySem.W.kitOne K (.ref C) (.type "LookupError") = some (j == 1 || j == 2)
/-- the refusals' classes, by their numbers -/
structure KT (K : PySem.W.Frag) (mg : Str → Option Value) (cs : Nat → Addr) (cF cM cB : Addr) : Prop where
  g : ∀ i x, NM[i]? = some x → mg x = some (.ref (cs i))
  gF : mg "FlowError" = some (.ref cF)
  gM : mg "Missing" = some (.ref cM)
  gB : mg "Barred" = some (.ref cB)
  kk : ∀ i j, i < 35 → j < 35 → PySem.W.kitOne K (.ref (cs i)) (.ref (cs j)) = some (decide (j = i))
  fk : ∀ i, i < 35 → FamK K cF cM cB (cs i) (fam i)
section
variable {P : Program} {w : World} {K : PySem.W.Frag} {mg : Str → Option Value} {base : Heap} {cs : Nat → Addr} {cF cM cB : Addr}
theorem is_e {σ : L2.St} {a : Addr} {i j : Nat} {H : Hp} {Q : VK} (Z : KT K mg cs cF cM cB) (h0 : σ[0]? = some (some (.ref a))) (ex : ExG H a (cs i)) (hi : i < 35) (hj : j < 35) (q : Q (.bl (decide (j = i))) H) :
    tCB (rIsG K) (tCons (tVar 0) (tCons (tC (.ref (cs j))) tNil)) σ H Q := ⟨_, h0, a, cs i, _, _, _, rfl, .own _, ex, (Z.fk i hi).ec, Z.kk i j hi hj, q⟩
theorem is_c {σ : L2.St} {a C : Addr} {c : V} {u : Value} {b : Bool} {H : Hp} {Q : VK} (h0 : σ[0]? = some (some (.ref a))) (ex : ExG H a C) (ec : ExcC K C) (cv : ClsV c u) (k : PySem.W.kitOne K (.ref C) u = some b) (q : Q (.bl b) H) :
    tCB (rIsG K) (tCons (tVar 0) (tCons (tC c) tNil)) σ H Q := ⟨_, h0, a, C, _, _, _, rfl, cv, ex, ec, k, q⟩
theorem cat_new {H : Hp} {L M : Addr} {xs ys : List V} {Q : VK} (gL : H L = some (.lst xs)) (hM : H M = none) (l : xs.length + ys.length ≤ 1000) (q : ∀ N G, Same H G → N ≠ sysModules → G N = some (.lst (xs ++ ys)) → Q (.ref N) G) :
    rCatN (.ref L) (.ref M) (upd H M (.lst ys)) Q := by
  refine ⟨L, M, xs, ys, rfl, rfl, (same_new hM) _ _ gL, upd_same, by rw [sizeLine_eq]; omega, fun N hN nN => q N _ ((same_new hM).trans (same_new hN)) nN upd_same⟩
/-! ### _law_family -/
def spFam (K : PySem.W.Frag) (cF cM cB : Addr) : Sp := fun vs H Q _ => ∃ (a C : Addr) (j : Nat), vs = [.ref a] ∧ ExG H a C ∧ FamK K cF cM cB C j ∧ ∀ L G, Same H G → G L = some (.lst ((famL j).map V.bl)) → Q (.ref L) G
theorem scFam : FnScope ["_law_e", "_law_found"] ["_law_e"] (defScope sFamily) := ⟨rfl, rfl, rfl, by decide +kernel, rfl, by decide +kernel, by decide +kernel⟩
theorem ok_fam {f : Addr} {fd : FuncData} (F : Fun K "_law_family" "_law_family" sFamily f fd) (Z : KT K mg cs cF cM cB) (mi : mg "isinstance" = none) (mV : mg "ValueError" = none) (mK : mg "KeyError" = none) (mE : mg "LookupError" = none) :
    FnOk P w K mg base CX0 1 f fd ["_law_e"] (spFam K cF cM cB) := by
  refine F.ok scFam (fun vs H Q E h => ?_) (fun cdv A outer s H vs Q E hr h => ?_)
  · obtain ⟨a, C, j, rfl, _⟩ := h
    rfl
  · obtain ⟨a, C, j, rfl, ex, fk, q⟩ := h
    refine ⟨_, (pss_cons (ps_set (i := 1) scFam.nd rfl (Or.inl rfl) (pe_lst (pa_cons (pe_callB call_isG (by rfl) mi (by decide +kernel) (pa_cons (pv 0) (pa_cons (pe_glob (v := .ref cF) (by rfl) Z.gF rfl) pa_nil))) (pa_cons (pe_callB call_isG (by rfl) mi (by decide +kernel) (pa_cons (pv 0) (pa_cons (pe_glob (v := .ref cM) (by rfl) Z.gM rfl) pa_nil))) (pa_cons (pe_callB call_isG (by rfl) mi (by decide +kernel) (pa_cons (pv 0) (pa_cons (pe_glob (v := .ref cB) (by rfl) Z.gB rfl) pa_nil))) pa_nil)))))
      (pss_one (ps_ret (pe_op op_catN (pv 1) (pe_lst (pa_cons (pe_callB call_isG (by rfl) mi (by decide +kernel) (pa_cons (pv 0) (pa_cons (pe_bltn (v := .ty "ValueError") (by rfl) mV (by decide +kernel) rfl) pa_nil))) (pa_cons (pe_callB call_isG (by rfl) mi (by decide +kernel) (pa_cons (pv 0) (pa_cons (pe_bltn (v := .ty "KeyError") (by rfl) mK (by decide +kernel) rfl) pa_nil))) (pa_cons (pe_callB call_isG (by rfl) mi (by decide +kernel) (pa_cons (pv 0) (pa_cons (pe_bltn (v := .ty "LookupError") (by rfl) mE (by decide +kernel) rfl) pa_nil))) pa_nil)))))))), ?_⟩
    refine is_c rfl ex fk.ec (.own _) fk.f (is_c rfl ex fk.ec (.own _) fk.m (is_c rfl ex fk.ec (.own _) fk.b ⟨by show 3 ≤ sizeLine; decide, fun L hL => ?_⟩))
    have s0 : Same H (upd H L (.lst [.bl (j == 0), .bl (j == 1), .bl (j == 2)])) := same_new hL
    have g0 : (upd H L (.lst [.bl (j == 0), .bl (j == 1), .bl (j == 2)])) L = some (.lst [.bl (j == 0), .bl (j == 1), .bl (j == 2)]) := upd_same
    generalize upd H L (.lst [.bl (j == 0), .bl (j == 1), .bl (j == 2)]) = H0 at s0 g0
    have ex0 := ex.same s0
    dsimp only [gName]
    refine ⟨_, rfl, is_c rfl ex0 fk.ec (.ty _) fk.v (is_c rfl ex0 fk.ec (.ty _) fk.k (is_c rfl ex0 fk.ec (.ty _) fk.l ⟨by show 3 ≤ sizeLine; decide, fun M hM => cat_new g0 hM (by simp only [List.length_cons, List.length_nil]; decide) fun N G s n g => ?_⟩))⟩
    exact q N G (s0.trans s) g
/-! ### _law_kinds_of -/
def spKd (cs : Nat → Addr) : Sp := fun vs H Q _ => ∃ (a : Addr) (i : Nat), vs = [.ref a] ∧ i < 35 ∧ ExG H a (cs i) ∧ ∀ L G, Same H G → G L = some (.lst [.int (i : Nat)]) → Q (.ref L) G
abbrev nKd : List Str := ["_law_e", "_law_found", "_law_k", "_law_one"]
theorem scKd : FnScope nKd ["_law_e"] (defScope sKinds) := ⟨rfl, rfl, rfl, by decide +kernel, rfl, by decide +kernel, by decide +kernel⟩
set_option maxHeartbeats 4000000 in
theorem ok_kd {f : Addr} {fd : FuncData} (F : Fun K "_law_kinds_of" "_law_kinds_of" sKinds f fd) (Z : KT K mg cs cF cM cB) (mi : mg "isinstance" = none) (me : mg "enumerate" = none) : FnOk P w K mg base CX0 1 f fd ["_law_e"] (spKd cs) := by
  refine F.ok scKd (fun vs H Q E h => ?_) (fun cdv A outer s H vs Q E hr h => ?_)
  · obtain ⟨a, i, rfl, _⟩ := h
    rfl
  · obtain ⟨a, i, rfl, hi, ex, q⟩ := h
    refine ⟨_, (pss_cons (ps_set (i := 1) scKd.nd rfl (Or.inl rfl) (pe_lst (pa_cons (pe_callB call_isG (by rfl) mi (by decide +kernel) (pa_cons (pv 0) (pa_cons (pe_glob (v := .ref (cs 0)) (by rfl) (Z.g 0 "NoKind" rfl) rfl) pa_nil))) (pa_cons (pe_callB call_isG (by rfl) mi (by decide +kernel) (pa_cons (pv 0) (pa_cons (pe_glob (v := .ref (cs 1)) (by rfl) (Z.g 1 "NoWidth" rfl) rfl) pa_nil))) (pa_cons (pe_callB call_isG (by rfl) mi (by decide +kernel) (pa_cons (pv 0) (pa_cons (pe_glob (v := .ref (cs 2)) (by rfl) (Z.g 2 "NoWorth" rfl) rfl) pa_nil))) (pa_cons (pe_callB call_isG (by rfl) mi (by decide +kernel) (pa_cons (pv 0) (pa_cons (pe_glob (v := .ref (cs 3)) (by rfl) (Z.g 3 "NoWorths" rfl) rfl) pa_nil))) pa_nil))))))
        (pss_cons (ps_set (i := 1) scKd.nd rfl (Or.inl rfl) (pe_op op_catN (pv 1) (pe_lst (pa_cons (pe_callB call_isG (by rfl) mi (by decide +kernel) (pa_cons (pv 0) (pa_cons (pe_glob (v := .ref (cs 4)) (by rfl) (Z.g 4 "NoBits" rfl) rfl) pa_nil))) (pa_cons (pe_callB call_isG (by rfl) mi (by decide +kernel) (pa_cons (pv 0) (pa_cons (pe_glob (v := .ref (cs 5)) (by rfl) (Z.g 5 "NoNumber" rfl) rfl) pa_nil))) (pa_cons (pe_callB call_isG (by rfl) mi (by decide +kernel) (pa_cons (pv 0) (pa_cons (pe_glob (v := .ref (cs 6)) (by rfl) (Z.g 6 "NoOp" rfl) rfl) pa_nil))) (pa_cons (pe_callB call_isG (by rfl) mi (by decide +kernel) (pa_cons (pv 0) (pa_cons (pe_glob (v := .ref (cs 7)) (by rfl) (Z.g 7 "NoTerm" rfl) rfl) pa_nil))) pa_nil)))))))
        (pss_cons (ps_set (i := 1) scKd.nd rfl (Or.inl rfl) (pe_op op_catN (pv 1) (pe_lst (pa_cons (pe_callB call_isG (by rfl) mi (by decide +kernel) (pa_cons (pv 0) (pa_cons (pe_glob (v := .ref (cs 8)) (by rfl) (Z.g 8 "NoNames" rfl) rfl) pa_nil))) (pa_cons (pe_callB call_isG (by rfl) mi (by decide +kernel) (pa_cons (pv 0) (pa_cons (pe_glob (v := .ref (cs 9)) (by rfl) (Z.g 9 "NoNode" rfl) rfl) pa_nil))) (pa_cons (pe_callB call_isG (by rfl) mi (by decide +kernel) (pa_cons (pv 0) (pa_cons (pe_glob (v := .ref (cs 10)) (by rfl) (Z.g 10 "NoNodes" rfl) rfl) pa_nil))) (pa_cons (pe_callB call_isG (by rfl) mi (by decide +kernel) (pa_cons (pv 0) (pa_cons (pe_glob (v := .ref (cs 11)) (by rfl) (Z.g 11 "NoProgram" rfl) rfl) pa_nil))) pa_nil)))))))
        (pss_cons (ps_set (i := 1) scKd.nd rfl (Or.inl rfl) (pe_op op_catN (pv 1) (pe_lst (pa_cons (pe_callB call_isG (by rfl) mi (by decide +kernel) (pa_cons (pv 0) (pa_cons (pe_glob (v := .ref (cs 12)) (by rfl) (Z.g 12 "NoIns" rfl) rfl) pa_nil))) (pa_cons (pe_callB call_isG (by rfl) mi (by decide +kernel) (pa_cons (pv 0) (pa_cons (pe_glob (v := .ref (cs 13)) (by rfl) (Z.g 13 "NoFlat" rfl) rfl) pa_nil))) (pa_cons (pe_callB call_isG (by rfl) mi (by decide +kernel) (pa_cons (pv 0) (pa_cons (pe_glob (v := .ref (cs 14)) (by rfl) (Z.g 14 "NoCode" rfl) rfl) pa_nil))) (pa_cons (pe_callB call_isG (by rfl) mi (by decide +kernel) (pa_cons (pv 0) (pa_cons (pe_glob (v := .ref (cs 15)) (by rfl) (Z.g 15 "NoWires" rfl) rfl) pa_nil))) pa_nil)))))))
        (pss_cons (ps_set (i := 1) scKd.nd rfl (Or.inl rfl) (pe_op op_catN (pv 1) (pe_lst (pa_cons (pe_callB call_isG (by rfl) mi (by decide +kernel) (pa_cons (pv 0) (pa_cons (pe_glob (v := .ref (cs 16)) (by rfl) (Z.g 16 "NoLetter" rfl) rfl) pa_nil))) (pa_cons (pe_callB call_isG (by rfl) mi (by decide +kernel) (pa_cons (pv 0) (pa_cons (pe_glob (v := .ref (cs 17)) (by rfl) (Z.g 17 "NoPaper" rfl) rfl) pa_nil))) (pa_cons (pe_callB call_isG (by rfl) mi (by decide +kernel) (pa_cons (pv 0) (pa_cons (pe_glob (v := .ref (cs 18)) (by rfl) (Z.g 18 "NoEdit" rfl) rfl) pa_nil))) (pa_cons (pe_callB call_isG (by rfl) mi (by decide +kernel) (pa_cons (pv 0) (pa_cons (pe_glob (v := .ref (cs 19)) (by rfl) (Z.g 19 "NoModules" rfl) rfl) pa_nil))) pa_nil)))))))
        (pss_cons (ps_set (i := 1) scKd.nd rfl (Or.inl rfl) (pe_op op_catN (pv 1) (pe_lst (pa_cons (pe_callB call_isG (by rfl) mi (by decide +kernel) (pa_cons (pv 0) (pa_cons (pe_glob (v := .ref (cs 20)) (by rfl) (Z.g 20 "NoText" rfl) rfl) pa_nil))) (pa_cons (pe_callB call_isG (by rfl) mi (by decide +kernel) (pa_cons (pv 0) (pa_cons (pe_glob (v := .ref (cs 21)) (by rfl) (Z.g 21 "NoLine" rfl) rfl) pa_nil))) (pa_cons (pe_callB call_isG (by rfl) mi (by decide +kernel) (pa_cons (pv 0) (pa_cons (pe_glob (v := .ref (cs 22)) (by rfl) (Z.g 22 "NotThere" rfl) rfl) pa_nil))) (pa_cons (pe_callB call_isG (by rfl) mi (by decide +kernel) (pa_cons (pv 0) (pa_cons (pe_glob (v := .ref (cs 23)) (by rfl) (Z.g 23 "NoOut" rfl) rfl) pa_nil))) pa_nil)))))))
        (pss_cons (ps_set (i := 1) scKd.nd rfl (Or.inl rfl) (pe_op op_catN (pv 1) (pe_lst (pa_cons (pe_callB call_isG (by rfl) mi (by decide +kernel) (pa_cons (pv 0) (pa_cons (pe_glob (v := .ref (cs 24)) (by rfl) (Z.g 24 "TooLate" rfl) rfl) pa_nil))) (pa_cons (pe_callB call_isG (by rfl) mi (by decide +kernel) (pa_cons (pv 0) (pa_cons (pe_glob (v := .ref (cs 25)) (by rfl) (Z.g 25 "Twice" rfl) rfl) pa_nil))) (pa_cons (pe_callB call_isG (by rfl) mi (by decide +kernel) (pa_cons (pv 0) (pa_cons (pe_glob (v := .ref (cs 26)) (by rfl) (Z.g 26 "Over" rfl) rfl) pa_nil))) (pa_cons (pe_callB call_isG (by rfl) mi (by decide +kernel) (pa_cons (pv 0) (pa_cons (pe_glob (v := .ref (cs 27)) (by rfl) (Z.g 27 "Busy" rfl) rfl) pa_nil))) pa_nil)))))))
        (pss_cons (ps_set (i := 1) scKd.nd rfl (Or.inl rfl) (pe_op op_catN (pv 1) (pe_lst (pa_cons (pe_callB call_isG (by rfl) mi (by decide +kernel) (pa_cons (pv 0) (pa_cons (pe_glob (v := .ref (cs 28)) (by rfl) (Z.g 28 "Unfit" rfl) rfl) pa_nil))) (pa_cons (pe_callB call_isG (by rfl) mi (by decide +kernel) (pa_cons (pv 0) (pa_cons (pe_glob (v := .ref (cs 29)) (by rfl) (Z.g 29 "Ringed" rfl) rfl) pa_nil))) (pa_cons (pe_callB call_isG (by rfl) mi (by decide +kernel) (pa_cons (pv 0) (pa_cons (pe_glob (v := .ref (cs 30)) (by rfl) (Z.g 30 "Bare" rfl) rfl) pa_nil))) (pa_cons (pe_callB call_isG (by rfl) mi (by decide +kernel) (pa_cons (pv 0) (pa_cons (pe_glob (v := .ref (cs 31)) (by rfl) (Z.g 31 "NoRow" rfl) rfl) pa_nil))) pa_nil)))))))
        (pss_cons (ps_set (i := 1) scKd.nd rfl (Or.inl rfl) (pe_op op_catN (pv 1) (pe_lst (pa_cons (pe_callB call_isG (by rfl) mi (by decide +kernel) (pa_cons (pv 0) (pa_cons (pe_glob (v := .ref (cs 32)) (by rfl) (Z.g 32 "NoImport" rfl) rfl) pa_nil))) (pa_cons (pe_callB call_isG (by rfl) mi (by decide +kernel) (pa_cons (pv 0) (pa_cons (pe_glob (v := .ref (cs 33)) (by rfl) (Z.g 33 "TooMany" rfl) rfl) pa_nil))) (pa_cons (pe_callB call_isG (by rfl) mi (by decide +kernel) (pa_cons (pv 0) (pa_cons (pe_glob (v := .ref (cs 34)) (by rfl) (Z.g 34 "TooSlow" rfl) rfl) pa_nil))) pa_nil))))))
        (pss_one (ps_ret (pe_lc (own := [("_law_k", 2), ("_law_one", 3)]) (g := gTup K 2 (gCons (gName 2) (gCons (gName 3) gNil))) (tt := _) rfl scKd.nd (pi_enum (by rfl) me (pa_cons (pv 1) pa_nil)) (blkOk_by (N := nKd) (sc := defScope sKinds) (by decide +kernel))
          (fun _ _ _ _ _ => pg_tup rfl (pgs_cons (pg_name (i := 2) scKd.nd rfl (Or.inl rfl)) (pgs_cons (pg_name (i := 3) scKd.nd rfl (Or.inl rfl)) pgs_nil)))
          (fun _ _ _ _ _ => (pts_one (pt_val (pv 3)))) (fun _ _ _ _ _ => (pv 2)))))))))))))), ?_⟩
    refine is_e Z rfl ex hi (by decide : 0 < 35) (is_e Z rfl ex hi (by decide : 1 < 35) (is_e Z rfl ex hi (by decide : 2 < 35) (is_e Z rfl ex hi (by decide : 3 < 35) ⟨by show 4 ≤ sizeLine; decide, fun L0 h0 => ?_⟩)))
    have s0 : Same H (upd H L0 (.lst [.bl (decide (0 = i)), .bl (decide (1 = i)), .bl (decide (2 = i)), .bl (decide (3 = i))])) := same_new h0
    have g0 : (upd H L0 (.lst [.bl (decide (0 = i)), .bl (decide (1 = i)), .bl (decide (2 = i)), .bl (decide (3 = i))])) L0 = some (.lst [.bl (decide (0 = i)), .bl (decide (1 = i)), .bl (decide (2 = i)), .bl (decide (3 = i))]) := upd_same
    generalize upd H L0 (.lst [.bl (decide (0 = i)), .bl (decide (1 = i)), .bl (decide (2 = i)), .bl (decide (3 = i))]) = H0 at s0 g0
    dsimp only [gName]
    refine ⟨_, rfl, ?_⟩
    refine is_e Z rfl (ex.same s0) hi (by decide : 4 < 35) (is_e Z rfl (ex.same s0) hi (by decide : 5 < 35) (is_e Z rfl (ex.same s0) hi (by decide : 6 < 35) (is_e Z rfl (ex.same s0) hi (by decide : 7 < 35) ⟨by show 4 ≤ sizeLine; decide, fun M hM => cat_new g0 hM (by simp only [List.length_cons, List.length_append, List.length_nil]; decide) fun L1 H1 s n1 g1 => ?_⟩)))
    have s1 := s0.trans s
    clear s
    dsimp only [gName]
    refine ⟨_, rfl, ?_⟩
    refine is_e Z rfl (ex.same s1) hi (by decide : 8 < 35) (is_e Z rfl (ex.same s1) hi (by decide : 9 < 35) (is_e Z rfl (ex.same s1) hi (by decide : 10 < 35) (is_e Z rfl (ex.same s1) hi (by decide : 11 < 35) ⟨by show 4 ≤ sizeLine; decide, fun M hM => cat_new g1 hM (by simp only [List.length_cons, List.length_append, List.length_nil]; decide) fun L2 H2 s n2 g2 => ?_⟩)))
    have s2 := s1.trans s
    clear s
    dsimp only [gName]
    refine ⟨_, rfl, ?_⟩
    refine is_e Z rfl (ex.same s2) hi (by decide : 12 < 35) (is_e Z rfl (ex.same s2) hi (by decide : 13 < 35) (is_e Z rfl (ex.same s2) hi (by decide : 14 < 35) (is_e Z rfl (ex.same s2) hi (by decide : 15 < 35) ⟨by show 4 ≤ sizeLine; decide, fun M hM => cat_new g2 hM (by simp only [List.length_cons, List.length_append, List.length_nil]; decide) fun L3 H3 s n3 g3 => ?_⟩)))
    have s3 := s2.trans s
    clear s
    dsimp only [gName]
    refine ⟨_, rfl, ?_⟩
    refine is_e Z rfl (ex.same s3) hi (by decide : 16 < 35) (is_e Z rfl (ex.same s3) hi (by decide : 17 < 35) (is_e Z rfl (ex.same s3) hi (by decide : 18 < 35) (is_e Z rfl (ex.same s3) hi (by decide : 19 < 35) ⟨by show 4 ≤ sizeLine; decide, fun M hM => cat_new g3 hM (by simp only [List.length_cons, List.length_append, List.length_nil]; decide) fun L4 H4 s n4 g4 => ?_⟩)))
    have s4 := s3.trans s
    clear s
    dsimp only [gName]
    refine ⟨_, rfl, ?_⟩
    refine is_e Z rfl (ex.same s4) hi (by decide : 20 < 35) (is_e Z rfl (ex.same s4) hi (by decide : 21 < 35) (is_e Z rfl (ex.same s4) hi (by decide : 22 < 35) (is_e Z rfl (ex.same s4) hi (by decide : 23 < 35) ⟨by show 4 ≤ sizeLine; decide, fun M hM => cat_new g4 hM (by simp only [List.length_cons, List.length_append, List.length_nil]; decide) fun L5 H5 s n5 g5 => ?_⟩)))
    have s5 := s4.trans s
    clear s
    dsimp only [gName]
    refine ⟨_, rfl, ?_⟩
    refine is_e Z rfl (ex.same s5) hi (by decide : 24 < 35) (is_e Z rfl (ex.same s5) hi (by decide : 25 < 35) (is_e Z rfl (ex.same s5) hi (by decide : 26 < 35) (is_e Z rfl (ex.same s5) hi (by decide : 27 < 35) ⟨by show 4 ≤ sizeLine; decide, fun M hM => cat_new g5 hM (by simp only [List.length_cons, List.length_append, List.length_nil]; decide) fun L6 H6 s n6 g6 => ?_⟩)))
    have s6 := s5.trans s
    clear s
    dsimp only [gName]
    refine ⟨_, rfl, ?_⟩
    refine is_e Z rfl (ex.same s6) hi (by decide : 28 < 35) (is_e Z rfl (ex.same s6) hi (by decide : 29 < 35) (is_e Z rfl (ex.same s6) hi (by decide : 30 < 35) (is_e Z rfl (ex.same s6) hi (by decide : 31 < 35) ⟨by show 4 ≤ sizeLine; decide, fun M hM => cat_new g6 hM (by simp only [List.length_cons, List.length_append, List.length_nil]; decide) fun L7 H7 s n7 g7 => ?_⟩)))
    have s7 := s6.trans s
    clear s
    dsimp only [gName]
    refine ⟨_, rfl, ?_⟩
    refine is_e Z rfl (ex.same s7) hi (by decide : 32 < 35) (is_e Z rfl (ex.same s7) hi (by decide : 33 < 35) (is_e Z rfl (ex.same s7) hi (by decide : 34 < 35) ⟨by show 3 ≤ sizeLine; decide, fun M hM => cat_new g7 hM (by simp only [List.length_cons, List.length_append, List.length_nil]; decide) fun L8 H8 s n8 g8 => ?_⟩))
    have s8 := s7.trans s
    clear s
    dsimp only [gName]
    have gA : H8 L8 = some (.lst ((List.range 35).map fun j => V.bl (decide (j = i)))) := g8
    generalize H8 = HA at gA s8
    generalize L8 = LA at gA
    refine ⟨_, rfl, LA, _, rfl, SqL.of gA, fun D hD => lc_ite (K := K) (a := LA) (xs := (List.range 35).map fun j => V.bl (decide (j = i))) (fun j G => Same HA G ∧ G D = some (.lst (if i < j then [V.int (i : Nat)] else []))) ⟨same_new hD, upd_same⟩
      (fun j G _ pv => SqL.of (pv.1 _ _ gA)) (fun j x G T hx pv hT => ?_) fun G pv => ?_⟩
    · have hj : j < 35 := by
        have := (List.getElem?_eq_some_iff.mp hx).1
        rwa [List.length_map, List.length_range] at this
      rw [List.getElem?_map, List.getElem?_range hj] at hx
      cases hx
      have sT : Same G (upd G T (.tup [.int (j : Nat), .bl (decide (j = i))])) := same_new hT
      have nTD : T ≠ D := fun e => by rw [e, pv.2] at hT; cases hT
      have gD := sT _ _ pv.2
      have sG := pv.1.trans sT
      refine ⟨T, _, rfl, SqT.of upd_same, rfl, _, _, rfl, _, _, rfl, rfl, rfl, _, rfl, _, rfl, ?_⟩
      by_cases e : j = i
      · subst e
        refine iteB (decide_eq_true rfl) ⟨_, rfl, _, gD, ?_, fun b o e => ?_, ?_⟩
        · rw [if_neg (Nat.lt_irrefl _)]
          show 0 < sizeLine
          decide
        · rw [upd_ne (ne_of_none e hD)]
          exact sG _ _ e
        · rw [upd_same, if_neg (Nat.lt_irrefl _), if_pos (Nat.lt_succ_self _)]
          rfl
      · refine iteN (decide_eq_false e) ⟨sG, ?_⟩
        rw [gD]
        by_cases lt : i < j
        · rw [if_pos lt, if_pos (by omega)]
        · rw [if_neg lt, if_neg (by omega)]
    · rw [List.length_map, List.length_range, if_pos hi] at pv
      exact q D G (s8.trans pv.1) pv.2
end
end A1
end Bf

namespace Bf
open PySem PySem.Spec PyProof.Rows L2
theorem pe_xfK {X : Cx} {K : PySem.W.Frag} {e : Expr} {te : TE} {f : Str} {pos : Pos} (h : X.K = K) (he : PE X e te) (hb : attributeBase e f X.env (eval e X.env) = eval e X.env := by rfl) : PE X (.Attribute e f pos) (tXfG K f te) := by
  subst h; exact pe_xfG he hb
/-- the class C as it is called: its text, its fields' names -/
def MkC (P : Program) (w : World) (K : PySem.W.Frag) (mg : Str → Option Value) (base : Heap) (C : Addr) (z : Str) (ns : List Str) : Prop :=
  ∃ (B : String) (fI : Addr) (fdI : FuncData), OexG K C B ∧ PySem.W.findIn K (.ref C) "__init__" = some (some (.ref fI)) ∧ PySem.W.typeIn K (.ref fI) = some (.type "function") ∧
    FnOk P w K mg base CX0 3 fI fdI ("self" :: ns) (spIn C z ns) ∧ Binds K fdI ("self" :: ns) [] ∧ XfC K C ∧ ∀ f ∈ ns, PySem.W.findIn K (.ref C) f = some none
namespace A1
/-- drawn data, within P -/
def DV (P : Addr → Prop) (G : Hp) (v : V) : Prop := ∃ b d, Sh G P b v d ∧ fit 10 2 d ∧ sl d ≤ 500
theorem DV.kp {P : Addr → Prop} {G G' : Hp} {v : V} (k : Kp P G G') (h : DV P G v) : DV P G' v := let ⟨b, d, s, f, l⟩ := h; ⟨b, d, sh_kp k s, f, l⟩
theorem DV.on {P P' : Addr → Prop} {G : Hp} {v : V} (hp : ∀ a o, P a → G a = some o → P' a) (h : DV P G v) : DV P' G v := let ⟨b, d, s, f, l⟩ := h; ⟨b, d, Sh.on hp (fun _ _ _ e => e) d v s, f, l⟩
theorem DV.same {P : Addr → Prop} {G G' : Hp} {v : V} (s : Same G G') (h : DV P G v) : DV P G' v := h.kp (kp_same s)
/-- outside P only lists stand -/
def Ls (P : Addr → Prop) (G : Hp) : Prop := ∀ a o, G a = some o → (∀ xs, o ≠ .lst xs) → P a
theorem _root_.Bf.ExG.kp {P : Addr → Prop} {a C : Addr} {G G' : Hp} (hD : Ls P G) (k : Kp P G G') (h : ExG G a C) : ExG G' a C := by
  obtain ⟨d, t, h1, h2⟩ := h
  have n1 : ∀ xs, exoT a C d t ≠ .lst xs := fun xs z => by have z' : HO.ext _ = HO.lst xs := z; cases z'
  refine ⟨d, t, k _ _ (hD _ _ h1 n1) h1, fun d' e => ?_⟩
  obtain ⟨fs, q⟩ := h2 d' e
  have n2 : ∀ xs, exd d' fs ≠ .lst xs := fun xs z => by have z' : HO.ext _ = HO.lst xs := z; cases z'
  exact ⟨fs, k _ _ (hD _ _ q n2) q⟩
/-- a row: a refusal of the k-th class, its fields, what they are due to be -/
def Row (cs : Nat → Addr) (P : Addr → Prop) (k : Nat) (t : Addr) (G : Hp) : Prop := ∃ (e fl dl : Addr) (ws : List V), (P t ∧ P fl ∧ P dl) ∧ G t = some (.tup [.ref e, .ref fl, .ref dl]) ∧ ExG G e (cs k) ∧ G fl = some (.lst ws) ∧ G dl = some (.lst ws) ∧ (∀ v ∈ ws, DV P G v) ∧ ws.length ≤ 4
theorem Row.kp {cs : Nat → Addr} {P : Addr → Prop} {t : Addr} {k : Nat} {G G' : Hp} (hD : Ls P G) (kp : Kp P G G') (h : Row cs P k t G) : Row cs P k t G' := by
  obtain ⟨e, fl, dl, ws, ⟨n1, n2, n3⟩, h1, h2, h3, h4, h5, h6⟩ := h
  exact ⟨e, fl, dl, ws, ⟨n1, n2, n3⟩, kp _ _ n1 h1, h2.kp hD kp, kp _ _ n2 h3, kp _ _ n3 h4, fun v m => (h5 v m).kp kp, h6⟩
theorem Row.same {cs : Nat → Addr} {P : Addr → Prop} {t : Addr} {k : Nat} {G G' : Hp} (s : Same G G') (h : Row cs P k t G) : Row cs P k t G' := by
  obtain ⟨e, fl, dl, ws, ⟨n1, n2, n3⟩, h1, h2, h3, h4, h5, h6⟩ := h
  exact ⟨e, fl, dl, ws, ⟨n1, n2, n3⟩, s _ _ h1, h2.same s, s _ _ h3, s _ _ h4, fun v m => (h5 v m).kp (kp_same s), h6⟩
inductive RowL (cs : Nat → Addr) (P : Addr → Prop) (G : Hp) : Nat → List V → Prop
  | nil {k : Nat} : RowL cs P G k []
  | cons {k : Nat} {t : Addr} {vs : List V} (h : Row cs P k t G) (r : RowL cs P G (k + 1) vs) : RowL cs P G k (.ref t :: vs)
theorem RowL.kp {cs : Nat → Addr} {P : Addr → Prop} {G G' : Hp} (hD : Ls P G) (kp : Kp P G G') : ∀ {vs : List V} {k : Nat}, RowL cs P G k vs → RowL cs P G' k vs
  | _, _, .nil => .nil
  | _, _, .cons h r => .cons (h.kp hD kp) (RowL.kp hD kp r)
theorem RowL.same {cs : Nat → Addr} {P : Addr → Prop} {G G' : Hp} (s : Same G G') : ∀ {vs : List V} {k : Nat}, RowL cs P G k vs → RowL cs P G' k vs
  | _, _, .nil => .nil
  | _, _, .cons h r => .cons (h.same s) (RowL.same s r)
theorem RowL.app {cs : Nat → Addr} {P : Addr → Prop} {G : Hp} : ∀ {vs ws : List V} {k : Nat}, RowL cs P G k vs → RowL cs P G (k + vs.length) ws → RowL cs P G k (vs ++ ws)
  | _, _, _, .nil, r => r
  | _ :: vs, ws, k, .cons h t, r => .cons h (RowL.app t (by rw [show k + 1 + vs.length = k + (vs.length + 1) by omega]; exact r))
theorem RowL.get {cs : Nat → Addr} {P : Addr → Prop} {G : Hp} : ∀ {vs : List V} {k : Nat}, RowL cs P G k vs → ∀ {i : Nat} {v : V}, vs[i]? = some v → ∃ t, v = .ref t ∧ Row cs P (k + i) t G
  | _, _, .cons h r, 0, _, e => by cases e; exact ⟨_, rfl, h⟩
  | _, k, .cons h r, i + 1, _, e => by
    obtain ⟨t, a, b⟩ := RowL.get r (i := i) e
    exact ⟨t, a, by rw [show k + (i + 1) = k + 1 + i by omega]; exact b⟩
/-- refusals of one thing, of the classes from k on -/
inductive EmL (cs : Nat → Addr) (x : V) (G : Hp) : Nat → List V → Prop
  | nil {k : Nat} : EmL cs x G k []
  | cons {k : Nat} {e : Addr} {z : Str} {vs : List V} (h : ExVf G e (cs k) z [("found", x)]) (r : EmL cs x G (k + 1) vs) : EmL cs x G k (.ref e :: vs)
theorem EmL.same {cs : Nat → Addr} {x : V} {G G' : Hp} (s : Same G G') : ∀ {vs : List V} {k : Nat}, EmL cs x G k vs → EmL cs x G' k vs
  | _, _, .nil => .nil
  | _, _, .cons h r => .cons (h.same s) (EmL.same s r)
theorem EmL.app {cs : Nat → Addr} {x : V} {G : Hp} : ∀ {vs ws : List V} {k : Nat}, EmL cs x G k vs → EmL cs x G (k + vs.length) ws → EmL cs x G k (vs ++ ws)
  | _, _, _, .nil, r => r
  | _ :: vs, ws, k, .cons h t, r => .cons h (EmL.app t (by rw [show k + 1 + vs.length = k + (vs.length + 1) by omega]; exact r))
theorem EmL.get {cs : Nat → Addr} {x : V} {G : Hp} : ∀ {vs : List V} {k : Nat}, EmL cs x G k vs → ∀ {i : Nat} {v : V}, vs[i]? = some v → ∃ e z, v = .ref e ∧ ExVf G e (cs (k + i)) z [("found", x)]
  | _, _, .cons h r, 0, _, e => by cases e; exact ⟨_, _, rfl, h⟩
  | _, k, .cons h r, i + 1, _, e => by
    obtain ⟨t, z, a, b⟩ := EmL.get r (i := i) e
    exact ⟨t, z, a, by rw [show k + (i + 1) = k + 1 + i by omega]; exact b⟩
section
variable {K : PySem.W.Frag} {σ : L2.St} {H G : Hp} {Q : VK} {C e mo : Addr} {z f : Str} {x v : V} {fs : List (Str × V)} {ms : List V} {i j : Nat}
theorem mk1 (hx : σ[i]? = some (some x)) (q : ∀ a G, Same H G → ExVf G a C z [(f, x)] → Q (.ref a) G) : tMkT C (spIn C z [f]) (tCons (tVar i) tNil) σ H Q :=
  ⟨_, hx, by show 1 ≤ 1000; decide, fun a t ha => ⟨a, t, [x], rfl, rfl, upd_same, fun G kp ev => ⟨rfl, q a G (fun b o e => kp b o (ne_of_none e ha) (by rw [upd_ne (ne_of_none e ha)]; exact e)) ev⟩⟩⟩
theorem mk1c {tr : TA} {R : List V → Hp → Prop} (hx : σ[i]? = some (some x)) (q : ∀ a G, Same H G → ExVf G a C z [(f, x)] → tr σ G fun xs H2 => R (.ref a :: xs) H2) : tCons (tMkT C (spIn C z [f]) (tCons (tVar i) tNil)) tr σ H R := mk1 hx q
theorem seq_lst {D : Ends} {ta : TA} {g : TG} {u : TS} (h : ta σ H fun xs H1 => xs.length ≤ sizeLine ∧ ∀ p, H1 p = none → g (.ref p) σ (upd H1 p (.lst xs)) (u D)) : tSeq (tAsg (tLst ta) g) u D σ H := h
theorem seq_cat {D : Ends} {ta : TA} {g : TG} {u : TS} {l : V} (hσ : σ[i]? = some (some l)) (h : ta σ H fun xs H1 => xs.length ≤ sizeLine ∧ ∀ p, H1 p = none → rCatN l (.ref p) (upd H1 p (.lst xs)) fun x H2 => g x σ H2 (u D)) : tSeq (tAsg (tOp rCatN (tVar i) (tLst ta)) g) u D σ H := ⟨_, hσ, h⟩
theorem mk_n {ns : List Str} {ws : List V} {ta : TA} (hl : ws.length = ns.length) (h5 : ws.length ≤ 4) (q : ∀ a G, Same H G → ExVf G a C z (ns.zip ws).reverse → Q (.ref a) G) (ht : ∀ R : List V → Hp → Prop, R ws H → ta σ H R) : tMkT C (spIn C z ns) ta σ H Q :=
  ht _ ⟨by omega, fun a t ha => ⟨a, t, ws, rfl, hl, upd_same, fun G kp ev => ⟨rfl, q a G (fun b o e => kp b o (ne_of_none e ha) (by rw [upd_ne (ne_of_none e ha)]; exact e)) ev⟩⟩⟩
theorem xf_ok (hσ : σ[i]? = some (some (.ref e))) (ev : ExVf G e C z fs) (xf : XfC K C) (nf : PySem.W.findIn K (.ref C) f = some none) (hl : fs.lookup f = some v) (q : Q v G) : tXfG K f (tVar i) σ G Q := by
  obtain ⟨d, t, h1, h2, h3⟩ := ev
  exact ⟨_, hσ, e, C, d, t, fs, v, rfl, xf, nf, h1, h2, hl, q⟩
theorem ixm (h : σ[i]? = some (some (.ref mo))) (gm : G mo = some (.lst ms)) (e : ms[j]? = some v) (q : Q v G) : tOp (rIxL K) (tVar i) (tC (.int (j : Nat))) σ G Q :=
  ⟨_, h, mo, ms, ((j : Nat) : Int), v, rfl, rfl, SqL.of gm, atI_nat e, q⟩
theorem _root_.Bf.ExVf.g {H : Hp} {a C : Addr} {z : Str} {fs : List (Str × V)} (h : ExVf H a C z fs) : ExG H a C := h.ev.g
/-- a new row -/
theorem row_new {cs : Nat → Addr} {P : Addr → Prop} {t fl dl : Addr} {k : Nat} {ws : List V} {z : Str} {fs : List (Str × V)} (np : ∀ a, G a = none → P a) (ev : ExVf G e (cs k) z fs) (dv : ∀ v ∈ ws, DV P G v) (l4 : ws.length ≤ 4)
    (hfl : G fl = none) (hdl : (upd G fl (.lst ws)) dl = none) (ht : (upd (upd G fl (.lst ws)) dl (.lst ws)) t = none) :
    Same G (upd (upd (upd G fl (.lst ws)) dl (.lst ws)) t (.tup [.ref e, .ref fl, .ref dl])) ∧ Row cs P k t (upd (upd (upd G fl (.lst ws)) dl (.lst ws)) t (.tup [.ref e, .ref fl, .ref dl])) := by
  have s1 : Same G (upd G fl (.lst ws)) := same_new hfl
  have s2 : Same _ (upd (upd G fl (.lst ws)) dl (.lst ws)) := same_new hdl
  have s3 : Same _ (upd (upd (upd G fl (.lst ws)) dl (.lst ws)) t (.tup [.ref e, .ref fl, .ref dl])) := same_new ht
  have s := (s1.trans s2).trans s3
  exact ⟨s, e, fl, dl, ws, ⟨np _ ((s1.trans s2).free ht), np _ hfl, np _ (s1.free hdl)⟩, upd_same, ev.g.same s, s3 _ _ (s2 _ _ upd_same), s3 _ _ upd_same, fun v m => (dv v m).kp (kp_same s), l4⟩
theorem RowL.snoc {cs : Nat → Addr} {P : Addr → Prop} {t : Addr} {vs : List V} {n : Nat} (r : RowL cs P G 0 vs) (l : vs.length = n) (h : Row cs P n t G) : RowL cs P G 0 (vs ++ [.ref t]) := RowL.app r (.cons (by rw [l, Nat.zero_add]; exact h) .nil)
/-- the texts and the fields' names of the refusals -/
abbrev TX : List (Str × List Str) := [(("no kind" : Str), [("found" : Str)]), (("no width" : Str), [("found" : Str)]), (("no worth of the width" : Str), [("found" : Str)]), (("no such worths as are wanted" : Str), [("found" : Str)]), (("no list of one to eight truths" : Str), [("found" : Str)]), (("no such number as is wanted" : Str), [("found" : Str)]), (("no word of reckoning" : Str), [("found" : Str)]), (("no such term or right side" : Str), [("found" : Str)]), (("no dict from names to names" : Str), [("found" : Str)]), (("no node" : Str), [("found" : Str)]), (("no list of nodes" : Str), [("found" : Str)]), (("no program" : Str), [("found" : Str)]), (("no such ins as are wanted" : Str), [("found" : Str)]), (("no flat list" : Str), [("found" : Str)]), (("no code" : Str), [("found" : Str)]), (("no net of wires" : Str), [("found" : Str)]), (("no letter" : Str), [("found" : Str)]), (("no paper" : Str), [("found" : Str)]), (("no such edit as can be led over" : Str), [("found" : Str)]), (("no such modules as are wanted" : Str), [("found" : Str)]), (("no such text as can be read" : Str), [("found" : Str)]), (("no row that a desk takes" : Str), [("found" : Str)]), (("not there" : Str), [("found" : Str)]), (("no out that is a saying" : Str), [("found" : Str)]), (("the beat has begun" : Str), [("found" : Str)]), (("given once already" : Str), [("found" : Str)]), (("the beats are over" : Str), [("found" : Str)]), (("ticks go by" : Str), [("found" : Str)]), (("a node doesn't fit" : Str), [("where" : Str), ("at" : Str), ("why" : Str), ("found" : Str)]), (("flows need one another in a ring" : Str), [("where" : Str), ("ring" : Str)]), (("a worth may lack" : Str), [("where" : Str), ("at" : Str), ("found" : Str)]), (("a row isn't right" : Str), [("at" : Str)]), (("a used module isn't there" : Str), [("where" : Str), ("found" : Str)]), (("too many" : Str), [("many" : Str)]), (("too many steps for the time of a beat" : Str), [("many" : Str)])]
end
end A1
end Bf

namespace Bf
open PySem PySem.Spec PyProof.Rows L2
namespace A1
/-- neither at D nor at p -/
abbrev Ap (D p : Addr) : Addr → Prop := fun a => a ≠ D ∧ a ≠ p
theorem ls_ap {D p : Addr} {G : Hp} {xs ys : List V} (h1 : G D = some (.lst xs)) (h2 : G p = some (.lst ys)) : Ls (Ap D p) G := fun a o e n => ⟨fun z => by rw [z, h1] at e; exact n xs (Option.some.inj e).symm, fun z => by rw [z, h2] at e; exact n ys (Option.some.inj e).symm⟩
/-- the rows so far, and what the further ones are made of -/
structure MS (cs : Nat → Addr) (D p ml mo : Addr) (n : Int) (x : V) (i0 : Int) (H G : Hp) (m : Nat) : Prop where
  rows : ∃ R, G D = some (.lst R) ∧ R.length = m ∧ RowL cs (Ap D p) G 0 R
  gmo : G mo = some (.lst [.int i0, .str "a", .ref ml, .non])
  dv : ∀ v ∈ [x, .int i0, .str "a", .ref ml, .non], DV (Ap D p) G v
  kp : Kp (· ≠ p) H G
  pu : Purse G p (n + 2)
  nD : D ≠ p
  nmo : Ap D p mo
  fD : H D = none
section
variable {cs : Nat → Addr} {D p ml mo : Addr} {n : Int} {x : V} {i0 : Int} {H G : Hp} {m : Nat} {K : PySem.W.Frag} {σ : L2.St}
theorem MS.same {G' : Hp} (h : MS cs D p ml mo n x i0 H G m) (s : Same G G') : MS cs D p ml mo n x i0 H G' m := by
  obtain ⟨⟨R, a, b, c⟩, d, e, f, g, i, j, k⟩ := h
  exact ⟨⟨R, s _ _ a, b, c.same s⟩, s _ _ d, fun v mv => (e v mv).same s, f.trans (kp_same s), g.same s, i, j, k⟩
theorem MS.np (h : MS cs D p ml mo n x i0 H G m) {a : Addr} (e : G a = none) : Ap D p a := by
  obtain ⟨R, a1, _⟩ := h.rows
  exact ⟨ne_free a1 e, h.pu.ne e⟩
theorem MS.add {R : List V} {t : Addr} (h : MS cs D p ml mo n x i0 H G m) (gD : G D = some (.lst R)) (l : R.length = m) (rl : RowL cs (Ap D p) G 0 R) (r : Row cs (Ap D p) m t G) : MS cs D p ml mo n x i0 H (upd G D (.lst (R ++ [.ref t]))) (m + 1) := by
  obtain ⟨_, d, e, f, g, i, j, k⟩ := h
  have kD : Kp (Ap D p) G (upd G D (.lst (R ++ [.ref t]))) := fun a o na e => by rw [upd_ne na.1]; exact e
  have g0 := g
  obtain ⟨px, py, pz, gp, _⟩ := g
  have ls := ls_ap gD gp
  refine ⟨⟨_, upd_same, by rw [List.length_append, l]; rfl, (rl.snoc l r).kp ls kD⟩, kD _ _ j d, fun v mv => (e v mv).kp kD, fun a o na e => ?_, g0.of (upd_ne i.symm), i, j, k⟩
  rw [upd_ne (ne_of_none e k)]
  exact f a o na e
/-- one more row -/
theorem seq_row {E : Ends} {u : TS} {ta tb : TA} {e : Addr} {z : Str} {fs : List (Str × V)} {ws : List V} (h : MS cs D p ml mo n x i0 H G m) (h3 : σ[3]? = some (some (.ref D))) (h5 : σ[5]? = some (some (.ref e))) (ev : ExVf G e (cs m) z fs) (hm : m < 100)
    (hta : ∀ R : List V → Hp → Prop, R ws G → ta σ G R) (htb : ∀ G', Same G G' → ∀ R : List V → Hp → Prop, R ws G' → tb σ G' R) (dvs : ∀ v ∈ ws, DV (Ap D p) G v) (l4 : ws.length ≤ 4) (q : ∀ G', MS cs D p ml mo n x i0 H G' (m + 1) → u E σ G') :
    tSeq (tDrop (tBM K "list" rAppend (tVar 3) (tCons (tTup (tCons (tVar 5) (tCons (tLst ta) (tCons (tLst tb) tNil)))) tNil))) u E σ G := by
  obtain ⟨R, gD, l, rl⟩ := h.rows
  have ll : ws.length ≤ sizeLine := by rw [sizeLine_eq]; omega
  refine ⟨_, h3, .inl ⟨rfl, _, SqL.of gD⟩, _, h5, hta _ ⟨ll, fun fl hfl => ?_⟩⟩
  refine htb _ (same_new hfl) _ ⟨ll, fun dl hdl => ⟨by show 3 ≤ sizeLine; decide, fun t ht => ?_⟩⟩
  obtain ⟨s, r⟩ := row_new (P := Ap D p) (fun a e => h.np e) ev dvs l4 hfl hdl ht
  exact ⟨D, R, _, rfl, rfl, s _ _ gD, by rw [l, sizeLine_eq]; omega, q _ ((h.same s).add (s _ _ gD) l (rl.same s) r)⟩
/-- an own exception, made of what is told -/
theorem seq_mk {E : Ends} {g : TG} {u : TS} {ta : TA} {C : Addr} {z : Str} {ns : List Str} {ws : List V} (hl : ws.length = ns.length) (h5 : ws.length ≤ 4) (ht : ∀ R : List V → Hp → Prop, R ws G → ta σ G R)
    (q : ∀ a G', Same G G' → ExVf G' a C z (ns.zip ws).reverse → g (.ref a) σ G' (u E)) : tSeq (tAsg (tMkT C (spIn C z ns) ta) g) u E σ G := mk_n (Q := fun y G' => g y σ G' (u E)) hl h5 q ht
theorem seq_par {E : Ends} {u : TS} {ta tb : TA} {C C2 : Addr} {z z2 : Str} {ns ns2 : List Str} {ws ws2 : List V} {i j : Nat} (hl : ws.length = ns.length) (h5 : ws.length ≤ 4) (ht : ∀ R : List V → Hp → Prop, R ws G → ta σ G R)
    (hl2 : ws2.length = ns2.length) (h52 : ws2.length ≤ 4) (ht2 : ∀ G', Same G G' → ∀ R : List V → Hp → Prop, R ws2 G' → tb σ G' R)
    (q : ∀ a b G', Same G G' → ExVf G' a C z (ns.zip ws).reverse → ExVf G' b C2 z2 (ns2.zip ws2).reverse → u E ((σ.set i (some (.ref a))).set j (some (.ref b))) G') :
    tSeq (tPar i j (tCons (tMkT C (spIn C z ns) ta) (tCons (tMkT C2 (spIn C2 z2 ns2) tb) tNil))) u E σ G :=
  mk_n (Q := fun y G1 => tCons (tMkT C2 (spIn C2 z2 ns2) tb) tNil σ G1 fun xs G2 => ∃ v w, y :: xs = [v, w] ∧ u E ((σ.set i (some v)).set j (some w)) G2) hl h5 (fun a G1 s1 e1 =>
    mk_n (Q := fun y G2 => ∃ v w, [V.ref a, y] = [v, w] ∧ u E ((σ.set i (some v)).set j (some w)) G2) hl2 h52 (fun b G2 s2 e2 => ⟨_, _, rfl, q a b G2 (s1.trans s2) (e1.same s2) e2⟩) (ht2 G1 s1)) ht
end
end A1
end Bf

namespace Bf
open PySem PySem.Spec PyProof.Rows L2
namespace A1
section
variable {P : Program} {w : World} {K : PySem.W.Frag} {mg : Str → Option Value} {base : Heap} {cs : Nat → Addr} {cF cM cB : Addr}
abbrev nMade : List Str := ["_law_purse_here", "_law_thing", "_law_some", "_law_found", "_law_more", "_law_e", "_law_one"]
abbrev pMade : List Str := ["_law_purse_here", "_law_thing"]
def spMade (cs : Nat → Addr) : Sp := fun vs H Q _ => ∃ (p : Addr) (n : Int) (x : V), vs = [.ref p, x] ∧ Purse H p n ∧ n ≤ 99900 ∧ DV (· ≠ p) H x ∧
  ∀ R G L (P : Addr → Prop), Kp (· ≠ p) H G → Purse G p (n + 2) → R.length = 35 → G L = some (.lst R) → RowL cs P G 0 R → Q (.ref L) G
theorem scMade : FnScope nMade pMade (defScope sMade) := ⟨rfl, rfl, rfl, by decide +kernel, rfl, by decide +kernel, by decide +kernel⟩
theorem dvc {P : Addr → Prop} {G : Hp} {v : V} {vs : List V} (h : DV P G v) (t : ∀ u ∈ vs, DV P G u) : ∀ u ∈ v :: vs, DV P G u := fun u m => (List.mem_cons.mp m).elim (fun z => z ▸ h) (t u)
theorem sl_io {i : Int} (h : intOk i) : sl (.int i) ≤ 500 := by
  rcases h with h | rfl | rfl
  · exact Nat.le_trans (sl_int h) (by decide)
  · decide +kernel
  · decide +kernel
theorem tx_found (j : Nat) (h : j < 28) : ∃ z, TX[j]? = some (z, [("found" : Str)]) := by
  have a : ∀ j : Fin 28, (TX[j.val]?).map (·.2) = some [("found" : Str)] := by decide +kernel
  have b := a ⟨j, h⟩
  cases e : TX[j]? with
  | none => rw [e] at b; cases b
  | some u =>
    rw [e] at b
    obtain ⟨z, ns⟩ := u
    have c : ns = [("found" : Str)] := Option.some.inj b
    exact ⟨z, by rw [c]⟩
set_option maxHeartbeats 8000000 in
theorem ok_made {f fn : Addr} {fd dn : FuncData} (F : Fun K "_law_made" "_law_made" sMade f fd) (Z : KT K mg cs cF cM cB) (M : ∀ i z ns, TX[i]? = some (z, ns) → MkC P w K mg base (cs i) z ns)
    (DN : Df K mg "_law_number" fn dn ["_law_purse_here"]) (GN : FnOk P w K mg base CX0 3 fn dn ["_law_purse_here"] spNumb) : FnOk P w K mg base CX0 5 f fd pMade (spMade cs) := by
  refine F.ok scMade (fun vs H Q E h => ?_) (fun cdv A outer s H vs Q E hr h => ?_)
  · obtain ⟨p, n, x, rfl, _⟩ := h
    rfl
  · obtain ⟨p, n, x, rfl, pu, hn, dv, q⟩ := h
    have hr3 := hr.mono (by decide : 3 ≤ 4)
    obtain ⟨B0, f0, d0, ox0, iC0, tI0, G0, bd0, xf0, nf0⟩ := M 0 _ _ rfl
    obtain ⟨B1, f1, d1, ox1, iC1, tI1, G1, bd1, xf1, nf1⟩ := M 1 _ _ rfl
    obtain ⟨B2, f2, d2, ox2, iC2, tI2, G2, bd2, xf2, nf2⟩ := M 2 _ _ rfl
    obtain ⟨B3, f3, d3, ox3, iC3, tI3, G3, bd3, xf3, nf3⟩ := M 3 _ _ rfl
    obtain ⟨B4, f4, d4, ox4, iC4, tI4, G4, bd4, xf4, nf4⟩ := M 4 _ _ rfl
    obtain ⟨B5, f5, d5, ox5, iC5, tI5, G5, bd5, xf5, nf5⟩ := M 5 _ _ rfl
    obtain ⟨B6, f6, d6, ox6, iC6, tI6, G6, bd6, xf6, nf6⟩ := M 6 _ _ rfl
    obtain ⟨B7, f7, d7, ox7, iC7, tI7, G7, bd7, xf7, nf7⟩ := M 7 _ _ rfl
    obtain ⟨B8, f8, d8, ox8, iC8, tI8, G8, bd8, xf8, nf8⟩ := M 8 _ _ rfl
    obtain ⟨B9, f9, d9, ox9, iC9, tI9, G9, bd9, xf9, nf9⟩ := M 9 _ _ rfl
    obtain ⟨B10, f10, d10, ox10, iC10, tI10, G10, bd10, xf10, nf10⟩ := M 10 _ _ rfl
    obtain ⟨B11, f11, d11, ox11, iC11, tI11, G11, bd11, xf11, nf11⟩ := M 11 _ _ rfl
    obtain ⟨B12, f12, d12, ox12, iC12, tI12, G12, bd12, xf12, nf12⟩ := M 12 _ _ rfl
    obtain ⟨B13, f13, d13, ox13, iC13, tI13, G13, bd13, xf13, nf13⟩ := M 13 _ _ rfl
    obtain ⟨B14, f14, d14, ox14, iC14, tI14, G14, bd14, xf14, nf14⟩ := M 14 _ _ rfl
    obtain ⟨B15, f15, d15, ox15, iC15, tI15, G15, bd15, xf15, nf15⟩ := M 15 _ _ rfl
    obtain ⟨B16, f16, d16, ox16, iC16, tI16, G16, bd16, xf16, nf16⟩ := M 16 _ _ rfl
    obtain ⟨B17, f17, d17, ox17, iC17, tI17, G17, bd17, xf17, nf17⟩ := M 17 _ _ rfl
    obtain ⟨B18, f18, d18, ox18, iC18, tI18, G18, bd18, xf18, nf18⟩ := M 18 _ _ rfl
    obtain ⟨B19, f19, d19, ox19, iC19, tI19, G19, bd19, xf19, nf19⟩ := M 19 _ _ rfl
    obtain ⟨B20, f20, d20, ox20, iC20, tI20, G20, bd20, xf20, nf20⟩ := M 20 _ _ rfl
    obtain ⟨B21, f21, d21, ox21, iC21, tI21, G21, bd21, xf21, nf21⟩ := M 21 _ _ rfl
    obtain ⟨B22, f22, d22, ox22, iC22, tI22, G22, bd22, xf22, nf22⟩ := M 22 _ _ rfl
    obtain ⟨B23, f23, d23, ox23, iC23, tI23, G23, bd23, xf23, nf23⟩ := M 23 _ _ rfl
    obtain ⟨B24, f24, d24, ox24, iC24, tI24, G24, bd24, xf24, nf24⟩ := M 24 _ _ rfl
    obtain ⟨B25, f25, d25, ox25, iC25, tI25, G25, bd25, xf25, nf25⟩ := M 25 _ _ rfl
    obtain ⟨B26, f26, d26, ox26, iC26, tI26, G26, bd26, xf26, nf26⟩ := M 26 _ _ rfl
    obtain ⟨B27, f27, d27, ox27, iC27, tI27, G27, bd27, xf27, nf27⟩ := M 27 _ _ rfl
    obtain ⟨B28, f28, d28, ox28, iC28, tI28, G28, bd28, xf28, nf28⟩ := M 28 _ _ rfl
    obtain ⟨B29, f29, d29, ox29, iC29, tI29, G29, bd29, xf29, nf29⟩ := M 29 _ _ rfl
    obtain ⟨B30, f30, d30, ox30, iC30, tI30, G30, bd30, xf30, nf30⟩ := M 30 _ _ rfl
    obtain ⟨B31, f31, d31, ox31, iC31, tI31, G31, bd31, xf31, nf31⟩ := M 31 _ _ rfl
    obtain ⟨B32, f32, d32, ox32, iC32, tI32, G32, bd32, xf32, nf32⟩ := M 32 _ _ rfl
    obtain ⟨B33, f33, d33, ox33, iC33, tI33, G33, bd33, xf33, nf33⟩ := M 33 _ _ rfl
    obtain ⟨B34, f34, d34, ox34, iC34, tI34, G34, bd34, xf34, nf34⟩ := M 34 _ _ rfl
    refine ⟨_, (pss_cons (ps_set (i := 2) scMade.nd rfl (Or.inl rfl) (pe_lst (pa_cons (pe_mkG ox0 iC0 tI0 G0 hr bd0 pass0 (by rfl) (Z.g 0 "NoKind" rfl) (pa_cons (pv 1) pa_nil)) (pa_cons (pe_mkG ox1 iC1 tI1 G1 hr bd1 pass0 (by rfl) (Z.g 1 "NoWidth" rfl) (pa_cons (pv 1) pa_nil)) (pa_cons (pe_mkG ox2 iC2 tI2 G2 hr bd2 pass0 (by rfl) (Z.g 2 "NoWorth" rfl) (pa_cons (pv 1) pa_nil)) (pa_cons (pe_mkG ox3 iC3 tI3 G3 hr bd3 pass0 (by rfl) (Z.g 3 "NoWorths" rfl) (pa_cons (pv 1) pa_nil)) (pa_cons (pe_mkG ox4 iC4 tI4 G4 hr bd4 pass0 (by rfl) (Z.g 4 "NoBits" rfl) (pa_cons (pv 1) pa_nil)) (pa_cons (pe_mkG ox5 iC5 tI5 G5 hr bd5 pass0 (by rfl) (Z.g 5 "NoNumber" rfl) (pa_cons (pv 1) pa_nil)) (pa_cons (pe_mkG ox6 iC6 tI6 G6 hr bd6 pass0 (by rfl) (Z.g 6 "NoOp" rfl) (pa_cons (pv 1) pa_nil)) pa_nil)))))))))
        (pss_cons (ps_set (i := 2) scMade.nd rfl (Or.inl rfl) (pe_op op_catN (pv 2) (pe_lst (pa_cons (pe_mkG ox7 iC7 tI7 G7 hr bd7 pass0 (by rfl) (Z.g 7 "NoTerm" rfl) (pa_cons (pv 1) pa_nil)) (pa_cons (pe_mkG ox8 iC8 tI8 G8 hr bd8 pass0 (by rfl) (Z.g 8 "NoNames" rfl) (pa_cons (pv 1) pa_nil)) (pa_cons (pe_mkG ox9 iC9 tI9 G9 hr bd9 pass0 (by rfl) (Z.g 9 "NoNode" rfl) (pa_cons (pv 1) pa_nil)) (pa_cons (pe_mkG ox10 iC10 tI10 G10 hr bd10 pass0 (by rfl) (Z.g 10 "NoNodes" rfl) (pa_cons (pv 1) pa_nil)) (pa_cons (pe_mkG ox11 iC11 tI11 G11 hr bd11 pass0 (by rfl) (Z.g 11 "NoProgram" rfl) (pa_cons (pv 1) pa_nil)) (pa_cons (pe_mkG ox12 iC12 tI12 G12 hr bd12 pass0 (by rfl) (Z.g 12 "NoIns" rfl) (pa_cons (pv 1) pa_nil)) pa_nil)))))))))
        (pss_cons (ps_set (i := 2) scMade.nd rfl (Or.inl rfl) (pe_op op_catN (pv 2) (pe_lst (pa_cons (pe_mkG ox13 iC13 tI13 G13 hr bd13 pass0 (by rfl) (Z.g 13 "NoFlat" rfl) (pa_cons (pv 1) pa_nil)) (pa_cons (pe_mkG ox14 iC14 tI14 G14 hr bd14 pass0 (by rfl) (Z.g 14 "NoCode" rfl) (pa_cons (pv 1) pa_nil)) (pa_cons (pe_mkG ox15 iC15 tI15 G15 hr bd15 pass0 (by rfl) (Z.g 15 "NoWires" rfl) (pa_cons (pv 1) pa_nil)) (pa_cons (pe_mkG ox16 iC16 tI16 G16 hr bd16 pass0 (by rfl) (Z.g 16 "NoLetter" rfl) (pa_cons (pv 1) pa_nil)) (pa_cons (pe_mkG ox17 iC17 tI17 G17 hr bd17 pass0 (by rfl) (Z.g 17 "NoPaper" rfl) (pa_cons (pv 1) pa_nil)) (pa_cons (pe_mkG ox18 iC18 tI18 G18 hr bd18 pass0 (by rfl) (Z.g 18 "NoEdit" rfl) (pa_cons (pv 1) pa_nil)) pa_nil)))))))))
        (pss_cons (ps_set (i := 2) scMade.nd rfl (Or.inl rfl) (pe_op op_catN (pv 2) (pe_lst (pa_cons (pe_mkG ox19 iC19 tI19 G19 hr bd19 pass0 (by rfl) (Z.g 19 "NoModules" rfl) (pa_cons (pv 1) pa_nil)) (pa_cons (pe_mkG ox20 iC20 tI20 G20 hr bd20 pass0 (by rfl) (Z.g 20 "NoText" rfl) (pa_cons (pv 1) pa_nil)) (pa_cons (pe_mkG ox21 iC21 tI21 G21 hr bd21 pass0 (by rfl) (Z.g 21 "NoLine" rfl) (pa_cons (pv 1) pa_nil)) (pa_cons (pe_mkG ox22 iC22 tI22 G22 hr bd22 pass0 (by rfl) (Z.g 22 "NotThere" rfl) (pa_cons (pv 1) pa_nil)) (pa_cons (pe_mkG ox23 iC23 tI23 G23 hr bd23 pass0 (by rfl) (Z.g 23 "NoOut" rfl) (pa_cons (pv 1) pa_nil)) (pa_cons (pe_mkG ox24 iC24 tI24 G24 hr bd24 pass0 (by rfl) (Z.g 24 "TooLate" rfl) (pa_cons (pv 1) pa_nil)) pa_nil)))))))))
        (pss_cons (ps_set (i := 2) scMade.nd rfl (Or.inl rfl) (pe_op op_catN (pv 2) (pe_lst (pa_cons (pe_mkG ox25 iC25 tI25 G25 hr bd25 pass0 (by rfl) (Z.g 25 "Twice" rfl) (pa_cons (pv 1) pa_nil)) (pa_cons (pe_mkG ox26 iC26 tI26 G26 hr bd26 pass0 (by rfl) (Z.g 26 "Over" rfl) (pa_cons (pv 1) pa_nil)) (pa_cons (pe_mkG ox27 iC27 tI27 G27 hr bd27 pass0 (by rfl) (Z.g 27 "Busy" rfl) (pa_cons (pv 1) pa_nil)) pa_nil))))))
        (pss_cons (ps_setLc (i := 3) (own := [("_law_e", 5)]) (g := gName 5) (tt := tYes) (by rfl) scMade.nd rfl rfl (sw_true rfl rfl rfl (by decide +kernel)) (pi_list (pv 2)) (blkOk_by (N := nMade) (sc := defScope sMade) (by decide +kernel)) (fun _ _ _ _ _ => pg_name (i := 5) scMade.nd rfl (Or.inl rfl)) (fun _ _ _ _ _ => pts_nil) (fun _ _ _ _ _ => (pe_tup (pa_cons (pv 5) (pa_cons (pe_lst (pa_cons (pe_xfK (K := K) rfl (pv 5)) pa_nil)) (pa_cons (pe_lst (pa_cons (pv 1) pa_nil)) pa_nil))))))
        (pss_cons (ps_set (i := 4) scMade.nd rfl (Or.inl rfl) (pe_lst (pa_cons (pe_call GN hr3 (by rfl) DN.at_ DN.kp DN.bd .nil pass0 (pa_cons (pv 0) pa_nil)) (pa_cons pe_str (pa_cons (pe_lst (pa_cons pe_int pa_nil)) (pa_cons pe_non pa_nil))))))
        (pss_cons (ps_set (i := 5) scMade.nd rfl (Or.inl rfl) (pe_mkG ox28 iC28 tI28 G28 hr bd28 pass0 (by rfl) (Z.g 28 "Unfit" rfl) (pa_cons (pe_ix ix_list (pv 4) pe_int (fun _ _ => rfl)) (pa_cons (pe_ix ix_list (pv 4) pe_int (fun _ _ => rfl)) (pa_cons (pv 1) (pa_cons (pe_ix ix_list (pv 4) pe_int (fun _ _ => rfl)) pa_nil))))))
        (pss_cons (ps_expr (pe_bm PySem.F.plainAttrs_list PySem.F.slot_list_append PySem.F.type_list_append mt_append (pv 3) (pa_cons (pe_tup (pa_cons (pv 5) (pa_cons (pe_lst (pa_cons (pe_xfK (K := K) rfl (pv 5)) (pa_cons (pe_xfK (K := K) rfl (pv 5)) (pa_cons (pe_xfK (K := K) rfl (pv 5)) (pa_cons (pe_xfK (K := K) rfl (pv 5)) pa_nil))))) (pa_cons (pe_lst (pa_cons (pe_ix ix_list (pv 4) pe_int (fun _ _ => rfl)) (pa_cons (pe_ix ix_list (pv 4) pe_int (fun _ _ => rfl)) (pa_cons (pv 1) (pa_cons (pe_ix ix_list (pv 4) pe_int (fun _ _ => rfl)) pa_nil))))) pa_nil)))) pa_nil)))
        (pss_cons (ps_set (i := 5) scMade.nd rfl (Or.inl rfl) (pe_mkG ox29 iC29 tI29 G29 hr bd29 pass0 (by rfl) (Z.g 29 "Ringed" rfl) (pa_cons (pe_ix ix_list (pv 4) pe_int (fun _ _ => rfl)) (pa_cons (pv 1) pa_nil))))
        (pss_cons (ps_expr (pe_bm PySem.F.plainAttrs_list PySem.F.slot_list_append PySem.F.type_list_append mt_append (pv 3) (pa_cons (pe_tup (pa_cons (pv 5) (pa_cons (pe_lst (pa_cons (pe_xfK (K := K) rfl (pv 5)) (pa_cons (pe_xfK (K := K) rfl (pv 5)) pa_nil))) (pa_cons (pe_lst (pa_cons (pe_ix ix_list (pv 4) pe_int (fun _ _ => rfl)) (pa_cons (pv 1) pa_nil))) pa_nil)))) pa_nil)))
        (pss_cons (ps_set (i := 5) scMade.nd rfl (Or.inl rfl) (pe_mkG ox30 iC30 tI30 G30 hr bd30 pass0 (by rfl) (Z.g 30 "Bare" rfl) (pa_cons (pv 1) (pa_cons (pe_ix ix_list (pv 4) pe_int (fun _ _ => rfl)) (pa_cons (pe_ix ix_list (pv 4) pe_int (fun _ _ => rfl)) pa_nil)))))
        (pss_cons (ps_expr (pe_bm PySem.F.plainAttrs_list PySem.F.slot_list_append PySem.F.type_list_append mt_append (pv 3) (pa_cons (pe_tup (pa_cons (pv 5) (pa_cons (pe_lst (pa_cons (pe_xfK (K := K) rfl (pv 5)) (pa_cons (pe_xfK (K := K) rfl (pv 5)) (pa_cons (pe_xfK (K := K) rfl (pv 5)) pa_nil)))) (pa_cons (pe_lst (pa_cons (pv 1) (pa_cons (pe_ix ix_list (pv 4) pe_int (fun _ _ => rfl)) (pa_cons (pe_ix ix_list (pv 4) pe_int (fun _ _ => rfl)) pa_nil)))) pa_nil)))) pa_nil)))
        (pss_cons (ps_set (i := 5) scMade.nd rfl (Or.inl rfl) (pe_mkG ox31 iC31 tI31 G31 hr bd31 pass0 (by rfl) (Z.g 31 "NoRow" rfl) (pa_cons (pv 1) pa_nil)))
        (pss_cons (ps_expr (pe_bm PySem.F.plainAttrs_list PySem.F.slot_list_append PySem.F.type_list_append mt_append (pv 3) (pa_cons (pe_tup (pa_cons (pv 5) (pa_cons (pe_lst (pa_cons (pe_xfK (K := K) rfl (pv 5)) pa_nil)) (pa_cons (pe_lst (pa_cons (pv 1) pa_nil)) pa_nil)))) pa_nil)))
        (pss_cons (ps_set (i := 5) scMade.nd rfl (Or.inl rfl) (pe_mkG ox32 iC32 tI32 G32 hr bd32 pass0 (by rfl) (Z.g 32 "NoImport" rfl) (pa_cons (pe_ix ix_list (pv 4) pe_int (fun _ _ => rfl)) (pa_cons (pv 1) pa_nil))))
        (pss_cons (ps_expr (pe_bm PySem.F.plainAttrs_list PySem.F.slot_list_append PySem.F.type_list_append mt_append (pv 3) (pa_cons (pe_tup (pa_cons (pv 5) (pa_cons (pe_lst (pa_cons (pe_xfK (K := K) rfl (pv 5)) (pa_cons (pe_xfK (K := K) rfl (pv 5)) pa_nil))) (pa_cons (pe_lst (pa_cons (pe_ix ix_list (pv 4) pe_int (fun _ _ => rfl)) (pa_cons (pv 1) pa_nil))) pa_nil)))) pa_nil)))
        (pss_cons (ps_par (i := 5) (j := 6) rfl scMade.nd rfl rfl (by decide) rfl rfl (pa_cons (pe_mkG ox33 iC33 tI33 G33 hr bd33 pass0 (by rfl) (Z.g 33 "TooMany" rfl) (pa_cons (pv 1) pa_nil)) (pa_cons (pe_mkG ox34 iC34 tI34 G34 hr bd34 pass0 (by rfl) (Z.g 34 "TooSlow" rfl) (pa_cons (pe_ix ix_list (pv 4) pe_int (fun _ _ => rfl)) pa_nil)) pa_nil)) rfl)
        (pss_one (ps_ret (pe_op op_catN (pv 3) (pe_lst (pa_cons (pe_tup (pa_cons (pv 5) (pa_cons (pe_lst (pa_cons (pe_xfK (K := K) rfl (pv 5)) pa_nil)) (pa_cons (pe_lst (pa_cons (pv 1) pa_nil)) pa_nil)))) (pa_cons (pe_tup (pa_cons (pv 6) (pa_cons (pe_lst (pa_cons (pe_xfK (K := K) rfl (pv 6)) pa_nil)) (pa_cons (pe_lst (pa_cons (pe_ix ix_list (pv 4) pe_int (fun _ _ => rfl)) pa_nil)) pa_nil)))) pa_nil)))))))))))))))))))))))), ?_⟩
    refine seq_lst ?_
    refine mk1c rfl fun a0 G0_ s0 e0 => (mk1c rfl fun a1 G1_ s1 e1 => (mk1c rfl fun a2 G2_ s2 e2 => (mk1c rfl fun a3 G3_ s3 e3 => (mk1c rfl fun a4 G4_ s4 e4 => (mk1c rfl fun a5 G5_ s5 e5 => (mk1c rfl fun a6 G6_ s6 e6 => ⟨by show 7 ≤ sizeLine; decide, fun M0 hM0 => ?_⟩))))))
    have u6 := Same.refl G6_
    have u5 : Same G5_ G6_ := s6.trans u6
    have u4 : Same G4_ G6_ := s5.trans u5
    have u3 : Same G3_ G6_ := s4.trans u4
    have u2 : Same G2_ G6_ := s3.trans u3
    have u1 : Same G1_ G6_ := s2.trans u2
    have u0 : Same G0_ G6_ := s1.trans u1
    have em0 : EmL cs x G6_ 0 [.ref a0, .ref a1, .ref a2, .ref a3, .ref a4, .ref a5, .ref a6] := .cons (e0.same u0) (.cons (e1.same u1) (.cons (e2.same u2) (.cons (e3.same u3) (.cons (e4.same u4) (.cons (e5.same u5) (.cons (e6.same u6) (.nil)))))))
    have sg0 : Same H G6_ := s0.trans u0
    clear u6 e6 u5 e5 u4 e4 u3 e3 u2 e2 u1 e1 u0 e0 s6 s5 s4 s3 s2 s1 s0
    have t0 : Same H (upd G6_ M0 (.lst [.ref a0, .ref a1, .ref a2, .ref a3, .ref a4, .ref a5, .ref a6])) := sg0.trans (same_new hM0)
    have L0 : (upd G6_ M0 (.lst [.ref a0, .ref a1, .ref a2, .ref a3, .ref a4, .ref a5, .ref a6])) M0 = some (.lst [.ref a0, .ref a1, .ref a2, .ref a3, .ref a4, .ref a5, .ref a6]) := upd_same
    have E0 : EmL cs x (upd G6_ M0 (.lst [.ref a0, .ref a1, .ref a2, .ref a3, .ref a4, .ref a5, .ref a6])) 0 [.ref a0, .ref a1, .ref a2, .ref a3, .ref a4, .ref a5, .ref a6] := em0.same (same_new hM0)
    clear em0 sg0
    generalize upd G6_ M0 (.lst [.ref a0, .ref a1, .ref a2, .ref a3, .ref a4, .ref a5, .ref a6]) = H0 at t0 L0 E0
    dsimp only [gName]
    refine seq_cat rfl ?_
    refine mk1c rfl fun a7 G7_ s7 e7 => (mk1c rfl fun a8 G8_ s8 e8 => (mk1c rfl fun a9 G9_ s9 e9 => (mk1c rfl fun a10 G10_ s10 e10 => (mk1c rfl fun a11 G11_ s11 e11 => (mk1c rfl fun a12 G12_ s12 e12 => ⟨by show 6 ≤ sizeLine; decide, fun M1 hM1 => ?_⟩)))))
    have u12 := Same.refl G12_
    have u11 : Same G11_ G12_ := s12.trans u12
    have u10 : Same G10_ G12_ := s11.trans u11
    have u9 : Same G9_ G12_ := s10.trans u10
    have u8 : Same G8_ G12_ := s9.trans u9
    have u7 : Same G7_ G12_ := s8.trans u8
    have em1 : EmL cs x G12_ 7 [.ref a7, .ref a8, .ref a9, .ref a10, .ref a11, .ref a12] := .cons (e7.same u7) (.cons (e8.same u8) (.cons (e9.same u9) (.cons (e10.same u10) (.cons (e11.same u11) (.cons (e12.same u12) (.nil))))))
    have sg1 : Same H0 G12_ := s7.trans u7
    clear u12 e12 u11 e11 u10 e10 u9 e9 u8 e8 u7 e7 s12 s11 s10 s9 s8 s7
    refine cat_new (sg1 _ _ L0) hM1 (by simp only [List.length_cons, List.length_append, List.length_nil]; decide) fun N1 H1 v1 nN1 L1 => ?_
    have t1 : Same H H1 := t0.trans (sg1.trans v1)
    have E1 := EmL.app (E0.same (sg1.trans v1)) (em1.same v1)
    clear em1 sg1 v1
    dsimp only [gName]
    refine seq_cat rfl ?_
    refine mk1c rfl fun a13 G13_ s13 e13 => (mk1c rfl fun a14 G14_ s14 e14 => (mk1c rfl fun a15 G15_ s15 e15 => (mk1c rfl fun a16 G16_ s16 e16 => (mk1c rfl fun a17 G17_ s17 e17 => (mk1c rfl fun a18 G18_ s18 e18 => ⟨by show 6 ≤ sizeLine; decide, fun M2 hM2 => ?_⟩)))))
    have u18 := Same.refl G18_
    have u17 : Same G17_ G18_ := s18.trans u18
    have u16 : Same G16_ G18_ := s17.trans u17
    have u15 : Same G15_ G18_ := s16.trans u16
    have u14 : Same G14_ G18_ := s15.trans u15
    have u13 : Same G13_ G18_ := s14.trans u14
    have em2 : EmL cs x G18_ 13 [.ref a13, .ref a14, .ref a15, .ref a16, .ref a17, .ref a18] := .cons (e13.same u13) (.cons (e14.same u14) (.cons (e15.same u15) (.cons (e16.same u16) (.cons (e17.same u17) (.cons (e18.same u18) (.nil))))))
    have sg2 : Same H1 G18_ := s13.trans u13
    clear u18 e18 u17 e17 u16 e16 u15 e15 u14 e14 u13 e13 s18 s17 s16 s15 s14 s13
    refine cat_new (sg2 _ _ L1) hM2 (by simp only [List.length_cons, List.length_append, List.length_nil]; decide) fun N2 H2 v2 nN2 L2 => ?_
    have t2 : Same H H2 := t1.trans (sg2.trans v2)
    have E2 := EmL.app (E1.same (sg2.trans v2)) (em2.same v2)
    clear em2 sg2 v2
    dsimp only [gName]
    refine seq_cat rfl ?_
    refine mk1c rfl fun a19 G19_ s19 e19 => (mk1c rfl fun a20 G20_ s20 e20 => (mk1c rfl fun a21 G21_ s21 e21 => (mk1c rfl fun a22 G22_ s22 e22 => (mk1c rfl fun a23 G23_ s23 e23 => (mk1c rfl fun a24 G24_ s24 e24 => ⟨by show 6 ≤ sizeLine; decide, fun M3 hM3 => ?_⟩)))))
    have u24 := Same.refl G24_
    have u23 : Same G23_ G24_ := s24.trans u24
    have u22 : Same G22_ G24_ := s23.trans u23
    have u21 : Same G21_ G24_ := s22.trans u22
    have u20 : Same G20_ G24_ := s21.trans u21
    have u19 : Same G19_ G24_ := s20.trans u20
    have em3 : EmL cs x G24_ 19 [.ref a19, .ref a20, .ref a21, .ref a22, .ref a23, .ref a24] := .cons (e19.same u19) (.cons (e20.same u20) (.cons (e21.same u21) (.cons (e22.same u22) (.cons (e23.same u23) (.cons (e24.same u24) (.nil))))))
    have sg3 : Same H2 G24_ := s19.trans u19
    clear u24 e24 u23 e23 u22 e22 u21 e21 u20 e20 u19 e19 s24 s23 s22 s21 s20 s19
    refine cat_new (sg3 _ _ L2) hM3 (by simp only [List.length_cons, List.length_append, List.length_nil]; decide) fun N3 H3 v3 nN3 L3 => ?_
    have t3 : Same H H3 := t2.trans (sg3.trans v3)
    have E3 := EmL.app (E2.same (sg3.trans v3)) (em3.same v3)
    clear em3 sg3 v3
    dsimp only [gName]
    refine seq_cat rfl ?_
    refine mk1c rfl fun a25 G25_ s25 e25 => (mk1c rfl fun a26 G26_ s26 e26 => (mk1c rfl fun a27 G27_ s27 e27 => ⟨by show 3 ≤ sizeLine; decide, fun M4 hM4 => ?_⟩))
    have u27 := Same.refl G27_
    have u26 : Same G26_ G27_ := s27.trans u27
    have u25 : Same G25_ G27_ := s26.trans u26
    have em4 : EmL cs x G27_ 25 [.ref a25, .ref a26, .ref a27] := .cons (e25.same u25) (.cons (e26.same u26) (.cons (e27.same u27) (.nil)))
    have sg4 : Same H3 G27_ := s25.trans u25
    clear u27 e27 u26 e26 u25 e25 s27 s26 s25
    refine cat_new (sg4 _ _ L3) hM4 (by simp only [List.length_cons, List.length_append, List.length_nil]; decide) fun N4 H4 v4 nN4 L4 => ?_
    have t4 : Same H H4 := t3.trans (sg4.trans v4)
    have E4 := EmL.app (E3.same (sg4.trans v4)) (em4.same v4)
    clear em4 sg4 v4
    dsimp only [gName]
    generalize hR0 : ([V.ref a0, V.ref a1, V.ref a2, V.ref a3, V.ref a4, V.ref a5, V.ref a6] ++ [V.ref a7, V.ref a8, V.ref a9, V.ref a10, V.ref a11, V.ref a12] ++ [V.ref a13, V.ref a14, V.ref a15, V.ref a16, V.ref a17, V.ref a18] ++ [V.ref a19, V.ref a20, V.ref a21, V.ref a22, V.ref a23, V.ref a24] ++ [V.ref a25, V.ref a26, V.ref a27]) = R0 at L4 E4
    have lR0 : R0.length = 28 := by rw [← hR0]; rfl
    clear hR0
    have dv4 := dv.same t4
    have pu4 := pu.same t4
    clear E0 E1 E2 E3 L0 L1 L2 L3
    refine ⟨_, rfl, N4, rfl, ⟨_, SqL.of L4⟩, fun D hD => ?_⟩
    have nD : D ≠ p := pu4.ne hD
    have dvD : DV (Ap D p) H4 x := dv4.on fun a o na e => ⟨ne_of_none e hD, na⟩
    refine lc_list (K := K) (a := N4) (xs := R0) (fun j G => Same H4 G ∧ ∃ R, G D = some (.lst R) ∧ R.length = j ∧ RowL cs (Ap D p) G 0 R) ⟨same_new hD, [], upd_same, rfl, .nil⟩
      (fun j G _ pv => SqL.of (pv.1 _ _ L4)) (fun j y G hy pv => ?_) fun G pv => ?_
    · obtain ⟨sG, R, gD, lR, rl⟩ := pv
      obtain ⟨e, z, rfl, ev⟩ := (E4.same sG).get hy
      rw [Nat.zero_add] at ev
      have hj : j < 28 := by rw [← lR0]; exact (List.getElem?_eq_some_iff.mp hy).1
      obtain ⟨zj, tj⟩ := tx_found j hj
      obtain ⟨_, _, _, _, _, _, _, _, xfj, nfj⟩ := M j _ _ tj
      refine ⟨rfl, _, rfl, xf_ok (z := z) (C := cs j) rfl ev xfj (nfj _ List.mem_cons_self) rfl ⟨by show 1 ≤ sizeLine; decide, fun fl hfl => ⟨_, rfl, by show 1 ≤ sizeLine; decide, fun dl hdl => ⟨by show 3 ≤ sizeLine; decide, fun t ht => ?_⟩⟩⟩⟩
      obtain ⟨sr, rr⟩ := row_new (P := Ap D p) (ws := [x]) (fun a e => ⟨ne_free gD e, (pu4.same sG).ne e⟩) ev (dvc (dvD.same sG) fun _ z => nomatch z) (by show 1 ≤ 4; decide) hfl hdl ht
      refine ⟨_, sr _ _ gD, by rw [lR, sizeLine_eq]; omega, fun b o e => ?_, _, upd_same, by rw [List.length_append, lR]; rfl, ?_⟩
      · rw [upd_ne (ne_of_none e hD)]
        exact sr _ _ (sG _ _ e)
      · have pr := pu4.same (sG.trans sr)
        obtain ⟨px, py, pz, gp, _⟩ := pr
        exact ((rl.same sr).snoc lR rr).kp (ls_ap (sr _ _ gD) gp) fun a o na e => by rw [upd_ne na.1]; exact e
    · dsimp only [gName]
      obtain ⟨sc, R, gD, lR, rl⟩ := pv
      rw [lR0] at lR
      have puc := pu4.same sc
      refine seq_lst ⟨_, rfl, p, n, rfl, puc, hn, fun i0 G1 hi k1 pu1 => ⟨by show 1 ≤ sizeLine; decide, fun ml hml => ⟨by show 4 ≤ sizeLine; decide, fun mo hmo => ?_⟩⟩⟩
      have pc := puc
      obtain ⟨px, py, pz, gp, _⟩ := pc
      have lsc := ls_ap gD gp
      have k1' : Kp (Ap D p) G G1 := fun a o na e => k1 a o na.2 e
      have s1 : Same G1 (upd G1 ml (.lst [.int 1])) := same_new hml
      have s2 : Same _ (upd (upd G1 ml (.lst [.int 1])) mo (.lst [.int i0, .str "a", .ref ml, .non])) := same_new hmo
      have gD1 := k1 _ _ nD gD
      have nml : Ap D p ml := ⟨ne_free gD1 hml, pu1.ne hml⟩
      have nmo : Ap D p mo := ⟨ne_free (s1 _ _ gD1) hmo, (pu1.same s1).ne hmo⟩
      have m0 : MS cs D p ml mo n x i0 H (upd (upd G1 ml (.lst [.int 1])) mo (.lst [.int i0, .str "a", .ref ml, .non])) 28 := by
        refine ⟨⟨R, s2 _ _ (s1 _ _ gD1), lR, (rl.kp lsc k1').same (s1.trans s2)⟩, upd_same, fun v mv => ?_, fun a o na e => s2 _ _ (s1 _ _ (k1 _ _ na (sc _ _ (t4 _ _ e)))), (pu1.same s1).same s2, nD, nmo, t4.free hD⟩
        simp only [List.mem_cons, List.not_mem_nil, or_false] at mv
        rcases mv with rfl | rfl | rfl | rfl | rfl
        · exact ((dvD.same sc).kp k1').same (s1.trans s2)
        · exact ⟨false, _, .int _, fit_int.mpr hi, sl_io hi⟩
        · exact ⟨false, .str "a", .str _, fit_str.mpr (by decide +kernel), by simp only [sl]; decide⟩
        · exact ⟨false, .list [.int 1], .lst (s2 _ _ upd_same) nml (fun z => nomatch z) (.cons (.int 1) .nil), fit_lst.mpr ⟨by decide, fitA_cons (int_fit (by decide) (by decide)) fitA_nil⟩, by decide +kernel⟩
        · exact ⟨false, .none, .non, fit_non, by simp only [sl]; decide⟩
      generalize upd (upd G1 ml (.lst [.int 1])) mo (.lst [.int i0, .str "a", .ref ml, .non]) = Ga at m0
      clear s1 s2 hml hmo gD1 k1' lsc gp rl gD
      dsimp only [gName]
      change tSeq _ _ _ [some (.ref p), some x, some (.ref N4), some (.ref D), some (.ref mo), none, none] _
      refine seq_mk (ws := [.int i0, .str "a", x, .ref ml]) rfl (by show 4 ≤ 4; decide) (fun R r => ⟨_, rfl, mo, _, 0, _, rfl, rfl, SqL.of m0.gmo, rfl, _, rfl, mo, _, 1, _, rfl, rfl, SqL.of m0.gmo, rfl, _, rfl, _, rfl, mo, _, 2, _, rfl, rfl, SqL.of m0.gmo, rfl, r⟩) fun e28 Gb0 sb0 ev28 => ?_
      replace ev28 : ExVf Gb0 e28 (cs 28) "a node doesn't fit" [("found", .ref ml), ("why", x), ("at", .str "a"), ("where", .int i0)] := ev28
      have n0 := m0.same sb0
      clear m0 sb0
      dsimp only [gName]
      change tSeq _ _ _ [some (.ref p), some x, some (.ref N4), some (.ref D), some (.ref mo), some (.ref e28), none] _
      have ed28 := ev28
      obtain ⟨dd, tt, hd1, hd2, _⟩ := ed28
      refine seq_row (ws := [.int i0, .str "a", x, .ref ml]) n0 rfl rfl ev28 (by decide) (fun R r => ⟨_, rfl, e28, cs 28, dd, tt, _, .int i0, rfl, xf28, nf28 _ List.mem_cons_self, hd1, hd2, (by rfl), _, rfl, e28, cs 28, dd, tt, _, .str "a", rfl, xf28, nf28 _ (List.mem_cons_of_mem _ List.mem_cons_self), hd1, hd2, (by rfl), _, rfl, e28, cs 28, dd, tt, _, x, rfl, xf28, nf28 _ (List.mem_cons_of_mem _ (List.mem_cons_of_mem _ List.mem_cons_self)), hd1, hd2, (by rfl), _, rfl, e28, cs 28, dd, tt, _, .ref ml, rfl, xf28, nf28 _ (List.mem_cons_of_mem _ (List.mem_cons_of_mem _ (List.mem_cons_of_mem _ List.mem_cons_self))), hd1, hd2, (by rfl), r⟩) (fun G' s R r => ⟨_, rfl, mo, _, 0, _, rfl, rfl, SqL.of (s _ _ n0.gmo), rfl, _, rfl, mo, _, 1, _, rfl, rfl, SqL.of (s _ _ n0.gmo), rfl, _, rfl, _, rfl, mo, _, 2, _, rfl, rfl, SqL.of (s _ _ n0.gmo), rfl, r⟩) (dvc (n0.dv _ (.tail _ (.head _))) (dvc (n0.dv _ (.tail _ (.tail _ (.head _)))) (dvc (n0.dv _ (.head _)) (dvc (n0.dv _ (.tail _ (.tail _ (.tail _ (.head _))))) (fun _ z => nomatch z))))) (by show 4 ≤ 4; decide) fun Gc0 m1 => ?_
      clear n0 ev28 hd1 hd2
      refine seq_mk (ws := [.non, x]) rfl (by show 2 ≤ 4; decide) (fun R r => ⟨_, rfl, mo, _, 3, _, rfl, rfl, SqL.of m1.gmo, rfl, _, rfl, r⟩) fun e29 Gb1 sb1 ev29 => ?_
      replace ev29 : ExVf Gb1 e29 (cs 29) "flows need one another in a ring" [("ring", x), ("where", .non)] := ev29
      have n1 := m1.same sb1
      clear m1 sb1
      dsimp only [gName]
      change tSeq _ _ _ [some (.ref p), some x, some (.ref N4), some (.ref D), some (.ref mo), some (.ref e29), none] _
      have ed29 := ev29
      obtain ⟨dd, tt, hd1, hd2, _⟩ := ed29
      refine seq_row (ws := [.non, x]) n1 rfl rfl ev29 (by decide) (fun R r => ⟨_, rfl, e29, cs 29, dd, tt, _, .non, rfl, xf29, nf29 _ List.mem_cons_self, hd1, hd2, (by rfl), _, rfl, e29, cs 29, dd, tt, _, x, rfl, xf29, nf29 _ (List.mem_cons_of_mem _ List.mem_cons_self), hd1, hd2, (by rfl), r⟩) (fun G' s R r => ⟨_, rfl, mo, _, 3, _, rfl, rfl, SqL.of (s _ _ n1.gmo), rfl, _, rfl, r⟩) (dvc (n1.dv _ (.tail _ (.tail _ (.tail _ (.tail _ (.head _)))))) (dvc (n1.dv _ (.head _)) (fun _ z => nomatch z))) (by show 2 ≤ 4; decide) fun Gc1 m2 => ?_
      clear n1 ev29 hd1 hd2
      refine seq_mk (ws := [x, .int i0, .ref ml]) rfl (by show 3 ≤ 4; decide) (fun R r => ⟨_, rfl, _, rfl, mo, _, 0, _, rfl, rfl, SqL.of m2.gmo, rfl, _, rfl, mo, _, 2, _, rfl, rfl, SqL.of m2.gmo, rfl, r⟩) fun e30 Gb2 sb2 ev30 => ?_
      replace ev30 : ExVf Gb2 e30 (cs 30) "a worth may lack" [("found", .ref ml), ("at", .int i0), ("where", x)] := ev30
      have n2 := m2.same sb2
      clear m2 sb2
      dsimp only [gName]
      change tSeq _ _ _ [some (.ref p), some x, some (.ref N4), some (.ref D), some (.ref mo), some (.ref e30), none] _
      have ed30 := ev30
      obtain ⟨dd, tt, hd1, hd2, _⟩ := ed30
      refine seq_row (ws := [x, .int i0, .ref ml]) n2 rfl rfl ev30 (by decide) (fun R r => ⟨_, rfl, e30, cs 30, dd, tt, _, x, rfl, xf30, nf30 _ List.mem_cons_self, hd1, hd2, (by rfl), _, rfl, e30, cs 30, dd, tt, _, .int i0, rfl, xf30, nf30 _ (List.mem_cons_of_mem _ List.mem_cons_self), hd1, hd2, (by rfl), _, rfl, e30, cs 30, dd, tt, _, .ref ml, rfl, xf30, nf30 _ (List.mem_cons_of_mem _ (List.mem_cons_of_mem _ List.mem_cons_self)), hd1, hd2, (by rfl), r⟩) (fun G' s R r => ⟨_, rfl, _, rfl, mo, _, 0, _, rfl, rfl, SqL.of (s _ _ n2.gmo), rfl, _, rfl, mo, _, 2, _, rfl, rfl, SqL.of (s _ _ n2.gmo), rfl, r⟩) (dvc (n2.dv _ (.head _)) (dvc (n2.dv _ (.tail _ (.head _))) (dvc (n2.dv _ (.tail _ (.tail _ (.tail _ (.head _))))) (fun _ z => nomatch z)))) (by show 3 ≤ 4; decide) fun Gc2 m3 => ?_
      clear n2 ev30 hd1 hd2
      refine seq_mk (ws := [x]) rfl (by show 1 ≤ 4; decide) (fun R r => ⟨_, rfl, r⟩) fun e31 Gb3 sb3 ev31 => ?_
      replace ev31 : ExVf Gb3 e31 (cs 31) "a row isn't right" [("at", x)] := ev31
      have n3 := m3.same sb3
      clear m3 sb3
      dsimp only [gName]
      change tSeq _ _ _ [some (.ref p), some x, some (.ref N4), some (.ref D), some (.ref mo), some (.ref e31), none] _
      have ed31 := ev31
      obtain ⟨dd, tt, hd1, hd2, _⟩ := ed31
      refine seq_row (ws := [x]) n3 rfl rfl ev31 (by decide) (fun R r => ⟨_, rfl, e31, cs 31, dd, tt, _, x, rfl, xf31, nf31 _ List.mem_cons_self, hd1, hd2, (by rfl), r⟩) (fun G' s R r => ⟨_, rfl, r⟩) (dvc (n3.dv _ (.head _)) (fun _ z => nomatch z)) (by show 1 ≤ 4; decide) fun Gc3 m4 => ?_
      clear n3 ev31 hd1 hd2
      refine seq_mk (ws := [.ref ml, x]) rfl (by show 2 ≤ 4; decide) (fun R r => ⟨_, rfl, mo, _, 2, _, rfl, rfl, SqL.of m4.gmo, rfl, _, rfl, r⟩) fun e32 Gb4 sb4 ev32 => ?_
      replace ev32 : ExVf Gb4 e32 (cs 32) "a used module isn't there" [("found", x), ("where", .ref ml)] := ev32
      have n4 := m4.same sb4
      clear m4 sb4
      dsimp only [gName]
      change tSeq _ _ _ [some (.ref p), some x, some (.ref N4), some (.ref D), some (.ref mo), some (.ref e32), none] _
      have ed32 := ev32
      obtain ⟨dd, tt, hd1, hd2, _⟩ := ed32
      refine seq_row (ws := [.ref ml, x]) n4 rfl rfl ev32 (by decide) (fun R r => ⟨_, rfl, e32, cs 32, dd, tt, _, .ref ml, rfl, xf32, nf32 _ List.mem_cons_self, hd1, hd2, (by rfl), _, rfl, e32, cs 32, dd, tt, _, x, rfl, xf32, nf32 _ (List.mem_cons_of_mem _ List.mem_cons_self), hd1, hd2, (by rfl), r⟩) (fun G' s R r => ⟨_, rfl, mo, _, 2, _, rfl, rfl, SqL.of (s _ _ n4.gmo), rfl, _, rfl, r⟩) (dvc (n4.dv _ (.tail _ (.tail _ (.tail _ (.head _))))) (dvc (n4.dv _ (.head _)) (fun _ z => nomatch z))) (by show 2 ≤ 4; decide) fun Gc4 m5 => ?_
      clear n4 ev32 hd1 hd2
      refine seq_par (ws := [x]) (ws2 := [.str "a"]) rfl (by show 1 ≤ 4; decide) (fun R r => ⟨_, rfl, r⟩) rfl (by show 1 ≤ 4; decide) (fun G' s R r => ⟨_, rfl, mo, _, 1, _, rfl, rfl, SqL.of (s _ _ m5.gmo), rfl, r⟩) fun e33 e34 Gd sd ev33 ev34 => ?_
      change tRet _ _ [some (.ref p), some x, some (.ref N4), some (.ref D), some (.ref mo), some (.ref e33), some (.ref e34)] _
      replace ev33 : ExVf Gd e33 (cs 33) "too many" [("many", x)] := ev33
      replace ev34 : ExVf Gd e34 (cs 34) "too many steps for the time of a beat" [("many", .str "a")] := ev34
      have n5 := m5.same sd
      clear m5 sd
      obtain ⟨R, gD, l, rl⟩ := n5.rows
      have x33 := ev33
      have x34 := ev34
      obtain ⟨d3, t3', h31, h32, _⟩ := x33
      refine ⟨_, rfl, _, rfl, _, rfl, e33, cs 33, d3, t3', _, x, rfl, xf33, nf33 _ List.mem_cons_self, h31, h32, rfl, ⟨by show 1 ≤ sizeLine; decide, fun fl hfl => ⟨_, rfl, by show 1 ≤ sizeLine; decide, fun dl hdl => ⟨by show 3 ≤ sizeLine; decide, fun t ht => ?_⟩⟩⟩⟩
      obtain ⟨sr, rr⟩ := row_new (P := Ap D p) (ws := [x]) (fun a e => n5.np e) ev33 (dvc (n5.dv _ (.head _)) fun _ z => nomatch z) (by show 1 ≤ 4; decide) hfl hdl ht
      have n6 := n5.same sr
      have ev34' := ev34.same sr
      have gD6 := sr _ _ gD
      have rl6 := rl.same sr
      generalize upd (upd (upd Gd fl (.lst [x])) dl (.lst [x])) t (.tup [.ref e33, .ref fl, .ref dl]) = Ge at rr n6 ev34' gD6 rl6
      obtain ⟨d4, t4', h41, h42, _⟩ := id ev34'
      refine ⟨_, rfl, _, rfl, e34, cs 34, d4, t4', _, .str "a", rfl, xf34, nf34 _ List.mem_cons_self, h41, h42, rfl, ⟨by show 1 ≤ sizeLine; decide, fun fl2 hfl2 => ⟨_, rfl, mo, _, 1, _, rfl, rfl, SqL.of ((same_new hfl2) _ _ n6.gmo), rfl, by show 1 ≤ sizeLine; decide, fun dl2 hdl2 => ⟨by show 3 ≤ sizeLine; decide, fun t2 ht2 => ?_⟩⟩⟩⟩
      obtain ⟨sr2, rr2⟩ := row_new (P := Ap D p) (ws := [.str "a"]) (fun a e => n6.np e) ev34' (dvc (n6.dv _ (.tail _ (.tail _ (.head _)))) fun _ z => nomatch z) (by show 1 ≤ 4; decide) hfl2 hdl2 ht2
      have n7 := n6.same sr2
      have gD7 := sr2 _ _ gD6
      have rl7 := rl6.same sr2
      have rr' := rr.same sr2
      generalize upd (upd (upd Ge fl2 (.lst [.str "a"])) dl2 (.lst [.str "a"])) t2 (.tup [.ref e34, .ref fl2, .ref dl2]) = Gf at rr2 n7 gD7 rl7 rr'
      refine ⟨by show 2 ≤ sizeLine; decide, fun M hM => cat_new gD7 hM (by rw [l]; show 28 + 1 + 1 + 1 + 1 + 1 + 2 ≤ 1000; decide) fun N Gg sg nN gN => ?_⟩
      have n8 := n7.same sg
      refine q _ Gg N (Ap D p) n8.kp n8.pu (by rw [List.length_append, l]; rfl) gN ((rl7.app ?_).same sg)
      rw [l]
      exact .cons rr' (.cons rr2 .nil)

end
end A1
end Bf

/-! Own rules: d.get(None, x); dict comprehensions over a list; repr of a list in which dicts of flat values stand. -/
namespace Bf
open PySem PySem.Spec PyProof.Rows L2
section
variable {X : Cx} {pins : List (Addr × Obj)} {σ : L2.St} {H : Hp} {s : Shared} {a : Addr} {kvs : List (Key × V)} {A : Around} {E : Value → Shared → Prop}
theorem d_get2None {d : V} {r : Value} {Q : Value → Shared → Prop} (I : L2.Inv X pins σ H s) (e : Rd H a (.dK kvs)) (rd : RelV d r) (h : ∀ w' s', L2.Inv X pins σ H s' → RelV d w' → Q w' s') :
    wpAny (model X.prog X.w) A (call (.builtin "dict.get") [.ref a, .none, r]) Q E s := by
  obtain ⟨_, hd, vs, _, dd⟩ := dk_rd I.hok e
  obtain ⟨f, hm, hf⟩ := none_map dd
  refine call_meetsIn PySem.F.slot_dict_get dd.typeIs PySem.F.entry_dict_get (PySem.F.args_dict_get_3 _ _ _) (meets_dict_get_default (noneKind X.prog X.w) a (show (noneKind X.prog X.w).is none .none = true from rfl) hd r) ⟨_, hm, ?_⟩
  rw [hf]
  exact h _ _ (I.tok _) rd
end
/-- d.get(y, x), y perhaps None -/
def tDGet2N (td ty tx : TE) : TE := fun σ H Q => td σ H fun x H1 => ∃ a, x = .ref a ∧ IsD H1 a ∧ ty σ H1 fun y H2 => tx σ H2 fun z H3 => (∃ o, DGet H3 a y o ∧ Q (o.getD z) H3) ∨ (y = .non ∧ ∃ kvs, Rd H3 a (.dK kvs) ∧ Q z H3)
theorem pe_dget2N {X : Cx} {o e f : Expr} {apos cpos : Pos} {td ty tx : TE} (hu : X.A.units + 1 < cLine) (ho : PE X o td) (he : PE X e ty) (hf : PE X f tx) (m : M2 X o "get" apos e f cpos) : PE X (.Call (.Attribute o "get" apos) [e, f] [] cpos) (tDGet2N td ty tx) := by
  refine ⟨fun pins s σ H Q I h => ?_⟩
  refine wpAny_Call_method m.base m.few m.line PySem.F.plainAttrs_dict PySem.F.slot_dict_get PySem.F.type_dict_get (thn (ho.run pins s σ H _ I h) fun u s1 ⟨x, H1, I1, rx, a, ex, d, q1⟩ => ?_)
  subst ex
  obtain rfl : u = Value.ref a := rx
  obtain ⟨t1, t2, _⟩ := isD_at I1 d
  refine ⟨t1, t2, ?_⟩
  rw [m.trees]
  refine Calls.callWith_builtin rfl (Calls.evalArgs_plain (Calls.spliced_cons (thn (he.run pins s1 σ H1 _ I1 q1) fun iv s2 ⟨y, H2, I2, ry, q2⟩ =>
    Calls.spliced_cons (thn (hf.run pins s2 σ H2 _ I2 q2) fun fv s3 ⟨z, H3, I3, rz, q3⟩ => Calls.spliced_nil ?_))))
  rcases q3 with ⟨ov, g, q3⟩ | ⟨rfl, kvs, g, q3⟩
  · exact d_get2 hu I3 g ry rz fun w' s4 I4 rw' => ⟨_, H3, I4, rw', q3⟩
  · cases ry
    exact d_get2None I3 g rz fun w' s4 I4 rw' => ⟨_, H3, I4, rw', q3⟩
/-- dict comprehensions over a list that stays -/
theorem dc_list {K : PySem.W.Frag} {a : Addr} {xs : List V} {g : TG} {tt : TT} {tk tv : TE} {vs : List Nat} {σ : L2.St} {H1 : Hp} {D : Addr} {Qd : Hp → Prop} (Pv : Nat → Hp → Prop) (h0 : Pv 0 (upd H1 D (.dK []))) (hl : ∀ i H, i ≤ xs.length → Pv i H → SqL K H a xs)
    (hs : ∀ i x H, xs[i]? = some x → Pv i H → g x (wipe σ vs) H fun σ2 H2 => wipe σ2 vs = wipe σ vs ∧ tt σ2 H2 fun b H3 =>
      if b = true then tk σ2 H3 fun y H4 => tv σ2 H4 fun z H5 => ∃ kvs k, y = kV k ∧ H5 D = some (.dK kvs) ∧ kvs.length < sizeLine ∧ Pv (i + 1) (upd H5 D (.dK (putK kvs k z))) else Pv (i + 1) H3) (hd : ∀ H, Pv xs.length H → Qd H) :
    ∃ W : Nat → Nat → Hp → Prop, (∃ m, W 0 m (upd H1 D (.dK []))) ∧ ∀ i m H, W i m H →
      ((Itl K a).stop i H ∧ Qd H) ∨ ((Itl K a).go i H ∧ ∃ Nx : Hp → Prop, (∀ H', Nx H' → ∃ m', m' < m ∧ W (i + 1) m' H') ∧ ∀ x H', (Itl K a).yld i H x H' → g x (wipe σ vs) H' fun σ2 H2 => wipe σ2 vs = wipe σ vs ∧ tt σ2 H2 fun b H3 =>
        if b = true then tk σ2 H3 fun y H4 => tv σ2 H4 fun z H5 => ∃ kvs k, y = kV k ∧ H5 D = some (.dK kvs) ∧ kvs.length < sizeLine ∧ Nx (upd H5 D (.dK (putK kvs k z))) else Nx H3) := by
  refine ⟨fun i m H => m = xs.length - i ∧ i ≤ xs.length ∧ Pv i H, ⟨xs.length, by simp, Nat.zero_le _, h0⟩, ?_⟩
  rintro i m H ⟨rfl, hi, p⟩
  have q := hl i H hi p
  by_cases hlt : i < xs.length
  · refine .inr ⟨⟨xs, xs[i], q, by simp [hlt]⟩, Pv (i + 1), fun H' p' => ⟨xs.length - (i + 1), by omega, rfl, hlt, p'⟩, fun x H' y => ?_⟩
    obtain ⟨e, y⟩ := y
    subst e
    exact hs i x _ (y xs q) p
  · have e : i = xs.length := by omega
    subst e
    exact .inl ⟨⟨xs, q, Nat.le_refl _⟩, hd H p⟩

/-! ### repr of lists in which dicts of flat values stand -/
inductive Fl : V → PyData → Prop
  | non : Fl .non .none
  | bl (b : Bool) : Fl (.bl b) (.bool b)
  | int (i : Int) : Fl (.int i) (.int i)
  | str (z : Str) : Fl (.str z) (.str z)
def keyD : Key → PyData
  | .inl i => .int i
  | .inr x => .str x
inductive DicAll : List (Key × V) → List (PyData × PyData) → Prop
  | nil : DicAll [] []
  | cons {k : Key} {v : V} {d : PyData} {kvs : List (Key × V)} {ds : List (PyData × PyData)} (h : Fl v d) (r : DicAll kvs ds) : DicAll ((k, v) :: kvs) ((keyD k, d) :: ds)
theorem Fl.reads {h : Heap} {v : V} {d : PyData} {u : Value} (f : Fl v d) (r : RelV v u) : Reads h u d [] := by
  cases f with
  | non => cases r; exact .none
  | bl b => cases r; exact .bool b
  | int i => obtain ⟨t, rfl⟩ := r; exact .int i t
  | str z => obtain ⟨t, rfl⟩ := r; exact .str z t
theorem key_reads {h : Heap} {k : Key} {u : Value} (r : keyIs k u = true) : Reads h u (keyD k) [] := by
  rcases keyIs_shape r with ⟨i, t, rfl, rfl⟩ | ⟨x, t, rfl, rfl⟩
  · exact .int i t
  · exact .str x t
theorem DicAll.reads {P : Program} {w : World} {h : Heap} : ∀ {kvs : List (Key × V)} {ds : List (PyData × PyData)} {vs : List (Key × Value)} {es : List DictEntry}, DicAll kvs ds → KV kvs vs → Pairs (mixKind P w) es vs →
    ReadsAll h (es.map (·.key)) (ds.map (·.1)) [] ∧ ReadsAll h (es.map (·.val)) (ds.map (·.2)) []
  | _, _, _, _, .nil, kv, pr => by
    cases kv
    cases pr
    exact ⟨.nil, .nil⟩
  | _, _, _, _, .cons f r, kv, pr => by
    cases kv with
    | cons q kv =>
      cases pr with
      | cons h1 h2 pr =>
        obtain ⟨a, b⟩ := r.reads kv pr
        obtain ⟨q1, q2⟩ := q
        refine ⟨ReadsAll.cons (as := []) (bs := []) (key_reads ?_) a, ReadsAll.cons (as := []) (bs := []) (f.reads ?_) b⟩
        · have z : keyIs _ _ = true := h1
          rw [← q1] at z
          exact z
        · have z := h2 ▸ q2
          exact z

/-- a thing to be shown: data, or a dict of flat values -/
inductive Sd (H : Hp) (P : Addr → Prop) : V → PyData → Prop
  | sh {x : V} {d : PyData} (h : Sh H P true x d) : Sd H P x d
  | dic {a : Addr} {kvs : List (Key × V)} {ds : List (PyData × PyData)} (h : H a = some (.dK kvs)) (r : DicAll kvs ds) : Sd H P (.ref a) (.dict ds)
inductive SdAll (H : Hp) (P : Addr → Prop) : List V → List PyData → Prop
  | nil : SdAll H P [] []
  | cons {v : V} {vs : List V} {d : PyData} {ds : List PyData} (h : Sd H P v d) (r : SdAll H P vs ds) : SdAll H P (v :: vs) (d :: ds)
section
variable {X : Cx} {pins : List (Addr × Obj)} {σ : L2.St} {H : Hp} {s : Shared} {P : Addr → Prop}
theorem Sd.reads (I : L2.Inv X pins σ H s) {d : PyData} {v : V} {u : Value} (h : Sd H P v d) (r : RelV v u) : ∃ as, Reads s.heap u d as ∧ (∀ a ∈ as, a ≠ sysModules) := by
  cases h with
  | sh h =>
    obtain ⟨as, q, p⟩ := Sh.reads I d v u h r
    exact ⟨as, q, p rfl⟩
  | dic h da =>
    cases r
    obtain ⟨_, sm, vs, kv, o, es, ep, e1, e2, e3, _, e4, _⟩ := I.hok _ _ h
    obtain ⟨r1, r2⟩ := da.reads (h := s.heap) kv e4
    refine ⟨_, .dict e1 e2.1 e3 r1 r2, fun a z => ?_⟩
    rcases List.mem_cons.mp z with e | e
    · exact e ▸ beq_eq_false_iff_ne.mp sm
    · cases e
theorem SdAll.reads (I : L2.Inv X pins σ H s) : ∀ {ds : List PyData} {vs : List V} {us : List Value}, SdAll H P vs ds → Vals vs us → ∃ as, ReadsAll s.heap us ds as ∧ (∀ a ∈ as, a ≠ sysModules)
  | _, _, _, .nil, r => by
    cases r
    exact ⟨_, .nil, fun _ z => nomatch z⟩
  | _, _, _, .cons h1 h2, r => by
    cases r with
    | cons r1 r2 =>
      obtain ⟨as, q1, p1⟩ := Sd.reads I h1 r1
      obtain ⟨bs, q2, p2⟩ := SdAll.reads I h2 r2
      exact ⟨_, .cons q1 q2, fun a z => (List.mem_append.mp z).elim (p1 a) (p2 a)⟩
end
section
variable {X : Cx}
/-- repr(x), x a list of any address, dicts of flat values in it -/
def rReprD : List V → Hp → VK → Prop := fun xs H Q => ∃ (a : Addr) (ys : List V) (P : Addr → Prop) (ds : List PyData), xs = [.ref a] ∧ H a = some (.lst ys) ∧ SdAll H P ys ds ∧ (PyData.list ds).showable = true ∧ (PyData.list ds).depth ≤ 60 ∧ (PyData.list ds).shown.length ≤ sizeLine ∧ Q (.str (PyData.list ds).shown) H
theorem call_reprD (hA : X.A.guards = some []) (hu : X.A.units + 64 < cLine) : CallR X (.builtin "repr") rReprD := by
  intro pins s σ H xs us Q I r h
  obtain ⟨a, ys, P, ds, rfl, ha, hs, sw, dp, sz, q⟩ := h
  obtain ⟨u, rfl, rx⟩ := vals1 r
  cases rx
  obtain ⟨_, its, n, rv, e⟩ := I.hok _ _ ha
  obtain ⟨as, rd, hp⟩ := SdAll.reads I hs rv
  have nodict : PyData.hasDictAll ds = true → sysModules ∉ as := fun hd z => hp _ z rfl
  have sz' : (listText (PyData.shownAll ds)).length ≤ sizeLine := by simpa only [PyData.shown] using sz
  have sw' : PyData.showableAll ds = true := by simpa only [PyData.showable] using sw
  obtain ⟨bs, hb, hk⟩ := ReprAllK.of_readsAll (prog := X.prog) (w := X.w) rd sw' nodict (fun t ht => Nat.le_trans (listText_mem_le ht) sz')
  have whole : Reads s.heap (.ref a) (.list ds) (a :: as) := .list e rfl rfl (by simpa using rd)
  have hna : a ∉ bs := not_mem_of_deeper whole (by simp only [PyData.depth]; omega) hb
  simp only [PyData.depth] at dp
  have fin : ∀ h' u tk, (∀ b o, s.heap.get? b = some o → h'.get? b = some o) → EP X pins σ Q (.str (PyData.list ds).shown u) { s with heap := h', toks := tk } := fun h' u tk k => ⟨.str (PyData.list ds).shown, H, I.kept k, ⟨u, rfl⟩, q⟩
  simp only [PyData.shown] at fin
  refine call_repr_slot (by omega) ⟨_, e, rfl⟩ F.slot_list_repr.toG ?_
  cases its with
  | nil =>
    cases rd
    simp only [PyData.shownAll, listText_nil] at fin
    exact call_list_repr_empty ⟨_, e, rfl⟩ e rfl ⟨_, _, rfl, fin s.heap _ _ fun _ _ e => e⟩
  | cons x l =>
    exact call_list_reprK e rfl rfl hna (by simpa using hk.length_eq) (fun i y e => hk.item i y (by simpa using e)) hA (fun b _ => Clear.nil b) (by show X.A.units + 1 + _ < cLine; omega) (fun _ _ e => e) (fun h' u tk hk => ⟨_, _, rfl, fin h' u tk hk⟩) sz'
end
end Bf

/-! Own rules: a call whose callee is an expression that gives one of some defs, where what is raised is wished for at the caller's slots; what an expression makes; a dict of one pair. -/
namespace Bf
open PySem PySem.Spec PyProof.Rows L2
def tCallES (S : Addr → Sp) (ok : Addr → Prop) (E : L2.St → XK) (tf : TE) (t : TA) : TE := fun σ H Q => tf σ H fun y H1 => ∃ f, y = V.ref f ∧ ok f ∧ t σ H1 fun vs H2 => S f vs H2 Q (E σ)
theorem pe_callES {X : Cx} {CX : CXT} {k : Nat} {S : Addr → Sp} {ok : Addr → Prop} {E : L2.St → XK} {fe e : Expr} {es : List Expr} {pos : Pos} {tf : TE} {t : TA} (hf : PE X fe tf)
    (A : ∀ f, ok f → ∃ fd ps, FnOk X.prog X.w X.K X.mg X.base CX k f fd ps (S f) ∧ PySem.W.keepIn X.K (.ref f) = true ∧ Binds X.K fd ps []) (hr : Room k X.A) (hx : ∀ σ, PassesAt CX X σ (E σ)) (ha : PA X (e :: es) t)
    (ht : eval (.Call fe (e :: es) [] pos) X.env = (do callWith pos (← eval fe X.env) [] (backTo pos (starEach (e :: es) X.env)) (backToKw pos (keywordEach [] X.env))) := by rfl)
    (he : starEach (e :: es) X.env = (false, eval e X.env) :: starEach es X.env := by rfl) (hpl : (backTo pos (starEach es X.env)).any (·.1) = false := by rfl) : PE X (.Call fe (e :: es) [] pos) (tCallES S ok E tf t) := by
  refine ⟨fun pins s σ H Q I h => ?_⟩
  rw [ht]
  refine wpAny_bind (thn (hf.run pins s σ H _ I h) fun u s1 ⟨y, H1, I1, ry, f, ey, okf, q⟩ => ?_)
  subst ey
  obtain rfl : u = Value.ref f := ry
  obtain ⟨fd, ps, F, hk, hb⟩ := A f okf
  refine PySem.W.callWith_K (h₀ := X.base) I1.ok.mod.kin hk (thn (ha.run pos pins s1 σ H1 _ I1 q) fun us s2 ⟨vs, H2, I2, r, q2⟩ => ⟨I2.kIn, ?_⟩) he hpl
  exact run_fnSD F hr hb .nil (hx σ) I2 r (by rw [List.append_nil]; exact q2)
/-! ### what an expression makes -/
def Mks (t : TE) (σ : L2.St) (H : Hp) (Φ : V → Hp → Prop) : Prop := ∀ Q : VK, (∀ v G, Same H G → Φ v G → Q v G) → t σ H Q
def MksA (t : TA) (σ : L2.St) (H : Hp) (n : Nat) (Φ : V → Hp → Prop) : Prop := ∀ Q : List V → Hp → Prop, (∀ vs G, Same H G → vs.length = n → (∀ v ∈ vs, Φ v G) → Q vs G) → t σ H Q
def MkE (σ : L2.St) (H0 : Hp) (t : TE) (Φ : V → Hp → Prop) : Prop := ∀ G, Same H0 G → Mks t σ G Φ
def MkA (σ : L2.St) (H0 : Hp) (t : TA) (n : Nat) (Φ : V → Hp → Prop) : Prop := ∀ G, Same H0 G → MksA t σ G n Φ
section
variable {σ : L2.St} {H0 : Hp} {Φ : V → Hp → Prop} {t : TE} {u : TA} {n : Nat}
theorem mk_nil : MkA σ H0 tNil 0 Φ := fun G _ Q q => q [] G (fun _ _ e => e) rfl fun _ m => nomatch m
theorem mk_cons (hΦ : ∀ v G G', Same G G' → Φ v G → Φ v G') (h1 : MkE σ H0 t Φ) (h2 : MkA σ H0 u n Φ) : MkA σ H0 (tCons t u) (n + 1) Φ := fun G s Q q =>
  h1 G s _ fun v G1 s1 p1 => h2 G1 (fun b o e => s1 _ _ (s _ _ e)) _ fun vs G2 s2 l p2 => q (v :: vs) G2 (fun b o e => s2 _ _ (s1 _ _ e)) (by rw [List.length_cons, l]) fun x m => (List.mem_cons.mp m).elim (fun e => e ▸ hΦ v G1 G2 s2 p1) (p2 x)
theorem new_same {H : Hp} {p : Addr} {o : HO} (h : H p = none) : Same H (upd H p o) := fun b u e => by
  have nb : b ≠ p := fun z => by rw [z, h] at e; cases e
  rw [upd_ne nb]
  exact e
theorem free_of {H G : Hp} {a : Addr} (s : Same H G) (h : G a = none) : H a = none := by
  cases z : H a with
  | none => rfl
  | some o => rw [s _ _ z] at h; cases h
theorem mk_c {v : V} (h : ∀ G, Same H0 G → Φ v G) : MkE σ H0 (tC v) Φ := fun G s Q q => q v G (fun _ _ e => e) (h G s)
theorem mk_emp (h : ∀ a G, Same H0 G → H0 a = none → G a = some (.dK []) → Φ (.ref a) G) : MkE σ H0 tDNewK Φ := fun G s Q q a ha =>
  q _ _ (new_same ha) (h a _ (fun b o e => new_same ha _ _ (s _ _ e)) (free_of s ha) upd_same)
theorem mk_dic1 {kx v : V} {key : Key} (ek : kx = kV key) (h : ∀ a G, Same H0 G → H0 a = none → G a = some (.dK [(key, v)]) → Φ (.ref a) G) : MkE σ H0 (tDisp [(tC kx, tC v)]) Φ := fun G s Q q a ha => by
  refine ⟨upd_same, [(key, v)], by rw [ek]; rfl, by show 1 ≤ 15; decide, ?_⟩
  have e : Same G (upd (upd G a (.dK [])) a (.dK (mergeK [] [(key, v)]))) := fun b o e => by
    have nb : b ≠ a := fun z => by rw [z, ha] at e; cases e
    rw [upd_ne nb, upd_ne nb]
    exact e
  exact q _ _ e (h a _ (fun b o z => e _ _ (s _ _ z)) (free_of s ha) upd_same)
theorem mk_list (hu : ∀ G, Same H0 G → ∀ Q : List V → Hp → Prop, (∀ vs G', Same G G' → vs.length ≤ 1000 → (∀ a, G' a = none → a ≠ sysModules → Φ (.ref a) (upd G' a (.lst vs))) → Q vs G') → u σ G Q) : MkE σ H0 (tLstN u) Φ := fun G s Q q =>
  hu G s _ fun vs G' s' l h => ⟨l, fun a ha na => q _ _ (fun b o e => new_same ha _ _ (s' _ _ e)) (h a ha na)⟩
theorem mk_tup (hu : ∀ G, Same H0 G → ∀ Q : List V → Hp → Prop, (∀ vs G', Same G G' → vs.length ≤ sizeLine → (∀ a, G' a = none → Φ (.ref a) (upd G' a (.tup vs))) → Q vs G') → u σ G Q) : MkE σ H0 (tTup u) Φ := fun G s Q q =>
  hu G s _ fun vs G' s' l h => ⟨l, fun a ha => q _ _ (fun b o e => new_same ha _ _ (s' _ _ e)) (h a ha)⟩
end
end Bf

/-! Own rules: a text taken never or once; `!=` of data. -/
namespace Bf
open PySem PySem.Spec PyProof.Rows L2
def rMulS : R2 := fun x y H Q => ∃ (z : Str) (k : Int), x = .str z ∧ y = .int k ∧ ((k = 0 ∧ Q (.str Str.empty) H) ∨ (k = 1 ∧ Q (.str z) H))
theorem op_mulS {X : Cx} : OpR X (binaryOp .Mult) rMulS := by
  intro pins s σ H x y v u Q I rx ry h
  obtain ⟨z, k, rfl, rfl, h⟩ := h
  obtain ⟨t, rfl⟩ := rx
  obtain ⟨t', rfl⟩ := ry
  rcases h with ⟨rfl, q⟩ | ⟨rfl, q⟩
  · exact P.mul_str_none (by decide) (by decide) ⟨.str Str.empty, H, I.tok _, ⟨_, rfl⟩, q⟩
  · refine P.mul_str (by decide) (fun _ e => ?_) (fun _ e => ?_) ?_
    · cases e
    · cases e
    · rw [if_neg (by decide), if_pos (by rfl)]
      exact ⟨.str z, H, I, ⟨_, rfl⟩, q⟩
def rNeSh : R2 := fun x y H Q => ∃ (P1 P2 : Addr → Prop) (b1 b2 : Bool) (d e : PyData), Sh H P1 b1 x d ∧ Sh H P2 b2 y e ∧ SeqAt.shaped d = true ∧ SeqAt.shaped e = true ∧ Q (.bl (!PyData.eqv d e)) H
theorem op_neSh {X : Cx} (hu : X.A.units + 64 < cLine) : OpR X (compareOp .NotEq) rNeSh := by
  intro pins s σ H x y v u Q I rx ry h
  obtain ⟨P1, P2, b1, b2, d, e, hd, he, sd, se, q⟩ := h
  obtain ⟨as, r1, _⟩ := Sh.reads I d x v hd rx
  obtain ⟨bs, r2, _⟩ := Sh.reads I e y u he ry
  exact SeqAt.compareNe_shaped r1 r2 sd se hu ⟨.bl _, H, I, rfl, q⟩
end Bf

namespace Bf
open PySem PySem.Spec PyProof.Rows L2
theorem slK {X : Cx} {K : PySem.W.Frag} (h : X.K = K) : SlR X (rSlN K) := by subst h; exact sl_listN
/-- a loop over enumerate(list) -/
theorem for_ite {K : PySem.W.Frag} {a : Addr} {xs : List V} {g : TG} {tb : TS} {D : Ends} {σ : L2.St} {H : Hp} (Pv : Nat → L2.St → Hp → Prop) (h0 : Pv 0 σ H) (hl : ∀ i σ H, i ≤ xs.length → Pv i σ H → SqL K H a xs)
    (hs : ∀ i x σ H T, xs[i]? = some x → Pv i σ H → H T = none → g (.ref T) σ (upd H T (.tup [.int (i : Nat), x])) fun σ2 H2 => tb { D with nx := Pv (i + 1), ct := Pv (i + 1), bk := D.nx } σ2 H2) (hd : ∀ σ H, Pv xs.length σ H → D.nx σ H) :
    ∃ W : Nat → Nat → L2.St → Hp → Prop, (∃ m, W 0 m σ H) ∧ ∀ i m σ H, W i m σ H →
      ((Ite K a).stop i H ∧ D.nx σ H) ∨ ((Ite K a).go i H ∧ ∃ N : L2.St → Hp → Prop, (∀ σ' H', N σ' H' → ∃ m', m' < m ∧ W (i + 1) m' σ' H') ∧ ∀ x H', (Ite K a).yld i H x H' → g x σ H' fun σ2 H2 => tb { D with nx := N, ct := N, bk := D.nx } σ2 H2) := by
  refine ⟨fun i m σ H => m = xs.length - i ∧ i ≤ xs.length ∧ Pv i σ H, ⟨xs.length, by simp, Nat.zero_le _, h0⟩, ?_⟩
  rintro i m σ H ⟨rfl, hi, p⟩
  have q := hl i σ H hi p
  rcases Nat.lt_or_ge i xs.length with lt | ge
  · refine .inr ⟨⟨xs, xs[i], q, List.getElem?_eq_getElem lt⟩, Pv (i + 1), fun σ' H' p' => ⟨xs.length - (i + 1), by omega, rfl, lt, p'⟩, ?_⟩
    rintro x H' ⟨T, y, rfl, nT, rfl, hy⟩
    exact hs i y σ H T (hy xs q) p nT
  · exact .inl ⟨⟨xs, q, ge⟩, hd σ H (Nat.le_antisymm hi ge ▸ p)⟩

/-- a family's own class, as it is called -/
structure FamC (P : Program) (w : World) (K : PySem.W.Frag) (mg : Str → Option Value) (base : Heap) (cF cM cB C fI : Addr) (fdI : FuncData) (B : String) (j : Nat) : Prop where
  ox : OexG K C B
  iC : PySem.W.findIn K (.ref C) "__init__" = some (some (.ref fI))
  tI : PySem.W.typeIn K (.ref fI) = some (.type "function")
  ok : FnOk P w K mg base CX0 2 fI fdI ["self", "text"] (spBaseG K B)
  bd : Binds K fdI ["self", "text"] []
  fk : A1.FamK K cF cM cB C j
namespace A1
theorem mkB {K : PySem.W.Frag} {σ : L2.St} {H : Hp} {Q : VK} {C : Addr} {B : String} {y : V} (ox : OexG K C B) (q : ∀ a G, Same H G → ExG G a C → Q (.ref a) G) : tMkT C (spBaseG K B) (tCons (tC y) tNil) σ H Q := by
  refine ⟨by show 1 ≤ 1000; decide, fun a t ha => ⟨a, C, t, y, rfl, ox, upd_same, fun t1 h1 n1 => ⟨rfl, q a _ (fun b o e => ?_) ⟨none, t1, upd_same, (fun d' z => by cases z)⟩⟩⟩⟩
  have nb := ne_of_none e ha
  have n2 : b ≠ t1 := ne_of_none (show (upd H a (exoT a C none t)) b = some o by rw [upd_ne nb]; exact e) h1
  rw [upd_ne nb, upd_ne n2, upd_ne nb]
  exact e
theorem mkBc {K : PySem.W.Frag} {σ : L2.St} {H : Hp} {C : Addr} {B : String} {y : V} {tr : TA} {R : List V → Hp → Prop} (ox : OexG K C B) (q : ∀ a G, Same H G → ExG G a C → tr σ G fun xs H2 => R (.ref a :: xs) H2) : tCons (tMkT C (spBaseG K B) (tCons (tC y) tNil)) tr σ H R := mkB ox q
theorem in_miss : ∀ i, i < 35 → inV (.int (i : Nat)) [.int 22, .int 23, .int 32] = (fam i == 1) := by
  have : ∀ i : Fin 35, inV (.int (i.val : Nat)) [.int 22, .int 23, .int 32] = (fam i.val == 1) := by decide +kernel
  exact fun i h => this ⟨i, h⟩
theorem in_barr : ∀ i, i < 35 → inV (.int (i : Nat)) [.int 24, .int 25, .int 26, .int 27, .int 33, .int 34] = (fam i == 2) := by
  have : ∀ i : Fin 35, inV (.int (i.val : Nat)) [.int 24, .int 25, .int 26, .int 27, .int 33, .int 34] = (fam i.val == 2) := by decide +kernel
  exact fun i h => this ⟨i, h⟩
theorem fam_not (i : Nat) : (!(fam i == 1) && !(fam i == 2)) = (fam i == 0) := by
  unfold fam
  split
  · rfl
  · split <;> rfl
theorem bls {K : PySem.W.Frag} {H : Hp} : ∀ bs : List Bool, DpAll K H (bs.map V.bl) (bs.map PyData.bool)
  | [] => .nil
  | b :: r => .cons (.bl b) (bls r)
theorem eqv_bls : ∀ bs : List Bool, PyData.eqvAll (bs.map PyData.bool) (bs.map PyData.bool) = true
  | [] => by simp only [List.map_nil, PyData.eqvAll]
  | b :: r => by simp only [List.map_cons, PyData.eqvAll, PyData.eqv, eqv_bls r, beq_self_eq_true, Bool.and_self]
theorem rits_dv {K : PySem.W.Frag} {P : Addr → Prop} {G : Hp} : ∀ {ws : List V}, (∀ v ∈ ws, DV P G v) → ∃ ts, RIts K G ws ts ∧ (ts.map (·.length)).sum ≤ 500 * ws.length ∧ ts.length = ws.length
  | [], _ => ⟨[], .nil, Nat.le_refl _, rfl⟩
  | v :: ws, h => by
    obtain ⟨b, d, sh, ft, l⟩ := h v List.mem_cons_self
    obtain ⟨ts, a, c, e⟩ := rits_dv (K := K) fun u m => h u (List.mem_cons_of_mem _ m)
    obtain ⟨it, il⟩ := rit_of (K := K) sh ft (by decide)
    exact ⟨d.shown :: ts, .cons it a, by rw [List.map_cons, List.sum_cons, List.length_cons]; omega, by rw [List.length_cons, List.length_cons, e]⟩
theorem lay_ints : ∀ is : List Int, PyData.canLayAll0 (is.map PyData.int) = true ∧ PyData.depthAll (is.map PyData.int) = 0
  | [] => ⟨by simp only [List.map_nil, PyData.canLayAll0], by simp only [List.map_nil, PyData.depthAll]⟩
  | i :: r => by
    obtain ⟨a, b⟩ := lay_ints r
    exact ⟨by simp only [List.map_cons, PyData.canLayAll0, PyData.canLay0, a, Bool.and_self], by simp only [List.map_cons, PyData.depthAll, PyData.depth, b]; decide⟩
theorem lay_bls : ∀ is : List Bool, PyData.canLayAll0 (is.map PyData.bool) = true ∧ PyData.depthAll (is.map PyData.bool) = 0
  | [] => ⟨by simp only [List.map_nil, PyData.canLayAll0], by simp only [List.map_nil, PyData.depthAll]⟩
  | i :: r => by
    obtain ⟨a, b⟩ := lay_bls r
    exact ⟨by simp only [List.map_cons, PyData.canLayAll0, PyData.canLay0, a, Bool.and_self], by simp only [List.map_cons, PyData.depthAll, PyData.depth, b]; decide⟩
theorem shaped_ints (is : List Int) : SeqAt.shaped (.list (is.map PyData.int)) = true := by
  obtain ⟨a, b⟩ := lay_ints is
  unfold SeqAt.shaped
  simp only [PyData.canLay0, PyData.depth, a, b, Bool.true_and]
  decide
theorem shaped_bls (is : List Bool) : SeqAt.shaped (.list (is.map PyData.bool)) = true := by
  obtain ⟨a, b⟩ := lay_bls is
  unfold SeqAt.shaped
  simp only [PyData.canLay0, PyData.depth, a, b, Bool.true_and]
  decide
theorem in_tup {K : PySem.W.Frag} {σ : L2.St} {G : Hp} {Q : VK} {i : Nat} {x : V} {xs : List V} {ta : TA} {b : Bool} (h2 : σ[i]? = some (some x)) (e : inV x xs = b) (fx : flatV x = true) (fs : xs.all flatV = true) (l : xs.length ≤ 1000)
    (ht : ∀ R : List V → Hp → Prop, R xs G → ta σ G R) (q : ∀ G', Same G G' → Q (.bl b) G') : tOp (rIn K false) (tVar i) (tTup ta) σ G Q := by
  refine ⟨_, h2, ht _ ⟨by rw [sizeLine_eq]; omega, fun t hn => ⟨t, xs, rfl, .inr (SqT.of upd_same), fx, fs, ?_⟩⟩⟩
  rw [if_neg Bool.false_ne_true, e]
  exact q _ (same_new hn)
theorem seq_par2 {σ : L2.St} {G : Hp} {E : Ends} {u : TS} {A B : TE} {x y : Bool} {i j : Nat} (hA : ∀ Q : VK, (∀ G', Same G G' → Q (.bl x) G') → A σ G Q) (hB : ∀ G', Same G G' → ∀ Q : VK, (∀ G'', Same G' G'' → Q (.bl y) G'') → B σ G' Q)
    (q : ∀ G', Same G G' → u E ((σ.set i (some (.bl x))).set j (some (.bl y))) G') : tSeq (tPar i j (tCons A (tCons B tNil))) u E σ G :=
  hA _ fun G1 s1 => hB G1 s1 _ fun G2 s2 => ⟨_, _, rfl, q G2 (s1.trans s2)⟩
theorem orc {σ : L2.St} {H : Hp} {R : List V → Hp → Prop} {i j : Nat} {x y : Bool} (hi : σ[i]? = some (some (.bl x))) (hj : σ[j]? = some (some (.bl y))) (q : R [.bl (x || y)] H) : tCons (tOrV (tVar i) (tVar j)) tNil σ H R := by
  refine ⟨_, hi, _, rfl, ?_⟩
  cases x
  · exact ⟨_, hj, q⟩
  · exact q
theorem and_nn {σ : L2.St} {H : Hp} {Q : VK} {i j : Nat} {x y : Bool} (hi : σ[i]? = some (some (.bl x))) (hj : σ[j]? = some (some (.bl y))) (q : Q (.bl (!x && !y)) H) : tAndV (tNotV (tVar i)) (tNotV (tVar j)) σ H Q :=
  by
  refine ⟨_, hi, _, rfl, _, rfl, ?_⟩
  cases x
  · exact ⟨_, hj, _, rfl, q⟩
  · exact q
theorem and_nnc {σ : L2.St} {H : Hp} {tr : TA} {R : List V → Hp → Prop} {i j : Nat} {x y b : Bool} (hi : σ[i]? = some (some (.bl x))) (hj : σ[j]? = some (some (.bl y))) (e : (!x && !y) = b) (q : tr σ H fun xs H2 => R (.bl b :: xs) H2) : tCons (tAndV (tNotV (tVar i)) (tNotV (tVar j))) tr σ H R := by
  subst e
  exact and_nn hi hj q
section
variable {P : Program} {w : World} {K : PySem.W.Frag} {mg : Str → Option Value} {base : Heap} {cs : Nat → Addr} {cF cM cB : Addr}
abbrev nRefs : List Str := ["_law_purse_here", "_law_thing", "_law_k", "_law_e", "_law_fields", "_law_due", "_law_missing", "_law_barred", "_law_family_here", "_law_some"]
def spRefs : Sp := fun vs H Q _ => ∃ (p : Addr) (n : Int), vs = [.ref p] ∧ Purse H p n ∧ n ≤ 99800 ∧ ∀ G, Kp (· ≠ p) H G → Purse G p (n + 5) → Q (.bl true) G
theorem scRefs : FnScope nRefs ["_law_purse_here"] (defScope sRefs) := ⟨rfl, rfl, rfl, by decide +kernel, rfl, by decide +kernel, by decide +kernel⟩
set_option maxHeartbeats 4000000 in
theorem ok_refs {f ft fm fk ff fF fM fB : Addr} {fd dt dm dk df dF dM dB : FuncData} (F : Fun K "_law_refusals_right" "_law_refusals_right" sRefs f fd) (Z : KT K mg cs cF cM cB)
    (DT : Df K mg "_law_take" ft dt pTake) (GT : FnOk P w K mg base CX0 1 ft dt pTake spTake) (DM : Df K mg "_law_made" fm dm pMade) (GM : FnOk P w K mg base CX0 5 fm dm pMade (spMade cs))
    (DK : Df K mg "_law_kinds_of" fk dk ["_law_e"]) (GK : FnOk P w K mg base CX0 1 fk dk ["_law_e"] (spKd cs)) (DF : Df K mg "_law_family" ff df ["_law_e"]) (GF : FnOk P w K mg base CX0 1 ff df ["_law_e"] (spFam K cF cM cB))
    (CF : FamC P w K mg base cF cM cB cF fF dF "ValueError" 0) (CM : FamC P w K mg base cF cM cB cM fM dM "KeyError" 1) (CB : FamC P w K mg base cF cM cB cB fB dB "LookupError" 2)
    (mp : mg "repr" = none) (me : mg "enumerate" = none) : FnG P w K mg base CX0 6 f fd ["_law_purse_here"] spRefs := by
  obtain ⟨oxF, iF, tF, TF, bdF, fkF⟩ := CF
  obtain ⟨oxM, iM, tM, TM, bdM, fkM⟩ := CM
  obtain ⟨oxB, iB, tB, TB, bdB, fkB⟩ := CB
  refine Fun.okG F scRefs (fun vs H Q E h => ?_) (fun cdv A outer s H vs Q E hA hr h => ?_)
  · obtain ⟨p, n, rfl, _⟩ := h
    rfl
  · obtain ⟨p, n, rfl, pu, hn, q⟩ := h
    have hr3 := hr.mono (by decide : 3 ≤ 5)
    have hr1 := hr.mono (by decide : 1 ≤ 5)
    have hA' : (A.deeper (envOfC "_law_refusals_right" (defScope sRefs) s.heap.objs.size f cdv)).guards = some [] := hA
    refine ⟨_, (pss_cons (ps_set (i := 1) scRefs.nd rfl (Or.inl rfl) (pe_ix ix_list (pe_lst (pa_cons pe_non (pa_cons (pe_lst (pa_cons pe_str pa_nil)) (pa_cons pe_str (pa_cons (pe_op op_pow pe_int pe_int) (pa_cons (pe_tup pa_nil) (pa_cons pe_dnewK (pa_cons pe_bl pa_nil)))))))) (pe_call GT hr1 (by rfl) DT.at_ DT.kp DT.bd .nil pass0 (pa_cons (pv 0) (pa_cons pe_int pa_nil))) (fun _ _ => rfl)))
        (pss_cons (ps_for PassesOwn.leaving rfl (pi_enum (by rfl) me (pa_cons (pe_call GM hr (by rfl) DM.at_ DM.kp DM.bd .nil pass0 (pa_cons (pv 0) (pa_cons (pv 1) pa_nil))) pa_nil)) (pg_tup rfl (pgs_cons (pg_name (i := 2) scRefs.nd rfl (Or.inl rfl)) (pgs_cons (pg_tup rfl (pgs_cons (pg_name (i := 3) scRefs.nd rfl (Or.inl rfl)) (pgs_cons (pg_name (i := 4) scRefs.nd rfl (Or.inl rfl)) (pgs_cons (pg_name (i := 5) scRefs.nd rfl (Or.inl rfl)) pgs_nil)))) pgs_nil))) (pss_cons (ps_par (i := 6) (j := 7) rfl scRefs.nd rfl rfl (by decide) rfl rfl (pa_cons (pe_cmpR op_in_seq (pv 2) (pe_tup (pa_cons pe_int (pa_cons pe_int (pa_cons pe_int pa_nil)))) (by rfl)) (pa_cons (pe_cmpR op_in_seq (pv 2) (pe_tup (pa_cons pe_int (pa_cons pe_int (pa_cons pe_int (pa_cons pe_int (pa_cons pe_int (pa_cons pe_int pa_nil))))))) (by rfl)) pa_nil)) rfl)
        (pss_cons (ps_set (i := 8) scRefs.nd rfl (Or.inl rfl) (pe_lst (pa_cons (pe_and (pe_not (pv 6)) (pe_one (pe_not (pv 7)))) (pa_cons (pv 6) (pa_cons (pv 7) pa_nil)))))
        (pss_cons (ps_if (PW.pt (pw_or (pt_cmpR (op_neD hr.units) (pe_call GK hr1 (by rfl) DK.at_ DK.kp DK.bd .nil pass0 (pa_cons (pv 3) pa_nil)) (pe_lst (pa_cons (pv 2) pa_nil)) (nomark _)) (pw_or1 (pt_cmpR op_ne (pe_callB (call_reprX hA' hr.units) (by rfl) mp (by decide +kernel) (pa_cons (pv 4) pa_nil)) (pe_callB (call_reprX hA' hr.units) (by rfl) mp (by decide +kernel) (pa_cons (pv 5) pa_nil)) (nomark _))))) (pss_one (ps_ret pe_bl)) pss_nil)
        (pss_one (ps_if (pt_cmpR (op_neD hr.units) (pe_call GF hr1 (by rfl) DF.at_ DF.kp DF.bd .nil pass0 (pa_cons (pv 3) pa_nil)) (pe_op op_catN (pv 8) (pe_lst (pa_cons (pe_ix ix_list (pv 8) pe_int (fun _ _ => rfl)) (pa_cons (pv 6) (pa_cons (pe_or (pv 6) (pe_one (pv 7))) pa_nil))))) (nomark _)) (pss_one (ps_ret pe_bl)) pss_nil))))))
        (pss_cons (ps_set (i := 9) scRefs.nd rfl (Or.inl rfl) (pe_lst (pa_cons (pe_mkG oxF iF tF TF hr3 bdF pass0 (by rfl) Z.gF (pa_cons pe_str pa_nil)) (pa_cons (pe_mkG oxM iM tM TM hr3 bdM pass0 (by rfl) Z.gM (pa_cons pe_str pa_nil)) (pa_cons (pe_mkG oxB iB tB TB hr3 bdB pass0 (by rfl) Z.gB (pa_cons pe_str pa_nil)) pa_nil)))))
        (pss_one (ps_ret (pe_cmpR (op_eqD hr.units) (pe_lc (own := [("_law_e", 3)]) (g := gName 3) (tt := tYes) rfl scRefs.nd (pi_list (pv 9)) (blkOk_by (N := nRefs) (sc := defScope sRefs) (by decide +kernel)) (fun _ _ _ _ _ => pg_name (i := 3) scRefs.nd rfl (Or.inl rfl)) (fun _ _ _ _ _ => pts_nil) (fun _ _ _ _ _ => (pe_slice (slK (K := K) rfl) (pe_call GF hr1 (by rfl) DF.at_ DF.kp DF.bd .nil pass0 (pa_cons (pv 3) pa_nil)) po_none (po_some pe_int)))) (pe_lst (pa_cons (pe_lst (pa_cons pe_bl (pa_cons pe_bl (pa_cons pe_bl pa_nil)))) (pa_cons (pe_lst (pa_cons pe_bl (pa_cons pe_bl (pa_cons pe_bl pa_nil)))) (pa_cons (pe_lst (pa_cons pe_bl (pa_cons pe_bl (pa_cons pe_bl pa_nil)))) pa_nil)))) (nomark _))))))), ?_⟩
    refine ⟨by show 1 ≤ sizeLine; decide, fun a1 h1 => ⟨_, _, rfl, rfl, ⟨by decide, by decide, by decide⟩, ⟨by show 0 ≤ sizeLine; decide, fun t1 ht1 => fun d1 hd1 => ?_⟩⟩⟩
    have s1 : Same H (upd H a1 (.lst [.str "a"])) := same_new h1
    have s2 : Same _ (upd (upd H a1 (.lst [.str "a"])) t1 (.tup [])) := same_new ht1
    have s3 : Same _ (upd (upd (upd H a1 (.lst [.str "a"])) t1 (.tup [])) d1 (.dK [])) := same_new hd1
    have n1 := pu.ne h1
    have n2 := (pu.same s1).ne ht1
    have n3 := ((pu.same s1).same s2).ne hd1
    have g1 := s3 _ _ (s2 _ _ (upd_same (H := H) (a := a1) (o := .lst [.str "a"])))
    have g2 := s3 _ _ (upd_same (H := upd H a1 (.lst [.str "a"])) (a := t1) (o := .tup []))
    have g3 := upd_same (H := upd (upd H a1 (.lst [.str "a"])) t1 (.tup [])) (a := d1) (o := .dK [])
    have s123 := (s1.trans s2).trans s3
    generalize upd (upd (upd H a1 (.lst [.str "a"])) t1 (.tup [])) d1 (.dK []) = G1 at s3 g1 g2 g3 s123
    clear s1 s2 s3 h1 ht1 hd1
    refine disp_take (xs := [.non, .ref a1, .str "a", .int (10 ^ 29), .ref t1, .ref d1, .bl true]) (i := 0) rfl (pu.same s123) (by omega) rfl (by decide) (by decide) fun v G2 mv k2 pu2 => ?_
    have dv : DV (· ≠ p) G2 v := by
      simp only [List.mem_cons, List.not_mem_nil, or_false] at mv
      rcases mv with rfl | rfl | rfl | rfl | rfl | rfl | rfl
      · exact ⟨false, .none, .non, fit_non, by simp only [sl]; decide⟩
      · exact ⟨false, .list [.str "a"], .lst (k2 _ _ n1 g1) n1 (fun z => nomatch z) (.cons (.str _) .nil), fit_lst.mpr ⟨by decide, fitA_cons (fit_str.mpr (by decide +kernel)) fitA_nil⟩, by decide +kernel⟩
      · exact ⟨false, .str "a", .str _, fit_str.mpr (by decide +kernel), by simp only [sl]; decide⟩
      · exact ⟨false, _, .int _, fit_int.mpr (.inr (.inl rfl)), by decide +kernel⟩
      · exact ⟨false, .tuple [], .tup (k2 _ _ n2 g2) n2 .nil, fit_tup.mpr ⟨by decide, fitA_nil⟩, by decide +kernel⟩
      · exact ⟨true, .dict [], .emp rfl (k2 _ _ n3 g3) n3, by simp only [fit], by simp only [sl]; decide⟩
      · exact ⟨false, .bool true, .bl _, fit_bl, by simp only [sl]; decide⟩
    have k02 : Kp (· ≠ p) H G2 := (kp_same s123).trans k2
    clear mv g1 g2 g3 n1 n2 n3 s123 k2
    dsimp only [gName]
    refine ⟨_, rfl, _, rfl, p, n + 1, v, rfl, pu2, by omega, dv, fun R G3 L PP k3 pu3 lR gL rl => ⟨L, _, rfl, SqL.of gL, for_ite (K := K) (a := L) (xs := R) (fun _ σ G => (∃ v2 v3 v4 v5 v6 v7 v8 v9, σ = [some (.ref p), some v, v2, v3, v4, v5, v6, v7, v8, v9]) ∧ Same G3 G) ⟨⟨_, _, _, _, _, _, _, _, rfl⟩, Same.refl _⟩
      (fun _ _ G _ pv => SqL.of (pv.2 _ _ gL)) (fun i y σ G T hy pv hT => ?_) fun σ G pv => ?_⟩⟩
    · obtain ⟨⟨v2, v3, v4, v5, v6, v7, v8, v9, rfl⟩, sG⟩ := pv
      have hi : i < 35 := by rw [← lR]; exact (List.getElem?_eq_some_iff.mp hy).1
      obtain ⟨t, rfl, e, fl, dl, ws, _, gt, ex, gf, gd, dvs, l4⟩ := (rl.same sG).get hy
      rw [Nat.zero_add] at ex
      have sT : Same G (upd G T (.tup [.int (i : Nat), .ref t])) := same_new hT
      have gT : (upd G T (.tup [.int (i : Nat), .ref t])) T = some (.tup [.int (i : Nat), .ref t]) := upd_same
      generalize upd G T (.tup [.int (i : Nat), .ref t]) = GA at sT gT
      have sGA := sG.trans sT
      replace ex := ex.same sT
      replace gf := sT _ _ gf
      replace gd := sT _ _ gd
      have dv2 : ∀ u ∈ ws, DV PP GA u := fun u m => (dvs u m).same sT
      refine ⟨T, _, rfl, SqT.of gT, rfl, _, _, rfl, _, _, rfl, t, _, rfl, SqT.of (sT _ _ gt), rfl, _, _, rfl, _, _, rfl, _, _, rfl, rfl, rfl, ?_⟩
      change tSeq _ _ _ [some (.ref p), some v, some (.int (i : Nat)), some (.ref e), some (.ref fl), some (.ref dl), v6, v7, v8, v9] _
      refine seq_par2 (x := fam i == 1) (y := fam i == 2) (fun Q q => in_tup rfl (in_miss i hi) rfl rfl (by decide) (fun R r => r) q) (fun G' s Q q => in_tup rfl (in_barr i hi) rfl rfl (by decide) (fun R r => r) q) fun GB sB => ?_
      refine seq_lst (and_nnc rfl rfl (fam_not i) ⟨_, rfl, _, rfl, by show 3 ≤ sizeLine; decide, fun U hU => ?_⟩)
      have sC : Same GB (upd GB U (.lst [.bl (fam i == 0), .bl (fam i == 1), .bl (fam i == 2)])) := same_new hU
      have gU : (upd GB U (.lst [.bl (fam i == 0), .bl (fam i == 1), .bl (fam i == 2)])) U = some (.lst [.bl (fam i == 0), .bl (fam i == 1), .bl (fam i == 2)]) := upd_same
      generalize upd GB U (.lst [.bl (fam i == 0), .bl (fam i == 1), .bl (fam i == 2)]) = GC at sC gU
      have sAC := sB.trans sC
      dsimp only [gName]
      change tSeq _ _ _ [some (.ref p), some v, some (.int (i : Nat)), some (.ref e), some (.ref fl), some (.ref dl), some (.bl (fam i == 1)), some (.bl (fam i == 2)), some (.ref U), v9] _
      refine ⟨_, rfl, e, i, rfl, hi, ex.same sAC, fun L1 GD sD gL1 => ⟨_, rfl, by show 1 ≤ sizeLine; decide, fun U2 hU2 => ?_⟩⟩
      have sE : Same GD (upd GD U2 (.lst [.int (i : Nat)])) := same_new hU2
      have gU2 : (upd GD U2 (.lst [.int (i : Nat)])) U2 = some (.lst [.int (i : Nat)]) := upd_same
      generalize upd GD U2 (.lst [.int (i : Nat)]) = GE at sE gU2
      have sAE := (sAC.trans sD).trans sE
      have shI : SeqAt.shaped (.list [.int (i : Nat)]) = true := shaped_ints [(i : Int)]
      refine ⟨.list [.int (i : Nat)], .list [.int (i : Nat)], .lst (SqL.of (sE _ _ gL1)) (.cons (.int _) .nil), .lst (SqL.of gU2) (.cons (.int _) .nil), shI, shI, _, rfl, iteN (by rw [SeqAt.eqv_refl _ (SeqAt.canLay_of_shaped shI)]; rfl) ?_⟩
      obtain ⟨ts, rits, lts, nts⟩ := rits_dv (K := K) fun u m => (dv2 u m).same sAE
      have lT : (listText ts).length ≤ sizeLine := by
        have := listText_len_le ts
        rw [sizeLine_eq]
        omega
      refine ⟨_, rfl, fl, ws, ts, rfl, sAE _ _ gf, rits, lT, _, rfl, dl, ws, ts, rfl, sAE _ _ gd, rits, lT, rfl, _, rfl, iteNS rfl ?_⟩
      refine ⟨_, rfl, e, cs i, fam i, rfl, ex.same sAE, Z.fk i hi, fun L2 GF_ sF gL2 => ⟨_, rfl, _, rfl, U, _, 0, _, rfl, rfl, SqL.of (sF _ _ (sE _ _ (sD _ _ gU))), rfl, _, rfl, orc rfl rfl ⟨by show 3 ≤ sizeLine; decide, fun U3 hU3 => ?_⟩⟩⟩
      refine cat_new (sF _ _ (sE _ _ (sD _ _ gU))) hU3 (by show 3 + 3 ≤ 1000; decide) fun N GG sG3 _ gN => ?_
      have shB := shaped_bls (famL (fam i))
      refine ⟨_, _, .lst (SqL.of (sG3 _ _ gL2)) (bls (famL (fam i))), .lst (SqL.of gN) (bls (famL (fam i))), shB, shB, _, rfl, iteN (by rw [SeqAt.eqv_refl _ (SeqAt.canLay_of_shaped shB)]; rfl) ?_⟩
      exact ⟨⟨_, _, _, _, _, _, _, _, rfl⟩, (sGA.trans sAE).trans (sF.trans sG3)⟩
    · obtain ⟨⟨v2, v3, v4, v5, v6, v7, v8, v9, rfl⟩, sG⟩ := pv
      refine seq_lst (mkBc oxF fun b1 G1 s1 x1 => mkBc oxM fun b2 G2 s2 x2 => mkBc oxB fun b3 G3' s3 x3 => ⟨by show 3 ≤ sizeLine; decide, fun S hS => ?_⟩)
      have s4 : Same G3' (upd G3' S (.lst [.ref b1, .ref b2, .ref b3])) := same_new hS
      have gS : (upd G3' S (.lst [.ref b1, .ref b2, .ref b3])) S = some (.lst [.ref b1, .ref b2, .ref b3]) := upd_same
      generalize upd G3' S (.lst [.ref b1, .ref b2, .ref b3]) = G4 at s4 gS
      replace x1 := x1.same ((s2.trans s3).trans s4)
      replace x2 := x2.same (s3.trans s4)
      replace x3 := x3.same s4
      have s04 := (sG.trans s1).trans ((s2.trans s3).trans s4)
      have hB : ∀ j y, [V.ref b1, .ref b2, .ref b3][j]? = some y → ∃ b C, y = .ref b ∧ ExG G4 b C ∧ FamK K cF cM cB C j := fun j y e => by
        match j, e with
        | 0, e => cases e; exact ⟨_, _, rfl, x1, fkF⟩
        | 1, e => cases e; exact ⟨_, _, rfl, x2, fkM⟩
        | 2, e => cases e; exact ⟨_, _, rfl, x3, fkB⟩
      dsimp only [gName]
      change tRet _ _ [some (.ref p), some v, v2, v3, v4, v5, v6, v7, v8, some (.ref S)] _
      refine ⟨_, rfl, S, rfl, ⟨_, SqL.of gS⟩, fun D hD => lc_list (K := K) (a := S) (xs := [.ref b1, .ref b2, .ref b3]) (fun j G => Same G4 G ∧ ∃ ls : List Addr, G D = some (.lst (ls.map V.ref)) ∧ ls.length = j ∧ ∀ k l, ls[k]? = some l → l ≠ D ∧ G l = some (.lst (((famL k).take 3).map V.bl))) ⟨same_new hD, [], upd_same, rfl, fun _ _ e => nomatch e⟩
        (fun j G _ pv => SqL.of (pv.1 _ _ gS)) (fun j y G hy pv => ?_) fun G pv => ?_⟩
      · obtain ⟨sQ, ls, gD, ll, hl⟩ := pv
        obtain ⟨b, C, rfl, xb, fk⟩ := hB j y hy
        refine ⟨rfl, _, rfl, b, C, j, rfl, xb.same sQ, fk, fun L GX sX gL => ?_⟩
        have cut : cutV ((famL j).map V.bl) none (some 3) = ((famL j).take 3).map V.bl := rfl
        refine ⟨3, rfl, L, _, rfl, SqL.of gL, fun p2 hp np => ?_⟩
        rw [cut]
        have sY : Same GX (upd GX p2 (.lst (((famL j).take 3).map V.bl))) := same_new hp
        have gY : (upd GX p2 (.lst (((famL j).take 3).map V.bl))) p2 = some (.lst (((famL j).take 3).map V.bl)) := upd_same
        have nY : p2 ≠ D := ne_free (sX _ _ gD) hp
        generalize upd GX p2 (.lst (((famL j).take 3).map V.bl)) = GY at sY gY
        refine ⟨_, sY _ _ (sX _ _ gD), by rw [List.length_map, sizeLine_eq]; have : j < 3 := (List.getElem?_eq_some_iff.mp hy).1; omega, fun a o e => ?_, ls ++ [p2], by rw [upd_same, List.map_append]; rfl, by rw [List.length_append, ll]; rfl, fun k l e => ?_⟩
        · rw [upd_ne (ne_of_none e hD)]
          exact sY _ _ (sX _ _ (sQ _ _ e))
        · by_cases lt : k < ls.length
          · rw [List.getElem?_append_left lt] at e
            obtain ⟨nl, gl⟩ := hl k l e
            exact ⟨nl, by rw [upd_ne nl]; exact sY _ _ (sX _ _ gl)⟩
          · rw [List.getElem?_append_right (by omega)] at e
            have k0 : k - ls.length = 0 := by
              have := (List.getElem?_eq_some_iff.mp e).1
              rw [List.length_singleton] at this
              omega
            rw [k0] at e
            cases e
            have : k = j := by omega
            subst this
            exact ⟨nY, by rw [upd_ne nY]; exact gY⟩
      · obtain ⟨sQ, ls, gD, ll, hl⟩ := pv
        match ls, ll with
        | [l0, l1, l2], _ =>
        have e0 := (hl 0 l0 rfl).2
        have e1 := (hl 1 l1 rfl).2
        have e2 := (hl 2 l2 rfl).2
        refine ⟨by show 3 ≤ sizeLine; decide, fun A1' hA1 => ⟨by show 3 ≤ sizeLine; decide, fun A2 hA2 => ⟨by show 3 ≤ sizeLine; decide, fun A3 hA3 => ⟨by show 3 ≤ sizeLine; decide, fun A4 hA4 => ?_⟩⟩⟩⟩
        have u1 : Same G (upd G A1' (.lst [.bl true, .bl false, .bl false])) := same_new hA1
        have u2 : Same _ (upd (upd G A1' (.lst [.bl true, .bl false, .bl false])) A2 (.lst [.bl false, .bl true, .bl false])) := same_new hA2
        have u3 : Same _ (upd (upd (upd G A1' (.lst [.bl true, .bl false, .bl false])) A2 (.lst [.bl false, .bl true, .bl false])) A3 (.lst [.bl false, .bl false, .bl true])) := same_new hA3
        have u4 : Same _ (upd (upd (upd (upd G A1' (.lst [.bl true, .bl false, .bl false])) A2 (.lst [.bl false, .bl true, .bl false])) A3 (.lst [.bl false, .bl false, .bl true])) A4 (.lst [.ref A1', .ref A2, .ref A3])) := same_new hA4
        have w1 := u4 _ _ (u3 _ _ (u2 _ _ (upd_same (H := G) (a := A1') (o := .lst [.bl true, .bl false, .bl false]))))
        have w2 := u4 _ _ (u3 _ _ (upd_same (H := upd G A1' (.lst [.bl true, .bl false, .bl false])) (a := A2) (o := .lst [.bl false, .bl true, .bl false])))
        have w3 := u4 _ _ (upd_same (H := upd (upd G A1' (.lst [.bl true, .bl false, .bl false])) A2 (.lst [.bl false, .bl true, .bl false])) (a := A3) (o := .lst [.bl false, .bl false, .bl true]))
        have w4 := upd_same (H := upd (upd (upd G A1' (.lst [.bl true, .bl false, .bl false])) A2 (.lst [.bl false, .bl true, .bl false])) A3 (.lst [.bl false, .bl false, .bl true])) (a := A4) (o := .lst [.ref A1', .ref A2, .ref A3])
        have uu := ((u1.trans u2).trans u3).trans u4
        generalize upd (upd (upd (upd G A1' (.lst [.bl true, .bl false, .bl false])) A2 (.lst [.bl false, .bl true, .bl false])) A3 (.lst [.bl false, .bl false, .bl true])) A4 (.lst [.ref A1', .ref A2, .ref A3]) = G5 at u4 w1 w2 w3 w4 uu
        refine ⟨.list [.list [.bool true, .bool false, .bool false], .list [.bool false, .bool true, .bool false], .list [.bool false, .bool false, .bool true]], .list [.list [.bool true, .bool false, .bool false], .list [.bool false, .bool true, .bool false], .list [.bool false, .bool false, .bool true]],
          .lst (SqL.of (uu _ _ gD)) (.cons (.lst (SqL.of (uu _ _ e0)) (bls [true, false, false])) (.cons (.lst (SqL.of (uu _ _ e1)) (bls [false, true, false])) (.cons (.lst (SqL.of (uu _ _ e2)) (bls [false, false, true])) .nil))),
          .lst (SqL.of w4) (.cons (.lst (SqL.of w1) (bls [true, false, false])) (.cons (.lst (SqL.of w2) (bls [false, true, false])) (.cons (.lst (SqL.of w3) (bls [false, false, true])) .nil))), by decide +kernel, by decide +kernel, ?_⟩
        rw [show PyData.eqv (.list [.list [.bool true, .bool false, .bool false], .list [.bool false, .bool true, .bool false], .list [.bool false, .bool false, .bool true]]) (.list [.list [.bool true, .bool false, .bool false], .list [.bool false, .bool true, .bool false], .list [.bool false, .bool false, .bool true]]) = true by decide +kernel]
        refine q G5 ((k02.trans k3).trans (kp_same ((s04.trans sQ).trans uu))) ?_
        exact (pu3.same ((s04.trans sQ).trans uu)).mono (by omega)
end
end A1
end Bf

namespace Bf
open PySem PySem.Spec PyProof.Rows L2
namespace A1
/-- a thing of the law: data within P, or the refusal -/
def Ob (cK : Addr) (P : Addr → Prop) (G : Hp) (x : V) : Prop := (∃ b d, Sh G P b x d ∧ fit 10 3 d ∧ sl d ≤ 1000) ∨ ∃ e, x = .ref e ∧ ExV G e cK "no kind"
theorem ExV.kpt {a C : Addr} {z : Str} {G G' : Hp} (k : ∀ b o, G b = some o → (∀ xs, o ≠ .lst xs) → G' b = some o) (h : ExV G a C z) : ExV G' a C z := by
  obtain ⟨d, t, fs, h1, h2, h3⟩ := h
  refine ⟨d, t, fs, k _ _ h1 fun xs z => ?_, k _ _ h2 fun xs z => ?_, k _ _ h3 fun xs z => ?_⟩
  · have z' : HO.ext _ = HO.lst xs := z
    cases z'
  · have z' : HO.ext _ = HO.lst xs := z
    cases z'
  · cases z
section
variable {cK p : Addr} {P P' : Addr → Prop} {G G' : Hp} {x k : V} {n : Int} {K : PySem.W.Frag} {cd : ClassData}
theorem Ob.same (s : Same G G') (h : Ob cK P G x) : Ob cK P G' x := by
  rcases h with ⟨b, d, sh, r⟩ | ⟨e, rfl, ev⟩
  · exact .inl ⟨b, d, sh_kp (kp_same s) sh, r⟩
  · exact .inr ⟨e, rfl, ev.same s⟩
theorem Ob.on (hp : ∀ a, P a → P' a) (h : Ob cK P G x) : Ob cK P' G x := by
  rcases h with ⟨b, d, sh, r⟩ | ⟨e, rfl, ev⟩
  · exact .inl ⟨b, d, Sh.on (fun a _ f _ => hp a f) (fun _ _ _ e => e) d x sh, r⟩
  · exact .inr ⟨e, rfl, ev⟩
theorem Ob.kp (hp : ∀ a, P a → a ≠ p) (pu : Purse G p n) (kp : Kp (· ≠ p) G G') (h : Ob cK P G x) : Ob cK P G' x := by
  rcases h with ⟨b, d, sh, r⟩ | ⟨e, rfl, ev⟩
  · exact .inl ⟨b, d, sh_kp (fun a o f e => kp a o (hp a f) e) sh, r⟩
  · obtain ⟨_, _, _, gp, _⟩ := pu
    exact .inr ⟨e, rfl, ExV.kpt (fun b o e nl => kp b o (fun z => by rw [z, gp] at e; exact nl _ (Option.some.inj e).symm) e) ev⟩
theorem Ob.keeps (hp : ∀ a, P a → k ≠ .ref a) (kp : Keeps k G G') (h : Ob cK P G x) : Ob cK P G' x := by
  rcases h with ⟨b, d, sh, r⟩ | ⟨e, rfl, ev⟩
  · exact .inl ⟨b, d, sh_kp (fun a o f e => kp a o e fun xs z => absurd z (hp a f)) sh, r⟩
  · exact .inr ⟨e, rfl, ExV.kpt (fun b o e nl => kp b o e fun xs _ => nl xs) ev⟩
theorem Ob.th (ef : ExF K cK cd) (ek : ExK K cK) (el : (excTold cd "no kind").length ≤ 1000) (h : Ob cK P G x) : ∃ o t, Th K G x o ∧ RIt K G x t ∧ t.length ≤ 1000 := by
  rcases h with ⟨b, d, sh, ft, l⟩ | ⟨e, rfl, ev⟩
  · obtain ⟨it, il⟩ := rit_of (K := K) sh ft (by decide)
    exact ⟨_, _, .dat (sh_da (by decide) d x ft sh), it, Nat.le_trans il l⟩
  · exact ⟨_, _, .exc ev.g ek, .exc ev ef, el⟩
theorem Ob.tv {k' m : Nat} (h : TV P G 10 k' m x) (hk : k' ≤ 3) (hm : m ≤ 1000) : Ob cK P G x := by
  obtain ⟨d, sh, ft, l⟩ := h
  exact .inl ⟨false, d, sh, fit_mono (Nat.le_refl _) d hk ft, Nat.le_trans l hm⟩
theorem kv_addr {v : V} {a : Addr} (h : KV P G v) (e : v = .ref a) : P a := by
  subst e
  obtain ⟨d, sh, _⟩ := h
  cases sh with
  | lst _ p _ _ => exact p
  | tup _ p _ => exact p
  | emp hb _ _ => cases hb
theorem kv_trk {v : V} {a : Addr} (h : KV P G v) (e : v = .ref a) : ∃ o, G a = some o := by
  subst e
  obtain ⟨d, sh, _⟩ := h
  cases sh with
  | lst h _ _ _ => exact ⟨_, h⟩
  | tup h _ _ => exact ⟨_, h⟩
  | emp hb _ _ => cases hb
theorem nums_nv {xs : List V} {ds : List PyData} (r : ShAll G P false xs ds) (ho : ∀ d ∈ ds, numOk d) : ∀ v ∈ xs, NV v := fun v m => by
  obtain ⟨i, ei⟩ := List.mem_iff_getElem?.mp m
  obtain ⟨d, ed, sd⟩ := shA_get r ei
  exact nv_of sd (ho d (List.mem_of_getElem? ed))
theorem nums_fit {xs : List V} (h : ∀ v ∈ xs, NV v) (l : xs.length ≤ 4) : ∃ ds, ShAll G P false xs ds ∧ (∀ d ∈ ds, fit 10 2 d) ∧ ds.length ≤ 4 ∧ slA ds ≤ 64 := by
  obtain ⟨ds, o, e, s⟩ := nvs (P := P) (G := G) h
  have := slA_le (n := 14) fun d m => (num_fit (w := 10) (k := 0) (o d m)).2.1
  exact ⟨ds, s, fun d m => (num_fit (o d m)).1, by omega, by omega⟩
/-- the kind, grown if it is a list -/
theorem kind_grown {v : V} (h : KV P G v) (kp : Keeps v G G') (gr : Grown v G G') : Ob cK P G' v := by
  obtain ⟨e, sh, ko⟩ := h
  cases ko with
  | one o =>
    obtain ⟨d, o2, ⟨i, rfl, rfl⟩ | ⟨b, rfl, rfl⟩⟩ := nv_of sh o
    · exact .inl ⟨false, _, .int i, (num_fit o2).1, Nat.le_trans (num_fit (w := 10) (k := 0) o2).2.1 (by decide)⟩
    · exact .inl ⟨false, _, .bl b, (num_fit o2).1, Nat.le_trans (num_fit (w := 10) (k := 0) o2).2.1 (by decide)⟩
  | tup ho lo =>
    cases sh with
    | tup h pa r =>
      have ln := shAll_len r
      obtain ⟨ds', s, f, l, sl'⟩ := nums_fit (P := P) (G := G') (nums_nv r ho) (by omega)
      exact .inl ⟨false, .tuple ds', .tup (kp _ _ h fun xs _ z => by cases z) pa s, fit_tup.mpr ⟨by omega, f⟩, by rw [sl_tup]; omega⟩
  | lst ho lo =>
    cases sh with
    | @lst a xs _ h pa _ r =>
      have ln := shAll_len r
      have g := gr a xs rfl h
      have nv : ∀ v ∈ xs ++ [V.int 0], NV v := fun v m => by
        rcases List.mem_append.mp m with m | m
        · exact nums_nv r ho v m
        · rw [List.mem_singleton.mp m]
          exact .int (by decide) (by decide)
      obtain ⟨ds', s, f, l, sl'⟩ := nums_fit (P := P) (G := G') nv (by rw [List.length_append, List.length_singleton]; omega)
      exact .inl ⟨false, .list ds', .lst g pa (fun z => nomatch z) s, fit_lst.mpr ⟨by omega, f⟩, by rw [sl_lst]; omega⟩
theorem obs_rits (ef : ExF K cK cd) (ek : ExK K cK) (el : (excTold cd "no kind").length ≤ 1000) : ∀ {xs : List V}, (∀ x ∈ xs, Ob cK P G x) → ∃ ts, RIts K G xs ts ∧ (ts.map (·.length)).sum ≤ 1000 * xs.length ∧ ts.length = xs.length
  | [], _ => ⟨[], .nil, Nat.le_refl _, rfl⟩
  | x :: xs, h => by
    obtain ⟨o, t, _, it, l⟩ := (h x List.mem_cons_self).th ef ek el
    obtain ⟨ts, a, c, e⟩ := obs_rits ef ek el fun u m => h u (List.mem_cons_of_mem _ m)
    exact ⟨t :: ts, .cons it a, by rw [List.map_cons, List.sum_cons, List.length_cons]; omega, by rw [List.length_cons, List.length_cons, e]⟩
theorem cut_mem {xs : List V} {lo hi : Option Int} {x : V} (m : x ∈ cutV xs lo hi) : x ∈ xs := List.mem_of_mem_drop (List.mem_of_mem_take m)
theorem mkCc {σ : L2.St} {H : Hp} {C : Addr} {z f : Str} {y : V} {tr : TA} {R : List V → Hp → Prop} (q : ∀ a G, Same H G → ExVf G a C z [(f, y)] → tr σ G fun xs H2 => R (.ref a :: xs) H2) : tCons (tMkT C (spIn C z [f]) (tCons (tC y) tNil)) tr σ H R :=
  mk_n (ws := [y]) (Q := fun w G => tr σ G fun xs H2 => R (w :: xs) H2) rfl (by show 1 ≤ 4; decide) (fun a G s e => q a G s e) fun R r => r
theorem lt_txt {ts : List Str} {m : Nat} (h : (ts.map (·.length)).sum ≤ 1000 * m) (e : ts.length = m) (l : m ≤ 100) : (listText ts).length ≤ sizeLine := by
  have := listText_len_le ts
  rw [sizeLine_eq]
  omega
theorem bl_len : ∀ bs : List Bool, ((bs.map fun c => PyData.shown (.bool c)).map (·.length)).sum ≤ 1000 * bs.length ∧ (bs.map fun c => PyData.shown (.bool c)).length = bs.length
  | [] => ⟨Nat.le_refl _, rfl⟩
  | b :: r => by
    have := (bl_len r).1
    have h : (PyData.shown (.bool b)).length ≤ 5 := by cases b <;> decide
    exact ⟨by rw [List.map_cons, List.map_cons, List.sum_cons, List.length_cons]; omega, by rw [List.length_map]⟩
theorem bl_its {H : Hp} : ∀ bs : List Bool, RIts K H (bs.map V.bl) (bs.map fun c => PyData.shown (.bool c))
  | [] => .nil
  | b :: r => .cons (bl_it b) (bl_its r)
end
section
variable {P : Program} {w : World} {K : PySem.W.Frag} {mg : Str → Option Value} {base : Heap} {cd : ClassData}
def spLaw (K : PySem.W.Frag) : Sp := fun vs H Q _ => ∃ (a : Addr) (ns : List Int), vs = [.ref a] ∧ SqL K H a (ns.map V.int) ∧ ns.length ≤ 63 ∧ ∀ H', Q (.bl true) H'
abbrev nLaw : List Str := ["_law_script", "_law_k", "_law_purse_here", "_law_turn", "_law_low", "_law_high", "_law_kind", "_law_things", "_law_kept", "_law_thing", "_law_lap", "_law_found", "_law_due"]
theorem scLaw : FnScope nLaw ["_law_script"] (defScope sLaw) := ⟨rfl, rfl, rfl, by decide +kernel, rfl, by decide +kernel, by decide +kernel⟩
set_option maxHeartbeats 8000000 in
theorem ok_law {f fc fp fr fn fnk fnn fnc fnw f1 f2 f3 f4 f5 f6 f7 f8 fw fI cK : Addr} {fd dc dp dr dn dnk dnn dnc dnw d1 d2 d3 d4 d5 d6 d7 d8 dw dI : FuncData} {B : String} (F : Fun K "law" "law" sLaw f fd)
    (DC : Df K mg "_law_cell" fc dc ["_law_script", "_law_k"]) (GC : FnOk P w K mg base CX0 1 fc dc ["_law_script", "_law_k"] (spCell K)) (DP : Df K mg "_law_purse" fp dp ["_law_cell_here"]) (GP : FnOk P w K mg base CX0 1 fp dp ["_law_cell_here"] spPurse)
    (DR : Df K mg "_law_refusals_right" fr dr ["_law_purse_here"]) (GR : FnG P w K mg base CX0 6 fr dr ["_law_purse_here"] spRefs) (DN : Df K mg "_law_number" fn dn ["_law_purse_here"]) (GN : FnOk P w K mg base CX0 3 fn dn ["_law_purse_here"] spNumb)
    (DNK : Df K mg "_law_near_kind" fnk dnk ["_law_purse_here"]) (GNK : FnOk P w K mg base CX0 2 fnk dnk ["_law_purse_here"] spNK) (DNN : Df K mg "_law_near_name" fnn dnn ["_law_purse_here"]) (GNN : FnOk P w K mg base CX0 2 fnn dnn ["_law_purse_here"] spNN)
    (DNC : Df K mg "_law_near_clock" fnc dnc ["_law_purse_here"]) (GNC : FnOk P w K mg base CX0 3 fnc dnc ["_law_purse_here"] spNC) (DNW : Df K mg "_law_near_worth" fnw dnw pNW) (GNW : FnOk P w K mg base CX0 3 fnw dnw pNW (spNW true))
    (D1 : Df K mg "is_whole" f1 d1 ["thing", "low", "high"]) (G1 : FnOk P w K mg base CX0 2 f1 d1 ["thing", "low", "high"] (spWhole K)) (D2 : Df K mg "is_name" f2 d2 ["thing"]) (G2 : FnOk P w K mg base CX0 1 f2 d2 ["thing"] (spName K))
    (D3 : Df K mg "is_kind" f3 d3 ["thing"]) (G3 : FnOk P w K mg base CX0 4 f3 d3 ["thing"] (spKind K)) (D4 : Df K mg "is_clock" f4 d4 ["thing"]) (G4 : FnOk P w K mg base CX0 5 f4 d4 ["thing"] (spClock K))
    (D5 : Df K mg "_law_is_number" f5 d5 nLNum) (G5 : FnOk P w K mg base CX0 1 f5 d5 nLNum (spWhole K)) (D6 : Df K mg "_law_is_name" f6 d6 ["_law_thing"]) (G6 : FnOk P w K mg base CX0 1 f6 d6 ["_law_thing"] (spName K))
    (D7 : Df K mg "_law_is_kind" f7 d7 nLIsKind) (G7 : FnOk P w K mg base CX0 2 f7 d7 nLIsKind (spKind K)) (D8 : Df K mg "_law_is_clock" f8 d8 ["_law_thing"]) (G8 : FnOk P w K mg base CX0 2 f8 d8 ["_law_thing"] (spClock K))
    (DW : Df K mg "_law_worth_right" fw dw pCaught) (GW : FnG P w K mg base CX0 7 fw dw pCaught (spWR K))
    (gK : mg "NoKind" = some (.ref cK)) (ox : OexG K cK B) (iC : PySem.W.findIn K (.ref cK) "__init__" = some (some (.ref fI))) (tI : PySem.W.typeIn K (.ref fI) = some (.type "function")) (bdI : Binds K dI ["self", "found"] [])
    (GI : FnOk P w K mg base CX0 3 fI dI ["self", "found"] (spIn cK "no kind" ["found"])) (ef : ExF K cK cd) (ek : ExK K cK) (el : (excTold cd "no kind").length ≤ 1000)
    (mx : mg "max" = none) (mn : mg "min" = none) (mr : mg "range" = none) (ml : mg "len" = none) (mp : mg "repr" = none) : FnG P w K mg base CX0 8 f fd ["_law_script"] (spLaw K) := by
  refine Fun.okG F scLaw (fun vs H Q E h => ?_) (fun cdv A outer s H vs Q E hA hr h => ?_)
  · obtain ⟨a, ns, rfl, _⟩ := h
    rfl
  · obtain ⟨a, ns, rfl, hS, hl, q⟩ := h
    have hr1 := hr.mono (by decide : 1 ≤ 7)
    have hr2 := hr.mono (by decide : 2 ≤ 7)
    have hr3 := hr.mono (by decide : 3 ≤ 7)
    have hr4 := hr.mono (by decide : 4 ≤ 7)
    have hr5 := hr.mono (by decide : 5 ≤ 7)
    have hr6 := hr.mono (by decide : 6 ≤ 7)
    have hA' : (A.deeper (envOfC "law" (defScope sLaw) s.heap.objs.size f cdv)).guards = some [] := hA
    refine ⟨_, (pss_cons (ps_for PassesOwn.leaving rfl (pi_range1 (by rfl) mr (pa_cons (pe_callB (call_max2 rfl) (by rfl) mx (by decide +kernel) (pa_cons pe_int (pa_cons (pe_callB (call_min2 rfl) (by rfl) mn (by decide +kernel) (pa_cons pe_int (pa_cons (pe_callB call_len_seq (by rfl) ml PySem.boot_len (pa_cons (pv 0) pa_nil)) pa_nil))) pa_nil))) pa_nil)) (pg_name (i := 1) scLaw.nd rfl (Or.inl rfl)) (pss_cons (ps_set (i := 2) scLaw.nd rfl (Or.inl rfl) (pe_call GP hr1 (by rfl) DP.at_ DP.kp DP.bd .nil pass0 (pa_cons (pe_call GC hr1 (by rfl) DC.at_ DC.kp DC.bd .nil pass0 (pa_cons (pv 0) (pa_cons (pv 1) pa_nil))) pa_nil)))
        (pss_cons (ps_if (pt_not (pt_val (pe_callG GR hA' hr6 (by rfl) DR.at_ DR.kp DR.bd pass0 (pa_cons (pv 2) pa_nil)))) (pss_one (ps_ret pe_bl)) pss_nil)
        (pss_one (ps_for PassesOwn.leaving rfl (pi_range1 (by rfl) mr (pa_cons pe_int pa_nil)) (pg_name (i := 3) scLaw.nd rfl (Or.inl rfl)) (pss_cons (ps_par (i := 4) (j := 5) rfl scLaw.nd rfl rfl (by decide) rfl rfl (pa_cons (pe_call GN hr3 (by rfl) DN.at_ DN.kp DN.bd .nil pass0 (pa_cons (pv 2) pa_nil)) (pa_cons (pe_call GN hr3 (by rfl) DN.at_ DN.kp DN.bd .nil pass0 (pa_cons (pv 2) pa_nil)) pa_nil)) rfl)
        (pss_cons (ps_set (i := 6) scLaw.nd rfl (Or.inl rfl) (pe_call GNK hr2 (by rfl) DNK.at_ DNK.kp DNK.bd .nil pass0 (pa_cons (pv 2) pa_nil)))
        (pss_cons (ps_set (i := 7) scLaw.nd rfl (Or.inl rfl) (pe_lst (pa_cons (pe_call GN hr3 (by rfl) DN.at_ DN.kp DN.bd .nil pass0 (pa_cons (pv 2) pa_nil)) (pa_cons (pe_call GNN hr2 (by rfl) DNN.at_ DNN.kp DNN.bd .nil pass0 (pa_cons (pv 2) pa_nil)) (pa_cons (pe_call GNC hr3 (by rfl) DNC.at_ DNC.kp DNC.bd .nil pass0 (pa_cons (pv 2) pa_nil)) (pa_cons (pv 6) (pa_cons pe_non (pa_cons pe_str (pa_cons (pe_lst pa_nil) (pa_cons pe_dnewK (pa_cons pe_bl pa_nil)))))))))))
        (pss_cons (ps_set (i := 7) scLaw.nd rfl (Or.inl rfl) (pe_op op_catN (pv 7) (pe_lst (pa_cons (pe_tup pa_nil) (pa_cons (pe_mkG ox iC tI GI hr4 bdI pass0 (by rfl) gK (pa_cons pe_str pa_nil)) (pa_cons (pe_tup (pa_cons pe_int pa_nil)) (pa_cons (pe_tup (pa_cons pe_str (pa_cons pe_int pa_nil))) (pa_cons (pe_call GNW hr3 (by rfl) DNW.at_ DNW.kp DNW.bd .nil pass0 (pa_cons (pv 2) (pa_cons (pv 6) pa_nil))) (pa_cons (pe_lst (pa_cons pe_str pa_nil)) (pa_cons (pe_op op_pow pe_int pe_int) pa_nil))))))))))
        (pss_cons (ps_set (i := 8) scLaw.nd rfl (Or.inl rfl) (pe_callB (call_reprX hA' hr.units) (by rfl) mp (by decide +kernel) (pa_cons (pe_slice sl_listN (pv 7) po_none (po_some (pe_un un_neg pe_int))) pa_nil)))
        (pss_cons (ps_for PassesOwn.leaving rfl (pi_list (pv 7)) (pg_name (i := 9) scLaw.nd rfl (Or.inl rfl)) (pss_one (ps_for PassesOwn.leaving rfl (pi_range1 (by rfl) mr (pa_cons pe_int pa_nil)) (pg_name (i := 10) scLaw.nd rfl (Or.inl rfl)) (pss_cons (ps_set (i := 11) scLaw.nd rfl (Or.inl rfl) (pe_lst (pa_cons (pe_call G1 hr2 (by rfl) D1.at_ D1.kp D1.bd .nil pass0 (pa_cons (pv 9) (pa_cons (pv 4) (pa_cons (pv 5) pa_nil)))) (pa_cons (pe_call G2 hr1 (by rfl) D2.at_ D2.kp D2.bd .nil pass0 (pa_cons (pv 9) pa_nil)) (pa_cons (pe_call G3 hr4 (by rfl) D3.at_ D3.kp D3.bd .nil pass0 (pa_cons (pv 9) pa_nil)) (pa_cons (pe_call G4 hr5 (by rfl) D4.at_ D4.kp D4.bd .nil pass0 (pa_cons (pv 9) pa_nil)) pa_nil))))))
        (pss_cons (ps_set (i := 12) scLaw.nd rfl (Or.inl rfl) (pe_lst (pa_cons (pe_call G5 hr1 (by rfl) D5.at_ D5.kp D5.bd .nil pass0 (pa_cons (pv 9) (pa_cons (pv 4) (pa_cons (pv 5) pa_nil)))) (pa_cons (pe_call G6 hr1 (by rfl) D6.at_ D6.kp D6.bd .nil pass0 (pa_cons (pv 9) pa_nil)) (pa_cons (pe_call G7 hr2 (by rfl) D7.at_ D7.kp D7.bd .nil pass0 (pa_cons (pv 9) pa_nil)) pa_nil)))))
        (pss_one (ps_if (pt_cmpR op_ne (pe_callB (call_reprX hA' hr.units) (by rfl) mp (by decide +kernel) (pa_cons (pv 11) pa_nil)) (pe_callB (call_reprX hA' hr.units) (by rfl) mp (by decide +kernel) (pa_cons (pe_op op_catN (pv 12) (pe_lst (pa_cons (pe_call G8 hr2 (by rfl) D8.at_ D8.kp D8.bd .nil pass0 (pa_cons (pv 9) pa_nil)) pa_nil))) pa_nil)) (nomark _)) (pss_one (ps_ret pe_bl)) pss_nil)))))))
        (pss_cons (ps_if (PW.pt (pw_or (pt_cmpR op_ne (pe_callB (call_reprX hA' hr.units) (by rfl) mp (by decide +kernel) (pa_cons (pe_slice sl_listN (pv 7) po_none (po_some (pe_un un_neg pe_int))) pa_nil)) (pv 8) (nomark _)) (pw_or1 (pt_not (pt_val (pe_callG GW hA' hr (by rfl) DW.at_ DW.kp DW.bd pass0 (pa_cons (pe_call GNW hr3 (by rfl) DNW.at_ DNW.kp DNW.bd .nil pass0 (pa_cons (pv 2) (pa_cons (pv 6) pa_nil))) (pa_cons (pv 6) pa_nil)))))))) (pss_one (ps_ret pe_bl)) pss_nil)
        (pss_one (ps_for PassesOwn.leaving rfl (pi_list (pv 7)) (pg_name (i := 9) scLaw.nd rfl (Or.inl rfl)) (pss_one (ps_if (pt_not (pt_val (pe_callG GW hA' hr (by rfl) DW.at_ DW.kp DW.bd pass0 (pa_cons (pv 9) (pa_cons (pe_call GNK hr2 (by rfl) DNK.at_ DNK.kp DNK.bd .nil pass0 (pa_cons (pv 2) pa_nil)) pa_nil))))) (pss_one (ps_ret pe_bl)) pss_nil))))))))))))))))
        (pss_one (ps_ret pe_bl))), ?_⟩
    have hcnt : ∀ l : Nat, 0 ≤ (if (if (l : Int) < 12 then (l : Int) else 12) > 2 then (if (l : Int) < 12 then (l : Int) else 12) else (2 : Int)) ∧ (if (if (l : Int) < 12 then (l : Int) else 12) > 2 then (if (l : Int) < 12 then (l : Int) else 12) else (2 : Int)) ≤ 12 := by
      intro l
      split <;> split <;> omega
    obtain ⟨c0, c8⟩ := hcnt (ns.map V.int).length
    refine ⟨_, rfl, a, _, rfl, .inl hS, _, _, rfl, _, _, rfl, _, rfl, Int.le_trans (by decide) c0, Int.lt_of_le_of_lt c8 (by decide), for_range (lo := 0) (n := _) (fun i σ H1 => (∃ v1 v2 v3 v4 v5 v6 v7 v8 v9 v10 v11 v12, σ = [some (.ref a), v1, v2, v3, v4, v5, v6, v7, v8, v9, v10, v11, v12]) ∧ SqL K H1 a (ns.map V.int))
      ⟨⟨_, _, _, _, _, _, _, _, _, _, _, _, rfl⟩, hS⟩ (fun i σ H1 hi pv => ?_) fun σ H1 pv => q H1⟩
    obtain ⟨⟨v1, v2, v3, v4, v5, v6, v7, v8, v9, v10, v11, v12, rfl⟩, hS1⟩ := pv
    have hi8 : (i : Int) ≤ 12 := by omega
    refine ⟨_, rfl, _, rfl, a, ns, 0 + (i : Int), rfl, hS1, by omega, by omega, fun cell => ⟨cell, rfl, fun p H2 hp np eq2 pu2 => ?_⟩⟩
    have s2 : Same H1 H2 := fun b o e => (eq2 b (ne_of_none e hp)).trans e
    have back : ∀ {G : Hp}, Kp (· ≠ p) H2 G → SqL K G a (ns.map V.int) := fun k => Same.seq (fun b o e => k b o (ne_of_none e hp) (s2 b o e)) hS1
    clear c0 c8 hcnt eq2 np
    dsimp only [gName]
    change tSeq _ _ _ [some (.ref a), some (.int (0 + (i : Int))), some (.ref p), v3, v4, v5, v6, v7, v8, v9, v10, v11, v12] _
    refine ⟨_, rfl, p, 0, rfl, pu2, by decide, fun Ga ka pa => ⟨_, rfl, iteF ?_⟩⟩
    refine ⟨6, rfl, by decide, by decide, for_range (lo := 0) (n := 6) (fun j σ G => (∃ w3 w4 w5 w6 w7 w8 w9 w10 w11 w12, σ = [some (.ref a), some (.int (0 + (i : Int))), some (.ref p), w3, w4, w5, w6, w7, w8, w9, w10, w11, w12]) ∧ Kp (· ≠ p) H2 G ∧ Purse G p (5 + 300 * (j : Int)))
      ⟨⟨_, _, _, _, _, _, _, _, _, _, rfl⟩, ka, pa.mono (by omega)⟩ (fun j σ G hj pv => ?_) fun σ G pv => ?_⟩
    · obtain ⟨⟨w3, w4, w5, w6, w7, w8, w9, w10, w11, w12, rfl⟩, kG, pG⟩ := pv
      have hj6 : (j : Int) ≤ 6 := by omega
      dsimp only [gName]
      change tSeq _ _ _ [some (.ref a), some (.int (0 + (i : Int))), some (.ref p), some (.int (0 + (j : Int))), w4, w5, w6, w7, w8, w9, w10, w11, w12] _
      refine ⟨_, rfl, p, _, rfl, pG, by omega, fun lo Gb hlo kb pb => ⟨_, rfl, p, _, rfl, pb, by omega, fun up Gc hup kc pc => ⟨_, _, rfl, ?_⟩⟩⟩
      change tSeq _ _ _ [some (.ref a), some (.int (0 + (i : Int))), some (.ref p), some (.int (0 + (j : Int))), some (.int lo), some (.int up), w6, w7, w8, w9, w10, w11, w12] _
      refine ⟨_, rfl, p, _, rfl, pc, by omega, fun k Gd kv kd pd => ?_⟩
      have kd2 := ((kG.trans kb).trans kc).trans kd
      have knew : ∀ b o, b ≠ p → H2 b = some o → k ≠ .ref b := fun b o nb e z => by
        have h0 := (kv_addr kv z).2
        rw [((kG.trans kb).trans kc) b o nb e] at h0
        cases h0
      clear kb kc kd pb pc pG kG
      have kvp : KV (· ≠ p) Gd k := let ⟨e, sh, o⟩ := kv; ⟨e, Sh.on (fun _ _ f _ => f.1) (fun _ _ _ e => e) e k sh, o⟩
      clear kv
      dsimp only [gName]
      change tSeq _ _ _ [some (.ref a), some (.int (0 + (i : Int))), some (.ref p), some (.int (0 + (j : Int))), some (.int lo), some (.int up), some k, w7, w8, w9, w10, w11, w12] _
      -- the nine
      refine seq_lst ⟨_, rfl, p, _, rfl, pd, by omega, fun i0 Ge hi0 ke pe => ⟨_, rfl, p, _, rfl, pe, by omega, fun z Gf nz kf pf => ⟨_, rfl, p, _, rfl, pf, by omega, fun cl Gg tc kg pg => ⟨_, rfl, by show 0 ≤ sizeLine; decide, fun l1 hl1 => fun d1 hd1 => ⟨by show 9 ≤ sizeLine; decide, fun L0 hL0 => ?_⟩⟩⟩⟩⟩
      have kdg := (ke.trans kf).trans kg
      have off : ∀ {G : Hp}, Kp (· ≠ p) Gd G → ∀ b, b ≠ p ∧ G b = none → b ≠ p ∧ k ≠ .ref b := fun kk b h => ⟨h.1, fun e => by
        obtain ⟨o, g⟩ := kv_trk kvp e
        have := kk _ _ h.1 g
        rw [h.2] at this
        cases this⟩
      have tc1 : TV (fun b => b ≠ p ∧ k ≠ .ref b) Gg 10 3 1000 cl := tc.on fun b h => off (ke.trans kf) b h
      have sg1 : Same Gg (upd Gg l1 (.lst [])) := same_new hl1
      have sg2 : Same _ (upd (upd Gg l1 (.lst [])) d1 (.dK [])) := same_new hd1
      have sg3 : Same _ (upd (upd (upd Gg l1 (.lst [])) d1 (.dK [])) L0 (.lst [.int i0, .str z, cl, k, .non, .str "", .ref l1, .ref d1, .bl true])) := same_new hL0
      have gl1 := sg3 _ _ (sg2 _ _ (upd_same (H := Gg) (a := l1) (o := .lst [])))
      have gd1 := sg3 _ _ (upd_same (H := upd Gg l1 (.lst [])) (a := d1) (o := .dK []))
      have gL0 : (upd (upd (upd Gg l1 (.lst [])) d1 (.dK [])) L0 (.lst [.int i0, .str z, cl, k, .non, .str "", .ref l1, .ref d1, .bl true])) L0 = some (.lst [.int i0, .str z, cl, k, .non, .str "", .ref l1, .ref d1, .bl true]) := upd_same
      have nL0 : L0 ≠ p := ((pg.same sg1).same sg2).ne hL0
      have pl1 := off kdg l1 ⟨pg.ne hl1, hl1⟩
      have pd1 := off kdg d1 ⟨(pg.same sg1).ne hd1, sg1.free hd1⟩
      have sgh := (sg1.trans sg2).trans sg3
      generalize (upd (upd (upd Gg l1 (.lst [])) d1 (.dK [])) L0 (.lst [.int i0, .str z, cl, k, .non, .str "", .ref l1, .ref d1, .bl true])) = Gh at sg3 gl1 gd1 gL0 sgh
      clear sg1 sg2 sg3 hl1 hd1 hL0
      have ph := pg.same sgh
      have kdh : Kp (· ≠ p) Gd Gh := kdg.trans (kp_same sgh)
      have nine : ∀ x ∈ [.int i0, .str z, cl, k, .non, .str "", .ref l1, .ref d1, .bl true], x = k ∨ Ob cK (fun b => b ≠ p ∧ k ≠ .ref b) Gh x := fun x m => by
        simp only [List.mem_cons, List.not_mem_nil, or_false] at m
        rcases m with rfl | rfl | rfl | rfl | rfl | rfl | rfl | rfl | rfl
        · exact .inr (.inl ⟨false, _, .int _, fit_int.mpr hi0, Nat.le_trans (sl_io hi0) (by decide)⟩)
        · exact .inr (Ob.tv (k' := 0) (TV.str' nz (by decide)) (by decide) (by decide))
        · exact .inr (Ob.tv (tc1.kp (kp_same sgh)) (by decide) (by decide))
        · exact .inl rfl
        · exact .inr (Ob.tv (k' := 0) TV.non (by decide) (by decide))
        · exact .inr (Ob.tv (k' := 0) (TV.str (by decide +kernel) (by decide)) (by decide) (by decide))
        · exact .inr (.inl ⟨false, .list [], .lst gl1 pl1 (fun z => nomatch z) .nil, fit_lst.mpr ⟨by decide, fitA_nil⟩, by decide +kernel⟩)
        · exact .inr (.inl ⟨true, .dict [], .emp rfl gd1 pd1, by simp only [fit], by simp only [sl]; decide⟩)
        · exact .inr (Ob.tv (k' := 0) TV.bl (by decide) (by decide))
      clear tc tc1 gl1 gd1 pl1 pd1 nz hi0
      dsimp only [gName]
      change tSeq _ _ _ [some (.ref a), some (.int (0 + (i : Int))), some (.ref p), some (.int (0 + (j : Int))), some (.int lo), some (.int up), some k, some (.ref L0), w8, w9, w10, w11, w12] _
      -- the seven
      refine seq_cat rfl ⟨by show 0 ≤ sizeLine; decide, fun t1 ht1 => mkCc fun e Gi se ev => ⟨by show 1 ≤ sizeLine; decide, fun t2 ht2 => ⟨by show 2 ≤ sizeLine; decide, fun t3 ht3 => ?_⟩⟩⟩
      have u1 : Same Gh (upd Gh t1 (.tup [])) := same_new ht1
      have u2 : Same Gi (upd Gi t2 (.tup [.int 1])) := same_new ht2
      have u3 : Same _ (upd (upd Gi t2 (.tup [.int 1])) t3 (.tup [.str "a", .int 1])) := same_new ht3
      have u23 := u2.trans u3
      have k1i := kdh.trans (kp_same (u1.trans se))
      have pi1 := (ph.same u1).same se
      have o1 : Ob cK (fun b => b ≠ p ∧ k ≠ .ref b) (upd Gh t1 (.tup [])) (.ref t1) := .inl ⟨false, .tuple [], .tup upd_same (off kdh t1 ⟨ph.ne ht1, ht1⟩) .nil, fit_tup.mpr ⟨by decide, fitA_nil⟩, by decide +kernel⟩
      have o2 : Ob cK (fun b => b ≠ p ∧ k ≠ .ref b) Gi (.ref e) := .inr ⟨e, rfl, ev.ev⟩
      have o3 : Ob cK (fun b => b ≠ p ∧ k ≠ .ref b) (upd Gi t2 (.tup [.int 1])) (.ref t2) := .inl ⟨false, .tuple [.int 1], .tup upd_same (off k1i t2 ⟨pi1.ne ht2, ht2⟩) (.cons (.int 1) .nil), fit_tup.mpr ⟨by decide, fitA_cons (int_fit (by decide) (by decide)) fitA_nil⟩, by decide +kernel⟩
      have o4 : Ob cK (fun b => b ≠ p ∧ k ≠ .ref b) (upd (upd Gi t2 (.tup [.int 1])) t3 (.tup [.str "a", .int 1])) (.ref t3) := .inl ⟨false, .tuple [.str "a", .int 1], .tup upd_same (off (k1i.trans (kp_same u2)) t3 ⟨(pi1.same u2).ne ht3, ht3⟩) (.cons (.str "a") (.cons (.int 1) .nil)), fit_tup.mpr ⟨by decide, fitA_cons (fit_str.mpr (by decide +kernel)) (fitA_cons (int_fit (by decide) (by decide)) fitA_nil)⟩, by decide +kernel⟩
      replace o1 := (o1.same se).same u23
      replace o2 := o2.same u23
      replace o3 := o3.same u3
      generalize upd (upd Gi t2 (.tup [.int 1])) t3 (.tup [.str "a", .int 1]) = Gj at u3 u23 o1 o2 o3 o4
      have shj := (u1.trans se).trans u23
      have pj := ph.same shj
      have kdj : Kp (· ≠ p) Gd Gj := kdh.trans (kp_same shj)
      refine ⟨_, rfl, _, rfl, p, _, k, rfl, pj, by rw [if_pos rfl]; omega, kvp.kp kdj, .inl rfl, fun x1 Gk tw _ kk pk => ⟨by show 1 ≤ sizeLine; decide, fun l2 hl2 => ⟨_, _, rfl, rfl, ⟨by decide, by decide, by decide⟩, by show 7 ≤ sizeLine; decide, fun L1' hL1 => ?_⟩⟩⟩
      rw [if_pos rfl] at pk
      have kdk := kdj.trans kk
      have u4 : Same Gk (upd Gk l2 (.lst [.str "a"])) := same_new hl2
      have o6 : Ob cK (fun b => b ≠ p ∧ k ≠ .ref b) (upd Gk l2 (.lst [.str "a"])) (.ref l2) := .inl ⟨false, .list [.str "a"], .lst upd_same (off kdk l2 ⟨pk.ne hl2, hl2⟩) (fun z => nomatch z) (.cons (.str "a") .nil), fit_lst.mpr ⟨by decide, fitA_cons (fit_str.mpr (by decide +kernel)) fitA_nil⟩, by decide +kernel⟩
      have o5 : Ob cK (fun b => b ≠ p ∧ k ≠ .ref b) Gk x1 := Ob.tv (tw.on fun b h => off kdj b h) (by decide) (by decide)
      refine cat_new (u4 _ _ (kk _ _ nL0 (shj _ _ gL0))) hL1 (by show 9 + 7 ≤ 1000; decide) fun N Gx sx nN gN => ?_
      have ukx := u4.trans sx
      have khx : Kp (· ≠ p) Gh Gx := ((kp_same shj).trans kk).trans (kp_same ukx)
      have kjx : Kp (· ≠ p) Gj Gx := kk.trans (kp_same ukx)
      have px := pk.same ukx
      have both : ∀ x ∈ [.int i0, .str z, cl, k, .non, .str "", .ref l1, .ref d1, .bl true] ++ [.ref t1, .ref e, .ref t2, .ref t3, x1, .ref l2, .int (10 ^ 29)], x = k ∨ Ob cK (fun b => b ≠ p ∧ k ≠ .ref b) Gx x := fun x m => by
        rcases List.mem_append.mp m with m | m
        · exact (nine x m).imp id fun o => o.kp (fun _ h => h.1) ph khx
        · refine .inr ?_
          simp only [List.mem_cons, List.not_mem_nil, or_false] at m
          rcases m with rfl | rfl | rfl | rfl | rfl | rfl | rfl
          · exact o1.kp (fun _ h => h.1) pj kjx
          · exact o2.kp (fun _ h => h.1) pj kjx
          · exact o3.kp (fun _ h => h.1) pj kjx
          · exact o4.kp (fun _ h => h.1) pj kjx
          · exact o5.same ukx
          · exact o6.same sx
          · exact .inl ⟨false, _, .int _, fit_int.mpr (.inr (.inl rfl)), by decide +kernel⟩
      have lxs : ([.int i0, .str z, cl, k, .non, .str "", .ref l1, .ref d1, .bl true] ++ [.ref t1, .ref e, .ref t2, .ref t3, x1, .ref l2, .int (10 ^ 29)] : List V).length = 16 := rfl
      have k2x : Kp (· ≠ p) H2 Gx := (kd2.trans kdh).trans khx
      have kvx := (kvp.kp kdh).kp khx
      replace gN : Gx N = some (.lst ([.int i0, .str z, cl, k, .non, .str "", .ref l1, .ref d1, .bl true] ++ [.ref t1, .ref e, .ref t2, .ref t3, x1, .ref l2, .int (10 ^ 29)])) := gN
      have nNp : N ≠ p := fun e => by
        obtain ⟨_, _, _, gp, _⟩ := px
        rw [e, gp] at gN
        exact absurd (congrArg List.length (HO.lst.inj (Option.some.inj gN))) (by show ¬ (3 = 16); decide)
      generalize [.int i0, .str z, cl, k, .non, .str "", .ref l1, .ref d1, .bl true] ++ [.ref t1, .ref e, .ref t2, .ref t3, x1, .ref l2, .int (10 ^ 29)] = xs at gN both lxs
      clear nine o1 o2 o3 o4 o5 o6 u1 u2 u3 u23 se ev shj pj kdj tw kk pk hl2 hL1 u4 sx ukx khx kjx ph kdh gL0 sgh off kdg ke kf kg pe pf pg kvp kd2 pd kdk ht1 ht2 ht3 k1i pi1 pa ka
      have all0 : ∀ x ∈ xs, Ob cK (· ≠ p) Gx x := fun x m => by
        rcases both x m with rfl | o
        · exact Ob.tv kvx.tv (by decide) (by decide)
        · exact o.on fun _ h => h.1
      dsimp only [gName]
      change tSeq _ _ _ [some (.ref a), some (.int (0 + (i : Int))), some (.ref p), some (.int (0 + (j : Int))), some (.int lo), some (.int up), some k, some (.ref N), w8, w9, w10, w11, w12] _
      -- what is kept
      obtain ⟨ts, rts, lts, nts⟩ := obs_rits (cK := cK) (cd := cd) (P := (· ≠ p)) (G := Gx) ef ek el (xs := cutV xs none (some (-2))) fun x m => all0 x (cut_mem m)
      have lk := lt_txt lts nts (Nat.le_trans (cutV_length xs none (some (-2))) (by omega))
      refine ⟨_, rfl, 2, rfl, -2, rfl, N, _, rfl, SqL.of gN, fun S hS _ => ⟨S, _, ts, rfl, upd_same, rts.same (same_new hS), lk, ?_⟩⟩
      have sS : Same Gx (upd Gx S (.lst (cutV xs none (some (-2))))) := same_new hS
      generalize upd Gx S (.lst (cutV xs none (some (-2)))) = Gy at sS
      dsimp only [gName]
      change tSeq _ _ _ [some (.ref a), some (.int (0 + (i : Int))), some (.ref p), some (.int (0 + (j : Int))), some (.int lo), some (.int up), some k, some (.ref N), some (.str (listText ts)), w9, w10, w11, w12] _
      -- asked twice
      refine ⟨_, rfl, N, rfl, ⟨_, SqL.of (sS _ _ gN)⟩, for_list (K := K) (a := N) (xs := xs) (fun _ σ G => (∃ w9 w10 w11 w12, σ = [some (.ref a), some (.int (0 + (i : Int))), some (.ref p), some (.int (0 + (j : Int))), some (.int lo), some (.int up), some k, some (.ref N), some (.str (listText ts)), w9, w10, w11, w12]) ∧ Same Gx G)
        ⟨⟨_, _, _, _, rfl⟩, sS⟩ (fun _ _ _ _ pv => SqL.of (pv.2 _ _ gN)) (fun i2 x σ G hx pv => ?_) fun σ G pv => ?_⟩
      · obtain ⟨⟨w9, w10, w11, w12, rfl⟩, sG⟩ := pv
        obtain ⟨o, t, th, _, _⟩ := (all0 x (List.mem_of_getElem? hx)).th ef ek el
        dsimp only [gName]
        refine ⟨2, rfl, by decide, by decide, for_range (lo := 0) (n := 2) (fun _ σ G => (∃ w10 w11 w12, σ = [some (.ref a), some (.int (0 + (i : Int))), some (.ref p), some (.int (0 + (j : Int))), some (.int lo), some (.int up), some k, some (.ref N), some (.str (listText ts)), some x, w10, w11, w12]) ∧ Same Gx G)
          ⟨⟨_, _, _, rfl⟩, sG⟩ (fun i3 σ G hi3 pv => ?_) fun σ G pv => ?_⟩
        · obtain ⟨⟨w10, w11, w12, rfl⟩, sG⟩ := pv
          replace th := th.same sG
          dsimp only [gName]
          change tSeq _ _ _ [some (.ref a), some (.int (0 + (i : Int))), some (.ref p), some (.int (0 + (j : Int))), some (.int lo), some (.int up), some k, some (.ref N), some (.str (listText ts)), some x, some (.int (0 + (i3 : Int))), w11, w12] _
          refine seq_lst ⟨_, rfl, _, rfl, _, rfl, x, _, lo, up, rfl, th.kn, _, rfl, x, o, rfl, th, fun Ha sa => ⟨_, rfl, x, o, rfl, th.same sa, _, rfl, x, o, rfl, th.same sa, fun Hb sb => ⟨by show 4 ≤ sizeLine; decide, fun Lf hLf => ?_⟩⟩⟩
          have sf : Same Hb (upd Hb Lf (.lst [.bl (wholeB x lo up), .bl (nameO o), .bl (kindO o), .bl (clockO o)])) := same_new hLf
          have gf : (upd Hb Lf (.lst [.bl (wholeB x lo up), .bl (nameO o), .bl (kindO o), .bl (clockO o)])) Lf = some (.lst [.bl (wholeB x lo up), .bl (nameO o), .bl (kindO o), .bl (clockO o)]) := upd_same
          generalize upd Hb Lf (.lst [.bl (wholeB x lo up), .bl (nameO o), .bl (kindO o), .bl (clockO o)]) = Hc at sf gf
          have sc := (sa.trans sb).trans sf
          dsimp only [gName]
          change tSeq _ _ _ [some (.ref a), some (.int (0 + (i : Int))), some (.ref p), some (.int (0 + (j : Int))), some (.int lo), some (.int up), some k, some (.ref N), some (.str (listText ts)), some x, some (.int (0 + (i3 : Int))), some (.ref Lf), w12] _
          refine seq_lst ⟨_, rfl, _, rfl, _, rfl, x, _, lo, up, rfl, (th.same sc).kn, _, rfl, x, o, rfl, th.same sc, fun Hd sd => ⟨_, rfl, x, o, rfl, (th.same sc).same sd, ⟨by show 3 ≤ sizeLine; decide, fun Lg hLg => ?_⟩⟩⟩
          have sg : Same Hd (upd Hd Lg (.lst [.bl (wholeB x lo up), .bl (nameO o), .bl (kindO o)])) := same_new hLg
          have gg : (upd Hd Lg (.lst [.bl (wholeB x lo up), .bl (nameO o), .bl (kindO o)])) Lg = some (.lst [.bl (wholeB x lo up), .bl (nameO o), .bl (kindO o)]) := upd_same
          generalize upd Hd Lg (.lst [.bl (wholeB x lo up), .bl (nameO o), .bl (kindO o)]) = He at sg gg
          have se := (sc.trans sd).trans sg
          have gf2 := sg _ _ (sd _ _ gf)
          dsimp only [gName]
          change tIfS _ _ _ _ [some (.ref a), some (.int (0 + (i : Int))), some (.ref p), some (.int (0 + (j : Int))), some (.int lo), some (.int up), some k, some (.ref N), some (.str (listText ts)), some x, some (.int (0 + (i3 : Int))), some (.ref Lf), some (.ref Lg)] _
          have bl := bl_len [wholeB x lo up, nameO o, kindO o, clockO o]
          have bt := lt_txt bl.1 bl.2 (by show 4 ≤ 100; decide)
          refine ⟨_, rfl, Lf, _, _, rfl, gf2, bl_its [wholeB x lo up, nameO o, kindO o, clockO o], bt, _, rfl, _, rfl, x, o, rfl, th.same se, fun Hf sf2 => ⟨by show 1 ≤ sizeLine; decide, fun U hU => cat_new (sf2 _ _ gg) hU (by show 3 + 1 ≤ 1000; decide) fun N2 Hg s3 _ gN2 => ⟨N2, _, _, rfl, gN2, bl_its [wholeB x lo up, nameO o, kindO o, clockO o], bt, rfl, _, rfl, iteNS rfl ?_⟩⟩⟩
          exact ⟨⟨_, _, _, rfl⟩, sG.trans (se.trans (sf2.trans s3))⟩
        · obtain ⟨⟨w10, w11, w12, rfl⟩, sG⟩ := pv
          exact ⟨⟨_, _, _, _, rfl⟩, sG⟩
      · obtain ⟨⟨w9, w10, w11, w12, rfl⟩, sG⟩ := pv
        change tSeq _ _ _ [some (.ref a), some (.int (0 + (i : Int))), some (.ref p), some (.int (0 + (j : Int))), some (.int lo), some (.int up), some k, some (.ref N), some (.str (listText ts)), w9, w10, w11, w12] _
        refine ⟨_, rfl, 2, rfl, -2, rfl, N, _, rfl, SqL.of (sG _ _ gN), fun S2 hS2 _ => ⟨S2, _, ts, rfl, upd_same, (rts.same sG).same (same_new hS2), lk, ?_⟩⟩
        have sS2 : Same G (upd G S2 (.lst (cutV xs none (some (-2))))) := same_new hS2
        generalize upd G S2 (.lst (cutV xs none (some (-2)))) = Gz at sS2
        have sxz := sG.trans sS2
        have pz := px.same sxz
        refine ⟨_, rfl, rfl, _, rfl, iteNS rfl ?_⟩
        have kvz : KV (· ≠ p) Gz k := kvx.kp (kp_same sxz)
        refine ⟨_, rfl, _, rfl, p, _, k, rfl, pz, by rw [if_pos rfl]; omega, kvz, .inl rfl, fun x2 Ha tw _ ka pa => ?_⟩
        rw [if_pos rfl] at pa
        obtain ⟨ek_, shk, ok_⟩ := kvz.kp ka
        have kva : KV (· ≠ p) Ha k := ⟨ek_, shk, ok_⟩
        obtain ⟨o2, t2, th2, it2, le2⟩ := (Ob.tv (cK := cK) tw (by decide) (by decide)).th ef ek el
        refine ⟨_, rfl, x2, k, o2, t2, _, ek_, rfl, ⟨th2, it2, Nat.le_trans le2 (by decide)⟩, shk, ok_, fun Hb kp gr => ⟨_, rfl, iteF ?_⟩⟩
        have kb : Kp (· ≠ p) Gx Ha := (kp_same sxz).trans ka
        have allb : ∀ x ∈ xs, Ob cK (· ≠ p) Hb x := fun x m => by
          rcases both x m with rfl | o
          · exact kind_grown kva kp gr
          · exact ((o.kp (fun _ h => h.1) px kb).keeps (fun _ h => h.2) kp).on fun _ h => h.1
        have npk : k ≠ .ref p := fun e => kv_addr kva e rfl
        have pb : Purse Hb p (5 + 300 * (j : Int) + 200) := by
          obtain ⟨q1, q2, q3, gq, r1, r2, r3, r4⟩ := pa
          exact ⟨q1, q2, q3, kp _ _ gq fun _ z => absurd z npk, r1, r2, r3, by omega⟩
        have gNa := kb _ _ nNp gN
        have gNb : Hb N = some (.lst xs) := kp _ _ gNa fun ys z => by
          obtain ⟨d, sh, ko⟩ := kva
          subst z
          cases sh with
          | lst h _ _ r =>
            rw [gNa] at h
            cases h
            cases ko with
            | one o => obtain ⟨_, z, _⟩ := o; cases z
            | lst ho lo' =>
              have := shAll_len r
              omega
          | tup h _ r =>
            rw [gNa] at h
            cases h
          | emp hb _ _ => cases hb
        have kHb : Kp (· ≠ p) H2 Hb := fun b o nb e => kp b o (kb b o nb (k2x b o nb e)) fun xs z => absurd z (knew b o nb e)
        clear kp gr kva pa ka kb sxz pz kvz tw th2 it2 shk ok_ sS2 sG
        refine ⟨_, rfl, N, rfl, ⟨_, SqL.of gNb⟩, for_list (K := K) (a := N) (xs := xs) (fun i4 σ G => (∃ w9 w10 w11 w12, σ = [some (.ref a), some (.int (0 + (i : Int))), some (.ref p), some (.int (0 + (j : Int))), some (.int lo), some (.int up), some k, some (.ref N), some (.str (listText ts)), w9, w10, w11, w12]) ∧ Kp (· ≠ p) Hb G ∧ Purse G p (5 + 300 * (j : Int) + 200 + 5 * (i4 : Int)))
          ⟨⟨_, _, _, _, rfl⟩, fun _ _ _ e => e, pb.mono (by omega)⟩ (fun _ _ _ _ pv => SqL.of (pv.2.1 _ _ nNp gNb)) (fun i4 x σ G hx pv => ?_) fun σ G pv => ?_⟩
        · obtain ⟨⟨w9, w10, w11, w12, rfl⟩, kG, pG⟩ := pv
          have hi4 : i4 < 16 := by rw [← lxs]; exact (List.getElem?_eq_some_iff.mp hx).1
          have ob := (allb x (List.mem_of_getElem? hx)).kp (fun _ h => h) pb kG
          dsimp only [gName]
          change tIfS _ _ _ _ [some (.ref a), some (.int (0 + (i : Int))), some (.ref p), some (.int (0 + (j : Int))), some (.int lo), some (.int up), some k, some (.ref N), some (.str (listText ts)), some x, w10, w11, w12] _
          refine ⟨_, rfl, _, rfl, p, _, rfl, pG, by omega, fun v Hc kvv kc pc => ?_⟩
          obtain ⟨o, t, th, it, le⟩ := (ob.kp (fun _ h => h) pG kc).th ef ek el
          obtain ⟨ev_, shv, okv⟩ := kvv
          have kvv : KV (fun b => b ≠ p ∧ G b = none) Hc v := ⟨ev_, shv, okv⟩
          refine ⟨x, v, o, t, _, ev_, rfl, ⟨th, it, Nat.le_trans le (by decide)⟩, shv, okv, fun Hd kp gr => ⟨_, rfl, iteF ?_⟩⟩
          refine ⟨⟨_, _, _, _, rfl⟩, kG.trans fun b o nb e => kp b o (kc b o nb e) fun xs z => ?_, ?_⟩
          · have h0 := (kv_addr kvv z).2
            rw [e] at h0
            cases h0
          · obtain ⟨q1, q2, q3, gq, r1, r2, r3, r4⟩ := pc
            exact ⟨q1, q2, q3, kp _ _ gq fun _ z => absurd rfl (kv_addr kvv z).1, r1, r2, r3, by omega⟩
        · obtain ⟨⟨w9, w10, w11, w12, rfl⟩, kG, pG⟩ := pv
          rw [lxs] at pG
          exact ⟨⟨_, _, _, _, _, _, _, _, _, _, rfl⟩, kHb.trans kG, pG.mono (by omega)⟩
    · obtain ⟨⟨w3, w4, w5, w6, w7, w8, w9, w10, w11, w12, rfl⟩, kG, pG⟩ := pv
      exact ⟨⟨_, _, _, _, _, _, _, _, _, _, _, _, rfl⟩, back kG⟩
end
end A1
end Bf

namespace Bf
open PySem PySem.Spec PyProof.Rows L2 PySem.HandSPX
theorem ref_ne {a b : Addr} (h : a ≠ b) : (Value.ref a == Value.ref b) = false := beq_eq_false_iff_ne.mpr fun e => h (Value.ref.inj e)
theorem EC.of {K : PySem.W.Frag} {nm q : Str} {C N : Addr} {bs bm : List Value} {sn : List Str} {sub : List Value} {ab : Bool} {col : Option Bool} {dd : Option Addr} {k0 k1 k2 k3 k5 : Option Value} {newId : String}
    (x : K.lookup C = some (excClassObj nm q C N bs bm true sn sub ab col dd k0 k1 k2 k3 k5 newId)) (t : PySem.W.typeIn K (.ref C) = some (.type "type")) : EC K C bm :=
  ⟨⟨{ name := nm, bases := bs, mro := .ref C :: bm, ns := N, qualname := q, hasDict := true, slotNames := sn, subclasses := sub, abstract := ab, collection := col, hasDel := false }, by unfold PySem.W.clsIn; rw [x] <;> rfl, rfl⟩, t⟩
theorem EC.exc {K : PySem.W.Frag} {C : Addr} {bm : List Value} (c : EC K C bm) (ga : PySem.W.findIn K (.ref C) "__getattribute__" = some (some (.builtin "BaseException.__getattribute__"))) (gg : PySem.W.findIn K (.ref C) "__getattr__" = some none)
    (hb : bm.contains (.type "BaseException") = true) (ho : bm.contains (.type "object") = true) (hd : PySem.W.hasDictIn K C = true) (ha : PySem.W.findIn K (.ref C) "__class__" = some (some (.builtin "object.__class__")))
    (hn : PySem.W.specialIn K (.builtin "object.__class__") "__get__" = some (some (.builtin "getset_descriptor.__get__"))) (ht : PySem.W.takesIn K (.builtin "object.__class__") = some true) : ExcC K C :=
  ⟨ga, gg, by rw [c.sub, has_ref, hb], hd, ha, hn, ht, by
    have z := c.sub (.type "object")
    rw [has_ref, ho] at z
    exact z⟩
theorem ExcC.xf {K : PySem.W.Frag} {C : Addr} (c : ExcC K C) : XfC K C := ⟨c.hg, c.hk, c.hs, c.hd⟩
namespace A1
abbrev tlF : Nat → List Value
  | 0 => veTail
  | 1 => keTail
  | _ => leTail
theorem ve_ref (a : Addr) : veTail.contains (.ref a) = false := rfl
theorem ke_ref (a : Addr) : keTail.contains (.ref a) = false := rfl
theorem le_ref (a : Addr) : leTail.contains (.ref a) = false := rfl
theorem tl_ref (j : Nat) (a : Addr) : (tlF j).contains (.ref a) = false := by
  match j with
  | 0 => rfl
  | 1 => rfl
  | _ + 2 => rfl
theorem tl_base (j : Nat) : (tlF j).contains (.type "BaseException") = true := by
  match j with
  | 0 => decide +kernel
  | 1 => decide +kernel
  | _ + 2 => show leTail.contains (.type "BaseException") = true; decide +kernel
theorem tl_obj (j : Nat) : (tlF j).contains (.type "object") = true := by
  match j with
  | 0 => decide +kernel
  | 1 => decide +kernel
  | _ + 2 => show leTail.contains (.type "object") = true; decide +kernel
theorem c2 {C b D : Addr} {tl : List Value} (h : tl.contains (.ref D) = false) (n : C ≠ D) : (Value.ref C :: .ref b :: tl).contains (.ref D) = (Value.ref D == Value.ref b) := by
  rw [List.contains_cons, List.contains_cons, h, ref_ne n.symm, Bool.false_or, Bool.or_false]
theorem c1 {C D : Addr} {tl : List Value} (h : tl.contains (.ref D) = false) : (Value.ref C :: tl).contains (.ref D) = (Value.ref D == Value.ref C) := by
  rw [List.contains_cons, h, Bool.or_false]
theorem ref_self (a : Addr) : (Value.ref a == Value.ref a) = true := beq_self_eq_true _
section
variable {K : PySem.W.Frag} {mg : Str → Option Value} {cF cM cB C : Addr}
theorem famT {j : Nat} (hj : j < 3) {bm : List Value} (h : ∀ T : String, bm.contains (.type T) = (tlF j).contains (.type T)) (c : EC K C bm) :
    PySem.W.kitOne K (.ref C) (.type "ValueError") = some (j == 0) ∧ PySem.W.kitOne K (.ref C) (.type "KeyError") = some (j == 1) ∧ PySem.W.kitOne K (.ref C) (.type "LookupError") = some (j == 1 || j == 2) := by
  rw [c.kt (by decide +kernel), c.kt (by decide +kernel), c.kt (by decide +kernel), h, h, h]
  match j, hj with
  | 0, _ => decide +kernel
  | 1, _ => decide +kernel
  | 2, _ => decide +kernel
/-- a refusal's class -/
theorem famK_mk {j : Nat} (hj : j < 3) (c : EC K C (.ref ([cF, cM, cB].getD j 0) :: tlF j)) (dF : EC K cF veTail) (dM : EC K cM keTail) (dB : EC K cB leTail) (ec : ExcC K C) (n1 : C ≠ cF) (n2 : C ≠ cM) (n3 : C ≠ cB) (n4 : cF ≠ cM) (n5 : cF ≠ cB) (n6 : cM ≠ cB) :
    FamK K cF cM cB C j := by
  obtain ⟨t1, t2, t3⟩ := famT hj (fun T => has_ref (tlF j)) c
  refine ⟨ec, ?_, ?_, ?_, t1, t2, t3⟩
  · rw [c.kr dF, c2 (tl_ref _ _) n1]
    match j, hj with
    | 0, _ => exact congrArg some (ref_self _)
    | 1, _ => exact congrArg some (ref_ne n4)
    | 2, _ => exact congrArg some (ref_ne n5)
  · rw [c.kr dM, c2 (tl_ref _ _) n2]
    match j, hj with
    | 0, _ => exact congrArg some (ref_ne n4.symm)
    | 1, _ => exact congrArg some (ref_self _)
    | 2, _ => exact congrArg some (ref_ne n6)
  · rw [c.kr dB, c2 (tl_ref _ _) n3]
    match j, hj with
    | 0, _ => exact congrArg some (ref_ne n5.symm)
    | 1, _ => exact congrArg some (ref_ne n6.symm)
    | 2, _ => exact congrArg some (ref_self _)
/-- a family's own class -/
theorem famB_mk {j : Nat} (hj : j < 3) (dF : EC K cF veTail) (dM : EC K cM keTail) (dB : EC K cB leTail) (c : EC K ([cF, cM, cB].getD j 0) (tlF j)) (ec : ExcC K ([cF, cM, cB].getD j 0)) (n4 : cF ≠ cM) (n5 : cF ≠ cB) (n6 : cM ≠ cB) : FamK K cF cM cB ([cF, cM, cB].getD j 0) j := by
  obtain ⟨t1, t2, t3⟩ := famT hj (fun T => rfl) c
  refine ⟨ec, ?_, ?_, ?_, t1, t2, t3⟩
  · rw [c.kr dF, c1 (tl_ref _ _)]
    match j, hj with
    | 0, _ => exact congrArg some (ref_self _)
    | 1, _ => exact congrArg some (ref_ne n4)
    | 2, _ => exact congrArg some (ref_ne n5)
  · rw [c.kr dM, c1 (tl_ref _ _)]
    match j, hj with
    | 0, _ => exact congrArg some (ref_ne n4.symm)
    | 1, _ => exact congrArg some (ref_self _)
    | 2, _ => exact congrArg some (ref_ne n6)
  · rw [c.kr dB, c1 (tl_ref _ _)]
    match j, hj with
    | 0, _ => exact congrArg some (ref_ne n5.symm)
    | 1, _ => exact congrArg some (ref_ne n6.symm)
    | 2, _ => exact congrArg some (ref_self _)
theorem nd_ne {L : List Addr} (nd : L.Nodup) {i j : Nat} {a b : Addr} (ei : L[i]? = some a) (ej : L[j]? = some b) (n : i ≠ j) : a ≠ b := by
  obtain ⟨hi, rfl⟩ := List.getElem?_eq_some_iff.mp ei
  obtain ⟨hj, rfl⟩ := List.getElem?_eq_some_iff.mp ej
  rcases Nat.lt_or_gt_of_ne n with h | h
  · exact List.pairwise_iff_getElem.mp nd i j hi hj h
  · exact (List.pairwise_iff_getElem.mp nd j i hj hi h).symm
theorem fam_lt (i : Nat) : fam i < 3 := by
  unfold fam
  split
  · decide
  · split <;> decide
theorem kt_mk (L : List Addr) (hl : L.length = 35) (nd : (L ++ [cF, cM, cB]).Nodup) (g : ∀ i x, NM[i]? = some x → mg x = some (.ref (L.getD i 0))) (gF : mg "FlowError" = some (.ref cF)) (gM : mg "Missing" = some (.ref cM)) (gB : mg "Barred" = some (.ref cB))
    (ecs : ∀ i, i < 35 → EC K (L.getD i 0) (.ref ([cF, cM, cB].getD (fam i) 0) :: tlF (fam i))) (ex : ∀ i, i < 35 → ExcC K (L.getD i 0)) (dF : EC K cF veTail) (dM : EC K cM keTail) (dB : EC K cB leTail) : KT K mg (fun i => L.getD i 0) cF cM cB := by
  have at_ : ∀ i, i < 35 → (L ++ [cF, cM, cB])[i]? = some (L.getD i 0) := fun i hi => by
    rw [List.getElem?_append_left (by omega), List.getD_eq_getElem?_getD, List.getElem?_eq_getElem (by omega)]
    rfl
  have eF : (L ++ [cF, cM, cB])[35]? = some cF := by rw [List.getElem?_append_right (by omega), hl]; rfl
  have eM : (L ++ [cF, cM, cB])[36]? = some cM := by rw [List.getElem?_append_right (by omega), hl]; rfl
  have eB : (L ++ [cF, cM, cB])[37]? = some cB := by rw [List.getElem?_append_right (by omega), hl]; rfl
  have nF : ∀ i, i < 35 → L.getD i 0 ≠ cF := fun i hi => nd_ne nd (at_ i hi) eF (by omega)
  have nM : ∀ i, i < 35 → L.getD i 0 ≠ cM := fun i hi => nd_ne nd (at_ i hi) eM (by omega)
  have nB : ∀ i, i < 35 → L.getD i 0 ≠ cB := fun i hi => nd_ne nd (at_ i hi) eB (by omega)
  refine ⟨g, gF, gM, gB, fun i j hi hj => ?_, fun i hi => famK_mk (fam_lt i) (ecs i hi) dF dM dB (ex i hi) (nF i hi) (nM i hi) (nB i hi) (nd_ne nd eF eM (by decide)) (nd_ne nd eF eB (by decide)) (nd_ne nd eM eB (by decide))⟩
  rw [(ecs i hi).kr (ecs j hj)]
  by_cases e : j = i
  · subst e
    rw [List.contains_cons, ref_self, Bool.true_or, decide_eq_true rfl]
  · have nij := nd_ne nd (at_ i hi) (at_ j hj) (fun z => e z.symm)
    have nb : L.getD j 0 ≠ [cF, cM, cB].getD (fam i) 0 := by
      have hf := fam_lt i
      generalize fam i = m at hf
      match m, hf with
      | 0, _ => exact nF j hj
      | 1, _ => exact nM j hj
      | 2, _ => exact nB j hj
    rw [c2 (tl_ref _ _) nij, ref_ne nb, decide_eq_false e]
theorem nf_cons {p : Str → Prop} {x : Str} {l : List Str} (h : p x) (t : ∀ f ∈ l, p f) : ∀ f ∈ x :: l, p f := fun f m => (List.mem_cons.mp m).elim (fun z => z ▸ h) (t f)
theorem nf_nil {p : Str → Prop} : ∀ f ∈ ([] : List Str), p f := fun _ m => nomatch m
theorem mk_of {P : Program} {w : World} {base : Heap} {L : List Addr} (h : ∀ i, i < 35 → MkC P w K mg base (L.getD i 0) (TX.getD i ("", [])).1 (TX.getD i ("", [])).2) : ∀ i z ns, TX[i]? = some (z, ns) → MkC P w K mg base (L.getD i 0) z ns := fun i z ns e => by
  have a := h i (by
    have := (List.getElem?_eq_some_iff.mp e).1
    have l : TX.length = 35 := rfl
    omega)
  have d : TX.getD i ("", []) = (z, ns) := by rw [List.getD_eq_getElem?_getD, e]; rfl
  rw [d] at a
  exact a
theorem exK_mk {b : Addr} (c : EC K C (.ref b :: veTail)) (ec : ExcC K C) : ExK K C := ⟨ec, fun t m => by
  simp only [List.mem_cons, List.not_mem_nil, or_false] at m
  rcases m with rfl | rfl | rfl | rfl | rfl <;> (rw [c.kt (by decide +kernel), has_ref]; decide +kernel)⟩
theorem nwi_no {P : Program} {w : World} {base : Heap} {k : Nat} {f : Addr} (fd : FuncData) : FnOk P w K mg base CX0 k f fd pNW (spNWI false) := ⟨fun _ _ _ _ h => Bool.noConfusion h.1, fun _ _ _ _ _ _ _ _ _ _ _ _ _ h => Bool.noConfusion h.1⟩
theorem nwi_yes {P : Program} {w : World} {base : Heap} {k : Nat} {f : Addr} {fd : FuncData} (h : FnOk P w K mg base CX0 k f fd pNW (spNW false)) : FnOk P w K mg base CX0 k f fd pNW (spNWI true) := h.imp fun _ _ _ _ q => q.2
theorem told_len {m : Str} (cd : ClassData) (h : cd.name = "NoKind") (l : (Str.ofString ((Str.toString (Str.ofString "NoKind") |>.cutAt '.').getLastD "") ++ Str.ofString "(" ++ reprText m ++ Str.ofString ")").length ≤ 1000 := by decide +kernel) : (excTold cd m).length ≤ 1000 := by
  unfold excTold
  rw [h]
  exact l
end
end A1
end Bf

namespace Bf
open PySem PySem.Spec PyProof.Rows L2 PySem.HandSPX
namespace A1
set_option maxHeartbeats 8000000 in
theorem all_mk {l : PySem.W.OpenLaw} {w : World} {K : PySem.W.Frag} {h : Heap} {mg : Str → Option Value} {fa : Addr} (X : K.In h) (G : h.Ns mainGlobals mg) (hfa : mg "law" = some (.ref fa))
    {fnb : Addr} {odnb annb : Option Addr} {slnb : Array (Option Value)} {ocnb kVnb dcnb pmnb cdnb ctnb : Value}
    {fwh : Addr} {odwh anwh : Option Addr} {slwh : Array (Option Value)} {ocwh kVwh dcwh pmwh cdwh ctwh : Value}
    {fna : Addr} {odna anna : Option Addr} {slna : Array (Option Value)} {ocna kVna dcna pmna cdna ctna : Value}
    {fwi : Addr} {odwi anwi : Option Addr} {slwi : Array (Option Value)} {ocwi kVwi dcwi pmwi cdwi ctwi : Value}
    {ftr : Addr} {odtr antr : Option Addr} {sltr : Array (Option Value)} {octr kVtr dctr pmtr cdtr cttr : Value}
    {fki : Addr} {odki anki : Option Addr} {slki : Array (Option Value)} {ocki kVki dcki pmki cdki ctki : Value}
    {fiw : Addr} {odiw aniw : Option Addr} {sliw : Array (Option Value)} {ociw kViw dciw pmiw cdiw ctiw : Value}
    {fic : Addr} {odic anic : Option Addr} {slic : Array (Option Value)} {ocic kVic dcic pmic cdic ctic : Value}
    {fgr : Addr} {odgr angr : Option Addr} {slgr : Array (Option Value)} {ocgr kVgr dcgr pmgr cdgr ctgr : Value}
    {fwo : Addr} {odwo anwo : Option Addr} {slwo : Array (Option Value)} {ocwo kVwo dcwo pmwo cdwo ctwo : Value}
    {far : Addr} {odar anar : Option Addr} {slar : Array (Option Value)} {ocar kVar dcar pmar cdar ctar : Value}
    {fco : Addr} {odco anco : Option Addr} {slco : Array (Option Value)} {occo kVco dcco pmco cdco ctco : Value}
    {fce : Addr} {odce ance : Option Addr} {slce : Array (Option Value)} {occe kVce dcce pmce cdce ctce : Value}
    {fpu : Addr} {odpu anpu : Option Addr} {slpu : Array (Option Value)} {ocpu kVpu dcpu pmpu cdpu ctpu : Value}
    {fta : Addr} {odta anta : Option Addr} {slta : Array (Option Value)} {octa kVta dcta pmta cdta ctta : Value}
    {fof : Addr} {odof anof : Option Addr} {slof : Array (Option Value)} {ocof kVof dcof pmof cdof ctof : Value}
    {fnu : Addr} {odnu annu : Option Addr} {slnu : Array (Option Value)} {ocnu kVnu dcnu pmnu cdnu ctnu : Value}
    {fnn : Addr} {odnn annn : Option Addr} {slnn : Array (Option Value)} {ocnn kVnn dcnn pmnn cdnn ctnn : Value}
    {fnc : Addr} {odnc annc : Option Addr} {slnc : Array (Option Value)} {ocnc kVnc dcnc pmnc cdnc ctnc : Value}
    {fnk : Addr} {odnk annk : Option Addr} {slnk : Array (Option Value)} {ocnk kVnk dcnk pmnk cdnk ctnk : Value}
    {fnw : Addr} {odnw annw : Option Addr} {slnw : Array (Option Value)} {ocnw kVnw dcnw pmnw cdnw ctnw : Value}
    {fln : Addr} {odln anln : Option Addr} {slln : Array (Option Value)} {ocln kVln dcln pmln cdln ctln : Value}
    {flm : Addr} {odlm anlm : Option Addr} {sllm : Array (Option Value)} {oclm kVlm dclm pmlm cdlm ctlm : Value}
    {flk : Addr} {odlk anlk : Option Addr} {sllk : Array (Option Value)} {oclk kVlk dclk pmlk cdlk ctlk : Value}
    {flc : Addr} {odlc anlc : Option Addr} {sllc : Array (Option Value)} {oclc kVlc dclc pmlc cdlc ctlc : Value}
    {flw : Addr} {odlw anlw : Option Addr} {sllw : Array (Option Value)} {oclw kVlw dclw pmlw cdlw ctlw : Value}
    {fca : Addr} {odca anca : Option Addr} {slca : Array (Option Value)} {occa kVca dcca pmca cdca ctca : Value}
    {fwr : Addr} {odwr anwr : Option Addr} {slwr : Array (Option Value)} {ocwr kVwr dcwr pmwr cdwr ctwr : Value}
    {ffa : Addr} {odfa anfa : Option Addr} {slfa : Array (Option Value)} {ocfa kVfa dcfa pmfa cdfa ctfa : Value}
    {fko : Addr} {odko anko : Option Addr} {slko : Array (Option Value)} {ocko kVko dcko pmko cdko ctko : Value}
    {fma : Addr} {odma anma : Option Addr} {slma : Array (Option Value)} {ocma kVma dcma pmma cdma ctma : Value}
    {fre : Addr} {odre anre : Option Addr} {slre : Array (Option Value)} {ocre kVre dcre pmre cdre ctre : Value}
    {fla : Addr} {odla anla : Option Addr} {slla : Array (Option Value)} {ocla kVla dcla pmla cdla ctla : Value}
    {CF fF : Addr} {odF anF : Option Addr} {slF : Array (Option Value)} {ocF kVF dcF pmF cdF ctF : Value} {nmF qF : Str} {NzF : Addr} {bsF : List Value} {snF : List Str} {subF : List Value} {abF : Bool} {colF : Option Bool} {ddF : Option Addr} {m0F m1F m2F m3F m5F : Option Value}
    {CM fM : Addr} {odM anM : Option Addr} {slM : Array (Option Value)} {ocM kVM dcM pmM cdM ctM : Value} {nmM qM : Str} {NzM : Addr} {bsM : List Value} {snM : List Str} {subM : List Value} {abM : Bool} {colM : Option Bool} {ddM : Option Addr} {m0M m1M m2M m3M m5M : Option Value}
    {CB fB : Addr} {odB anB : Option Addr} {slB : Array (Option Value)} {ocB kVB dcB pmB cdB ctB : Value} {nmB qB : Str} {NzB : Addr} {bsB : List Value} {snB : List Str} {subB : List Value} {abB : Bool} {colB : Option Bool} {ddB : Option Addr} {m0B m1B m2B m3B m5B : Option Value}
    {CY0 fY0 : Addr} {odY0 anY0 : Option Addr} {slY0 : Array (Option Value)} {ocY0 kVY0 dcY0 pmY0 cdY0 ctY0 : Value} {nmY0 qY0 : Str} {NzY0 : Addr} {bsY0 : List Value} {snY0 : List Str} {subY0 : List Value} {abY0 : Bool} {colY0 : Option Bool} {ddY0 : Option Addr} {m0Y0 m1Y0 m2Y0 m3Y0 m5Y0 : Option Value}
    {CY1 fY1 : Addr} {odY1 anY1 : Option Addr} {slY1 : Array (Option Value)} {ocY1 kVY1 dcY1 pmY1 cdY1 ctY1 : Value} {nmY1 qY1 : Str} {NzY1 : Addr} {bsY1 : List Value} {snY1 : List Str} {subY1 : List Value} {abY1 : Bool} {colY1 : Option Bool} {ddY1 : Option Addr} {m0Y1 m1Y1 m2Y1 m3Y1 m5Y1 : Option Value}
    {CY2 fY2 : Addr} {odY2 anY2 : Option Addr} {slY2 : Array (Option Value)} {ocY2 kVY2 dcY2 pmY2 cdY2 ctY2 : Value} {nmY2 qY2 : Str} {NzY2 : Addr} {bsY2 : List Value} {snY2 : List Str} {subY2 : List Value} {abY2 : Bool} {colY2 : Option Bool} {ddY2 : Option Addr} {m0Y2 m1Y2 m2Y2 m3Y2 m5Y2 : Option Value}
    {CY3 fY3 : Addr} {odY3 anY3 : Option Addr} {slY3 : Array (Option Value)} {ocY3 kVY3 dcY3 pmY3 cdY3 ctY3 : Value} {nmY3 qY3 : Str} {NzY3 : Addr} {bsY3 : List Value} {snY3 : List Str} {subY3 : List Value} {abY3 : Bool} {colY3 : Option Bool} {ddY3 : Option Addr} {m0Y3 m1Y3 m2Y3 m3Y3 m5Y3 : Option Value}
    {CY4 fY4 : Addr} {odY4 anY4 : Option Addr} {slY4 : Array (Option Value)} {ocY4 kVY4 dcY4 pmY4 cdY4 ctY4 : Value} {nmY4 qY4 : Str} {NzY4 : Addr} {bsY4 : List Value} {snY4 : List Str} {subY4 : List Value} {abY4 : Bool} {colY4 : Option Bool} {ddY4 : Option Addr} {m0Y4 m1Y4 m2Y4 m3Y4 m5Y4 : Option Value}
    {CY5 fY5 : Addr} {odY5 anY5 : Option Addr} {slY5 : Array (Option Value)} {ocY5 kVY5 dcY5 pmY5 cdY5 ctY5 : Value} {nmY5 qY5 : Str} {NzY5 : Addr} {bsY5 : List Value} {snY5 : List Str} {subY5 : List Value} {abY5 : Bool} {colY5 : Option Bool} {ddY5 : Option Addr} {m0Y5 m1Y5 m2Y5 m3Y5 m5Y5 : Option Value}
    {CY6 fY6 : Addr} {odY6 anY6 : Option Addr} {slY6 : Array (Option Value)} {ocY6 kVY6 dcY6 pmY6 cdY6 ctY6 : Value} {nmY6 qY6 : Str} {NzY6 : Addr} {bsY6 : List Value} {snY6 : List Str} {subY6 : List Value} {abY6 : Bool} {colY6 : Option Bool} {ddY6 : Option Addr} {m0Y6 m1Y6 m2Y6 m3Y6 m5Y6 : Option Value}
    {CY7 fY7 : Addr} {odY7 anY7 : Option Addr} {slY7 : Array (Option Value)} {ocY7 kVY7 dcY7 pmY7 cdY7 ctY7 : Value} {nmY7 qY7 : Str} {NzY7 : Addr} {bsY7 : List Value} {snY7 : List Str} {subY7 : List Value} {abY7 : Bool} {colY7 : Option Bool} {ddY7 : Option Addr} {m0Y7 m1Y7 m2Y7 m3Y7 m5Y7 : Option Value}
    {CY8 fY8 : Addr} {odY8 anY8 : Option Addr} {slY8 : Array (Option Value)} {ocY8 kVY8 dcY8 pmY8 cdY8 ctY8 : Value} {nmY8 qY8 : Str} {NzY8 : Addr} {bsY8 : List Value} {snY8 : List Str} {subY8 : List Value} {abY8 : Bool} {colY8 : Option Bool} {ddY8 : Option Addr} {m0Y8 m1Y8 m2Y8 m3Y8 m5Y8 : Option Value}
    {CY9 fY9 : Addr} {odY9 anY9 : Option Addr} {slY9 : Array (Option Value)} {ocY9 kVY9 dcY9 pmY9 cdY9 ctY9 : Value} {nmY9 qY9 : Str} {NzY9 : Addr} {bsY9 : List Value} {snY9 : List Str} {subY9 : List Value} {abY9 : Bool} {colY9 : Option Bool} {ddY9 : Option Addr} {m0Y9 m1Y9 m2Y9 m3Y9 m5Y9 : Option Value}
    {CY10 fY10 : Addr} {odY10 anY10 : Option Addr} {slY10 : Array (Option Value)} {ocY10 kVY10 dcY10 pmY10 cdY10 ctY10 : Value} {nmY10 qY10 : Str} {NzY10 : Addr} {bsY10 : List Value} {snY10 : List Str} {subY10 : List Value} {abY10 : Bool} {colY10 : Option Bool} {ddY10 : Option Addr} {m0Y10 m1Y10 m2Y10 m3Y10 m5Y10 : Option Value}
    {CY11 fY11 : Addr} {odY11 anY11 : Option Addr} {slY11 : Array (Option Value)} {ocY11 kVY11 dcY11 pmY11 cdY11 ctY11 : Value} {nmY11 qY11 : Str} {NzY11 : Addr} {bsY11 : List Value} {snY11 : List Str} {subY11 : List Value} {abY11 : Bool} {colY11 : Option Bool} {ddY11 : Option Addr} {m0Y11 m1Y11 m2Y11 m3Y11 m5Y11 : Option Value}
    {CY12 fY12 : Addr} {odY12 anY12 : Option Addr} {slY12 : Array (Option Value)} {ocY12 kVY12 dcY12 pmY12 cdY12 ctY12 : Value} {nmY12 qY12 : Str} {NzY12 : Addr} {bsY12 : List Value} {snY12 : List Str} {subY12 : List Value} {abY12 : Bool} {colY12 : Option Bool} {ddY12 : Option Addr} {m0Y12 m1Y12 m2Y12 m3Y12 m5Y12 : Option Value}
    {CY13 fY13 : Addr} {odY13 anY13 : Option Addr} {slY13 : Array (Option Value)} {ocY13 kVY13 dcY13 pmY13 cdY13 ctY13 : Value} {nmY13 qY13 : Str} {NzY13 : Addr} {bsY13 : List Value} {snY13 : List Str} {subY13 : List Value} {abY13 : Bool} {colY13 : Option Bool} {ddY13 : Option Addr} {m0Y13 m1Y13 m2Y13 m3Y13 m5Y13 : Option Value}
    {CY14 fY14 : Addr} {odY14 anY14 : Option Addr} {slY14 : Array (Option Value)} {ocY14 kVY14 dcY14 pmY14 cdY14 ctY14 : Value} {nmY14 qY14 : Str} {NzY14 : Addr} {bsY14 : List Value} {snY14 : List Str} {subY14 : List Value} {abY14 : Bool} {colY14 : Option Bool} {ddY14 : Option Addr} {m0Y14 m1Y14 m2Y14 m3Y14 m5Y14 : Option Value}
    {CY15 fY15 : Addr} {odY15 anY15 : Option Addr} {slY15 : Array (Option Value)} {ocY15 kVY15 dcY15 pmY15 cdY15 ctY15 : Value} {nmY15 qY15 : Str} {NzY15 : Addr} {bsY15 : List Value} {snY15 : List Str} {subY15 : List Value} {abY15 : Bool} {colY15 : Option Bool} {ddY15 : Option Addr} {m0Y15 m1Y15 m2Y15 m3Y15 m5Y15 : Option Value}
    {CY16 fY16 : Addr} {odY16 anY16 : Option Addr} {slY16 : Array (Option Value)} {ocY16 kVY16 dcY16 pmY16 cdY16 ctY16 : Value} {nmY16 qY16 : Str} {NzY16 : Addr} {bsY16 : List Value} {snY16 : List Str} {subY16 : List Value} {abY16 : Bool} {colY16 : Option Bool} {ddY16 : Option Addr} {m0Y16 m1Y16 m2Y16 m3Y16 m5Y16 : Option Value}
    {CY17 fY17 : Addr} {odY17 anY17 : Option Addr} {slY17 : Array (Option Value)} {ocY17 kVY17 dcY17 pmY17 cdY17 ctY17 : Value} {nmY17 qY17 : Str} {NzY17 : Addr} {bsY17 : List Value} {snY17 : List Str} {subY17 : List Value} {abY17 : Bool} {colY17 : Option Bool} {ddY17 : Option Addr} {m0Y17 m1Y17 m2Y17 m3Y17 m5Y17 : Option Value}
    {CY18 fY18 : Addr} {odY18 anY18 : Option Addr} {slY18 : Array (Option Value)} {ocY18 kVY18 dcY18 pmY18 cdY18 ctY18 : Value} {nmY18 qY18 : Str} {NzY18 : Addr} {bsY18 : List Value} {snY18 : List Str} {subY18 : List Value} {abY18 : Bool} {colY18 : Option Bool} {ddY18 : Option Addr} {m0Y18 m1Y18 m2Y18 m3Y18 m5Y18 : Option Value}
    {CY19 fY19 : Addr} {odY19 anY19 : Option Addr} {slY19 : Array (Option Value)} {ocY19 kVY19 dcY19 pmY19 cdY19 ctY19 : Value} {nmY19 qY19 : Str} {NzY19 : Addr} {bsY19 : List Value} {snY19 : List Str} {subY19 : List Value} {abY19 : Bool} {colY19 : Option Bool} {ddY19 : Option Addr} {m0Y19 m1Y19 m2Y19 m3Y19 m5Y19 : Option Value}
    {CY20 fY20 : Addr} {odY20 anY20 : Option Addr} {slY20 : Array (Option Value)} {ocY20 kVY20 dcY20 pmY20 cdY20 ctY20 : Value} {nmY20 qY20 : Str} {NzY20 : Addr} {bsY20 : List Value} {snY20 : List Str} {subY20 : List Value} {abY20 : Bool} {colY20 : Option Bool} {ddY20 : Option Addr} {m0Y20 m1Y20 m2Y20 m3Y20 m5Y20 : Option Value}
    {CY21 fY21 : Addr} {odY21 anY21 : Option Addr} {slY21 : Array (Option Value)} {ocY21 kVY21 dcY21 pmY21 cdY21 ctY21 : Value} {nmY21 qY21 : Str} {NzY21 : Addr} {bsY21 : List Value} {snY21 : List Str} {subY21 : List Value} {abY21 : Bool} {colY21 : Option Bool} {ddY21 : Option Addr} {m0Y21 m1Y21 m2Y21 m3Y21 m5Y21 : Option Value}
    {CY22 fY22 : Addr} {odY22 anY22 : Option Addr} {slY22 : Array (Option Value)} {ocY22 kVY22 dcY22 pmY22 cdY22 ctY22 : Value} {nmY22 qY22 : Str} {NzY22 : Addr} {bsY22 : List Value} {snY22 : List Str} {subY22 : List Value} {abY22 : Bool} {colY22 : Option Bool} {ddY22 : Option Addr} {m0Y22 m1Y22 m2Y22 m3Y22 m5Y22 : Option Value}
    {CY23 fY23 : Addr} {odY23 anY23 : Option Addr} {slY23 : Array (Option Value)} {ocY23 kVY23 dcY23 pmY23 cdY23 ctY23 : Value} {nmY23 qY23 : Str} {NzY23 : Addr} {bsY23 : List Value} {snY23 : List Str} {subY23 : List Value} {abY23 : Bool} {colY23 : Option Bool} {ddY23 : Option Addr} {m0Y23 m1Y23 m2Y23 m3Y23 m5Y23 : Option Value}
    {CY24 fY24 : Addr} {odY24 anY24 : Option Addr} {slY24 : Array (Option Value)} {ocY24 kVY24 dcY24 pmY24 cdY24 ctY24 : Value} {nmY24 qY24 : Str} {NzY24 : Addr} {bsY24 : List Value} {snY24 : List Str} {subY24 : List Value} {abY24 : Bool} {colY24 : Option Bool} {ddY24 : Option Addr} {m0Y24 m1Y24 m2Y24 m3Y24 m5Y24 : Option Value}
    {CY25 fY25 : Addr} {odY25 anY25 : Option Addr} {slY25 : Array (Option Value)} {ocY25 kVY25 dcY25 pmY25 cdY25 ctY25 : Value} {nmY25 qY25 : Str} {NzY25 : Addr} {bsY25 : List Value} {snY25 : List Str} {subY25 : List Value} {abY25 : Bool} {colY25 : Option Bool} {ddY25 : Option Addr} {m0Y25 m1Y25 m2Y25 m3Y25 m5Y25 : Option Value}
    {CY26 fY26 : Addr} {odY26 anY26 : Option Addr} {slY26 : Array (Option Value)} {ocY26 kVY26 dcY26 pmY26 cdY26 ctY26 : Value} {nmY26 qY26 : Str} {NzY26 : Addr} {bsY26 : List Value} {snY26 : List Str} {subY26 : List Value} {abY26 : Bool} {colY26 : Option Bool} {ddY26 : Option Addr} {m0Y26 m1Y26 m2Y26 m3Y26 m5Y26 : Option Value}
    {CY27 fY27 : Addr} {odY27 anY27 : Option Addr} {slY27 : Array (Option Value)} {ocY27 kVY27 dcY27 pmY27 cdY27 ctY27 : Value} {nmY27 qY27 : Str} {NzY27 : Addr} {bsY27 : List Value} {snY27 : List Str} {subY27 : List Value} {abY27 : Bool} {colY27 : Option Bool} {ddY27 : Option Addr} {m0Y27 m1Y27 m2Y27 m3Y27 m5Y27 : Option Value}
    {CY28 fY28 : Addr} {odY28 anY28 : Option Addr} {slY28 : Array (Option Value)} {ocY28 kVY28 dcY28 pmY28 cdY28 ctY28 : Value} {nmY28 qY28 : Str} {NzY28 : Addr} {bsY28 : List Value} {snY28 : List Str} {subY28 : List Value} {abY28 : Bool} {colY28 : Option Bool} {ddY28 : Option Addr} {m0Y28 m1Y28 m2Y28 m3Y28 m5Y28 : Option Value}
    {CY29 fY29 : Addr} {odY29 anY29 : Option Addr} {slY29 : Array (Option Value)} {ocY29 kVY29 dcY29 pmY29 cdY29 ctY29 : Value} {nmY29 qY29 : Str} {NzY29 : Addr} {bsY29 : List Value} {snY29 : List Str} {subY29 : List Value} {abY29 : Bool} {colY29 : Option Bool} {ddY29 : Option Addr} {m0Y29 m1Y29 m2Y29 m3Y29 m5Y29 : Option Value}
    {CY30 fY30 : Addr} {odY30 anY30 : Option Addr} {slY30 : Array (Option Value)} {ocY30 kVY30 dcY30 pmY30 cdY30 ctY30 : Value} {nmY30 qY30 : Str} {NzY30 : Addr} {bsY30 : List Value} {snY30 : List Str} {subY30 : List Value} {abY30 : Bool} {colY30 : Option Bool} {ddY30 : Option Addr} {m0Y30 m1Y30 m2Y30 m3Y30 m5Y30 : Option Value}
    {CY31 fY31 : Addr} {odY31 anY31 : Option Addr} {slY31 : Array (Option Value)} {ocY31 kVY31 dcY31 pmY31 cdY31 ctY31 : Value} {nmY31 qY31 : Str} {NzY31 : Addr} {bsY31 : List Value} {snY31 : List Str} {subY31 : List Value} {abY31 : Bool} {colY31 : Option Bool} {ddY31 : Option Addr} {m0Y31 m1Y31 m2Y31 m3Y31 m5Y31 : Option Value}
    {CY32 fY32 : Addr} {odY32 anY32 : Option Addr} {slY32 : Array (Option Value)} {ocY32 kVY32 dcY32 pmY32 cdY32 ctY32 : Value} {nmY32 qY32 : Str} {NzY32 : Addr} {bsY32 : List Value} {snY32 : List Str} {subY32 : List Value} {abY32 : Bool} {colY32 : Option Bool} {ddY32 : Option Addr} {m0Y32 m1Y32 m2Y32 m3Y32 m5Y32 : Option Value}
    {CY33 fY33 : Addr} {odY33 anY33 : Option Addr} {slY33 : Array (Option Value)} {ocY33 kVY33 dcY33 pmY33 cdY33 ctY33 : Value} {nmY33 qY33 : Str} {NzY33 : Addr} {bsY33 : List Value} {snY33 : List Str} {subY33 : List Value} {abY33 : Bool} {colY33 : Option Bool} {ddY33 : Option Addr} {m0Y33 m1Y33 m2Y33 m3Y33 m5Y33 : Option Value}
    {CY34 fY34 : Addr} {odY34 anY34 : Option Addr} {slY34 : Array (Option Value)} {ocY34 kVY34 dcY34 pmY34 cdY34 ctY34 : Value} {nmY34 qY34 : Str} {NzY34 : Addr} {bsY34 : List Value} {snY34 : List Str} {subY34 : List Value} {abY34 : Bool} {colY34 : Option Bool} {ddY34 : Option Addr} {m0Y34 m1Y34 m2Y34 m3Y34 m5Y34 : Option Value}
    (anb : PySem.W.nsIn K mainGlobals "is_number" = some (some (.ref fnb)))
    (lnb : K.lookup fnb = some ⟨ocnb, odnb, .func (PySem.W.fnOf "is_number" "is_number" (defArgs sNumber) (defBody sNumber) (defScope sNumber) .none kVnb dcnb pmnb annb cdnb ctnb), slnb⟩)
    (cnb : PySem.W.codeIn K cdnb "is_number" = true)
    (knb : PySem.W.keepIn K (.ref fnb) = true)
    (awh : PySem.W.nsIn K mainGlobals "is_whole" = some (some (.ref fwh)))
    (lwh : K.lookup fwh = some ⟨ocwh, odwh, .func (PySem.W.fnOf "is_whole" "is_whole" (defArgs sWhole) (defBody sWhole) (defScope sWhole) .none kVwh dcwh pmwh anwh cdwh ctwh), slwh⟩)
    (cwh : PySem.W.codeIn K cdwh "is_whole" = true)
    (kwh : PySem.W.keepIn K (.ref fwh) = true)
    (ana : PySem.W.nsIn K mainGlobals "is_name" = some (some (.ref fna)))
    (lna : K.lookup fna = some ⟨ocna, odna, .func (PySem.W.fnOf "is_name" "is_name" (defArgs sName) (defBody sName) (defScope sName) .none kVna dcna pmna anna cdna ctna), slna⟩)
    (cna : PySem.W.codeIn K cdna "is_name" = true)
    (kna : PySem.W.keepIn K (.ref fna) = true)
    (awi : PySem.W.nsIn K mainGlobals "is_width" = some (some (.ref fwi)))
    (lwi : K.lookup fwi = some ⟨ocwi, odwi, .func (PySem.W.fnOf "is_width" "is_width" (defArgs sWidth) (defBody sWidth) (defScope sWidth) .none kVwi dcwi pmwi anwi cdwi ctwi), slwi⟩)
    (cwi : PySem.W.codeIn K cdwi "is_width" = true)
    (kwi : PySem.W.keepIn K (.ref fwi) = true)
    (atr : PySem.W.nsIn K mainGlobals "is_truth" = some (some (.ref ftr)))
    (ltr : K.lookup ftr = some ⟨octr, odtr, .func (PySem.W.fnOf "is_truth" "is_truth" (defArgs sTruth) (defBody sTruth) (defScope sTruth) .none kVtr dctr pmtr antr cdtr cttr), sltr⟩)
    (ctr : PySem.W.codeIn K cdtr "is_truth" = true)
    (ktr : PySem.W.keepIn K (.ref ftr) = true)
    (aki : PySem.W.nsIn K mainGlobals "is_kind" = some (some (.ref fki)))
    (lki : K.lookup fki = some ⟨ocki, odki, .func (PySem.W.fnOf "is_kind" "is_kind" (defArgs sKind) (defBody sKind) (defScope sKind) .none kVki dcki pmki anki cdki ctki), slki⟩)
    (cki : PySem.W.codeIn K cdki "is_kind" = true)
    (kki : PySem.W.keepIn K (.ref fki) = true)
    (aiw : PySem.W.nsIn K mainGlobals "is_worth" = some (some (.ref fiw)))
    (liw : K.lookup fiw = some ⟨ociw, odiw, .func (PySem.W.fnOf "is_worth" "is_worth" (defArgs sIsWorth) (defBody sIsWorth) (defScope sIsWorth) .none kViw dciw pmiw aniw cdiw ctiw), sliw⟩)
    (ciw : PySem.W.codeIn K cdiw "is_worth" = true)
    (kiw : PySem.W.keepIn K (.ref fiw) = true)
    (aic : PySem.W.nsIn K mainGlobals "is_clock" = some (some (.ref fic)))
    (lic : K.lookup fic = some ⟨ocic, odic, .func (PySem.W.fnOf "is_clock" "is_clock" (defArgs sIsClock) (defBody sIsClock) (defScope sIsClock) .none kVic dcic pmic anic cdic ctic), slic⟩)
    (cic : PySem.W.codeIn K cdic "is_clock" = true)
    (kic : PySem.W.keepIn K (.ref fic) = true)
    (agr : PySem.W.nsIn K mainGlobals "_greatest" = some (some (.ref fgr)))
    (lgr : K.lookup fgr = some ⟨ocgr, odgr, .func (PySem.W.fnOf "_greatest" "_greatest" (defArgs sGreat) (defBody sGreat) (defScope sGreat) .none kVgr dcgr pmgr angr cdgr ctgr), slgr⟩)
    (cgr : PySem.W.codeIn K cdgr "_greatest" = true)
    (kgr : PySem.W.keepIn K (.ref fgr) = true)
    (awo : PySem.W.nsIn K mainGlobals "_is_worth_of_width" = some (some (.ref fwo)))
    (lwo : K.lookup fwo = some ⟨ocwo, odwo, .func (PySem.W.fnOf "_is_worth_of_width" "_is_worth_of_width" (defArgs sWorthOf) (defBody sWorthOf) (defScope sWorthOf) .none kVwo dcwo pmwo anwo cdwo ctwo), slwo⟩)
    (cwo : PySem.W.codeIn K cdwo "_is_worth_of_width" = true)
    (kwo : PySem.W.keepIn K (.ref fwo) = true)
    (aar : PySem.W.nsIn K mainGlobals "_are_worths_of_width" = some (some (.ref far)))
    (lar : K.lookup far = some ⟨ocar, odar, .func (PySem.W.fnOf "_are_worths_of_width" "_are_worths_of_width" (defArgs sAre) (defBody sAre) (defScope sAre) .none kVar dcar pmar anar cdar ctar), slar⟩)
    (car : PySem.W.codeIn K cdar "_are_worths_of_width" = true)
    (kar : PySem.W.keepIn K (.ref far) = true)
    (aco : PySem.W.nsIn K mainGlobals "_is_condition" = some (some (.ref fco)))
    (lco : K.lookup fco = some ⟨occo, odco, .func (PySem.W.fnOf "_is_condition" "_is_condition" (defArgs sCond) (defBody sCond) (defScope sCond) .none kVco dcco pmco anco cdco ctco), slco⟩)
    (cco : PySem.W.codeIn K cdco "_is_condition" = true)
    (kco : PySem.W.keepIn K (.ref fco) = true)
    (ace : PySem.W.nsIn K mainGlobals "_law_cell" = some (some (.ref fce)))
    (lce : K.lookup fce = some ⟨occe, odce, .func (PySem.W.fnOf "_law_cell" "_law_cell" (defArgs sCell) (defBody sCell) (defScope sCell) .none kVce dcce pmce ance cdce ctce), slce⟩)
    (cce : PySem.W.codeIn K cdce "_law_cell" = true)
    (kce : PySem.W.keepIn K (.ref fce) = true)
    (apu : PySem.W.nsIn K mainGlobals "_law_purse" = some (some (.ref fpu)))
    (lpu : K.lookup fpu = some ⟨ocpu, odpu, .func (PySem.W.fnOf "_law_purse" "_law_purse" (defArgs sPurse) (defBody sPurse) (defScope sPurse) .none kVpu dcpu pmpu anpu cdpu ctpu), slpu⟩)
    (cpu : PySem.W.codeIn K cdpu "_law_purse" = true)
    (kpu : PySem.W.keepIn K (.ref fpu) = true)
    (ata : PySem.W.nsIn K mainGlobals "_law_take" = some (some (.ref fta)))
    (lta : K.lookup fta = some ⟨octa, odta, .func (PySem.W.fnOf "_law_take" "_law_take" (defArgs sTake) (defBody sTake) (defScope sTake) .none kVta dcta pmta anta cdta ctta), slta⟩)
    (cta : PySem.W.codeIn K cdta "_law_take" = true)
    (kta : PySem.W.keepIn K (.ref fta) = true)
    (aof : PySem.W.nsIn K mainGlobals "_law_of" = some (some (.ref fof)))
    (lof : K.lookup fof = some ⟨ocof, odof, .func (PySem.W.fnOf "_law_of" "_law_of" (defArgs sOf) (defBody sOf) (defScope sOf) .none kVof dcof pmof anof cdof ctof), slof⟩)
    (cof : PySem.W.codeIn K cdof "_law_of" = true)
    (kof : PySem.W.keepIn K (.ref fof) = true)
    (anu : PySem.W.nsIn K mainGlobals "_law_number" = some (some (.ref fnu)))
    (lnu : K.lookup fnu = some ⟨ocnu, odnu, .func (PySem.W.fnOf "_law_number" "_law_number" (defArgs sNum) (defBody sNum) (defScope sNum) .none kVnu dcnu pmnu annu cdnu ctnu), slnu⟩)
    (cnu : PySem.W.codeIn K cdnu "_law_number" = true)
    (knu : PySem.W.keepIn K (.ref fnu) = true)
    (ann : PySem.W.nsIn K mainGlobals "_law_near_name" = some (some (.ref fnn)))
    (lnn : K.lookup fnn = some ⟨ocnn, odnn, .func (PySem.W.fnOf "_law_near_name" "_law_near_name" (defArgs sNName) (defBody sNName) (defScope sNName) .none kVnn dcnn pmnn annn cdnn ctnn), slnn⟩)
    (cnn : PySem.W.codeIn K cdnn "_law_near_name" = true)
    (knn : PySem.W.keepIn K (.ref fnn) = true)
    (anc : PySem.W.nsIn K mainGlobals "_law_near_clock" = some (some (.ref fnc)))
    (lnc : K.lookup fnc = some ⟨ocnc, odnc, .func (PySem.W.fnOf "_law_near_clock" "_law_near_clock" (defArgs sNClock) (defBody sNClock) (defScope sNClock) .none kVnc dcnc pmnc annc cdnc ctnc), slnc⟩)
    (cnc : PySem.W.codeIn K cdnc "_law_near_clock" = true)
    (knc : PySem.W.keepIn K (.ref fnc) = true)
    (ank : PySem.W.nsIn K mainGlobals "_law_near_kind" = some (some (.ref fnk)))
    (lnk : K.lookup fnk = some ⟨ocnk, odnk, .func (PySem.W.fnOf "_law_near_kind" "_law_near_kind" (defArgs sNKind) (defBody sNKind) (defScope sNKind) .none kVnk dcnk pmnk annk cdnk ctnk), slnk⟩)
    (cnk : PySem.W.codeIn K cdnk "_law_near_kind" = true)
    (knk : PySem.W.keepIn K (.ref fnk) = true)
    (anw : PySem.W.nsIn K mainGlobals "_law_near_worth" = some (some (.ref fnw)))
    (lnw : K.lookup fnw = some ⟨ocnw, odnw, .func (PySem.W.fnOf "_law_near_worth" "_law_near_worth" (defArgs sNWorth) (defBody sNWorth) (defScope sNWorth) .none kVnw dcnw pmnw annw cdnw ctnw), slnw⟩)
    (cnw : PySem.W.codeIn K cdnw "_law_near_worth" = true)
    (knw : PySem.W.keepIn K (.ref fnw) = true)
    (aln : PySem.W.nsIn K mainGlobals "_law_is_number" = some (some (.ref fln)))
    (lln : K.lookup fln = some ⟨ocln, odln, .func (PySem.W.fnOf "_law_is_number" "_law_is_number" (defArgs sLNum) (defBody sLNum) (defScope sLNum) .none kVln dcln pmln anln cdln ctln), slln⟩)
    (cln : PySem.W.codeIn K cdln "_law_is_number" = true)
    (kln : PySem.W.keepIn K (.ref fln) = true)
    (alm : PySem.W.nsIn K mainGlobals "_law_is_name" = some (some (.ref flm)))
    (llm : K.lookup flm = some ⟨oclm, odlm, .func (PySem.W.fnOf "_law_is_name" "_law_is_name" (defArgs sLIsName) (defBody sLIsName) (defScope sLIsName) .none kVlm dclm pmlm anlm cdlm ctlm), sllm⟩)
    (clm : PySem.W.codeIn K cdlm "_law_is_name" = true)
    (klm : PySem.W.keepIn K (.ref flm) = true)
    (alk : PySem.W.nsIn K mainGlobals "_law_is_kind" = some (some (.ref flk)))
    (llk : K.lookup flk = some ⟨oclk, odlk, .func (PySem.W.fnOf "_law_is_kind" "_law_is_kind" (defArgs sLIsKind) (defBody sLIsKind) (defScope sLIsKind) .none kVlk dclk pmlk anlk cdlk ctlk), sllk⟩)
    (clk : PySem.W.codeIn K cdlk "_law_is_kind" = true)
    (klk : PySem.W.keepIn K (.ref flk) = true)
    (alc : PySem.W.nsIn K mainGlobals "_law_is_clock" = some (some (.ref flc)))
    (llc : K.lookup flc = some ⟨oclc, odlc, .func (PySem.W.fnOf "_law_is_clock" "_law_is_clock" (defArgs sLIsClock) (defBody sLIsClock) (defScope sLIsClock) .none kVlc dclc pmlc anlc cdlc ctlc), sllc⟩)
    (clc : PySem.W.codeIn K cdlc "_law_is_clock" = true)
    (klc : PySem.W.keepIn K (.ref flc) = true)
    (alw : PySem.W.nsIn K mainGlobals "_law_is_worth" = some (some (.ref flw)))
    (llw : K.lookup flw = some ⟨oclw, odlw, .func (PySem.W.fnOf "_law_is_worth" "_law_is_worth" (defArgs sLIsWorth) (defBody sLIsWorth) (defScope sLIsWorth) .none kVlw dclw pmlw anlw cdlw ctlw), sllw⟩)
    (clw : PySem.W.codeIn K cdlw "_law_is_worth" = true)
    (klw : PySem.W.keepIn K (.ref flw) = true)
    (aca : PySem.W.nsIn K mainGlobals "_law_caught" = some (some (.ref fca)))
    (lca : K.lookup fca = some ⟨occa, odca, .func (PySem.W.fnOf "_law_caught" "_law_caught" (defArgs sCaught) (defBody sCaught) (defScope sCaught) .none kVca dcca pmca anca cdca ctca), slca⟩)
    (cca : PySem.W.codeIn K cdca "_law_caught" = true)
    (kca : PySem.W.keepIn K (.ref fca) = true)
    (awr : PySem.W.nsIn K mainGlobals "_law_worth_right" = some (some (.ref fwr)))
    (lwr : K.lookup fwr = some ⟨ocwr, odwr, .func (PySem.W.fnOf "_law_worth_right" "_law_worth_right" (defArgs sWRight) (defBody sWRight) (defScope sWRight) .none kVwr dcwr pmwr anwr cdwr ctwr), slwr⟩)
    (cwr : PySem.W.codeIn K cdwr "_law_worth_right" = true)
    (kwr : PySem.W.keepIn K (.ref fwr) = true)
    (afa : PySem.W.nsIn K mainGlobals "_law_family" = some (some (.ref ffa)))
    (lfa : K.lookup ffa = some ⟨ocfa, odfa, .func (PySem.W.fnOf "_law_family" "_law_family" (defArgs sFamily) (defBody sFamily) (defScope sFamily) .none kVfa dcfa pmfa anfa cdfa ctfa), slfa⟩)
    (cfa : PySem.W.codeIn K cdfa "_law_family" = true)
    (kfa : PySem.W.keepIn K (.ref ffa) = true)
    (ako : PySem.W.nsIn K mainGlobals "_law_kinds_of" = some (some (.ref fko)))
    (lko : K.lookup fko = some ⟨ocko, odko, .func (PySem.W.fnOf "_law_kinds_of" "_law_kinds_of" (defArgs sKinds) (defBody sKinds) (defScope sKinds) .none kVko dcko pmko anko cdko ctko), slko⟩)
    (cko : PySem.W.codeIn K cdko "_law_kinds_of" = true)
    (kko : PySem.W.keepIn K (.ref fko) = true)
    (ama : PySem.W.nsIn K mainGlobals "_law_made" = some (some (.ref fma)))
    (lma : K.lookup fma = some ⟨ocma, odma, .func (PySem.W.fnOf "_law_made" "_law_made" (defArgs sMade) (defBody sMade) (defScope sMade) .none kVma dcma pmma anma cdma ctma), slma⟩)
    (cma : PySem.W.codeIn K cdma "_law_made" = true)
    (kma : PySem.W.keepIn K (.ref fma) = true)
    (are : PySem.W.nsIn K mainGlobals "_law_refusals_right" = some (some (.ref fre)))
    (lre : K.lookup fre = some ⟨ocre, odre, .func (PySem.W.fnOf "_law_refusals_right" "_law_refusals_right" (defArgs sRefs) (defBody sRefs) (defScope sRefs) .none kVre dcre pmre anre cdre ctre), slre⟩)
    (cre : PySem.W.codeIn K cdre "_law_refusals_right" = true)
    (kre : PySem.W.keepIn K (.ref fre) = true)
    (ala : PySem.W.nsIn K mainGlobals "law" = some (some (.ref fla)))
    (lla : K.lookup fla = some ⟨ocla, odla, .func (PySem.W.fnOf "law" "law" (defArgs sLaw) (defBody sLaw) (defScope sLaw) .none kVla dcla pmla anla cdla ctla), slla⟩)
    (cla : PySem.W.codeIn K cdla "law" = true)
    (kla : PySem.W.keepIn K (.ref fla) = true)
    (zisinstance : PySem.W.nsIn K mainGlobals "isinstance" = some none)
    (zint : PySem.W.nsIn K mainGlobals "int" = some none)
    (zbool : PySem.W.nsIn K mainGlobals "bool" = some none)
    (zlist : PySem.W.nsIn K mainGlobals "list" = some none)
    (ztuple : PySem.W.nsIn K mainGlobals "tuple" = some none)
    (zrange : PySem.W.nsIn K mainGlobals "range" = some none)
    (zlen : PySem.W.nsIn K mainGlobals "len" = some none)
    (zall : PySem.W.nsIn K mainGlobals "all" = some none)
    (zValueError : PySem.W.nsIn K mainGlobals "ValueError" = some none)
    (zKeyError : PySem.W.nsIn K mainGlobals "KeyError" = some none)
    (zLookupError : PySem.W.nsIn K mainGlobals "LookupError" = some none)
    (zmax : PySem.W.nsIn K mainGlobals "max" = some none)
    (zmin : PySem.W.nsIn K mainGlobals "min" = some none)
    (zrepr : PySem.W.nsIn K mainGlobals "repr" = some none)
    (zstr : PySem.W.nsIn K mainGlobals "str" = some none)
    (zenumerate : PySem.W.nsIn K mainGlobals "enumerate" = some none)
    (hn : PySem.W.specialIn K (.builtin "object.__class__") "__get__" = some (some (.builtin "getset_descriptor.__get__")))
    (ht : PySem.W.takesIn K (.builtin "object.__class__") = some true)
    (aF : PySem.W.nsIn K mainGlobals "FlowError" = some (some (.ref CF)))
    (xF : K.lookup CF = some (excClassObj nmF qF CF NzF bsF (veTail) true snF subF abF colF ddF m0F m1F m2F m3F m5F "ValueError.__new__"))
    (saF : PySem.W.findIn K (.ref CF) "__setattr__" = some (some (.builtin "object.__setattr__")))
    (gaF : PySem.W.findIn K (.ref CF) "__getattribute__" = some (some (.builtin "BaseException.__getattribute__")))
    (ggF : PySem.W.findIn K (.ref CF) "__getattr__" = some none)
    (iF : PySem.W.findIn K (.ref CF) "__init__" = some (some (.ref fF)))
    (tF : PySem.W.typeIn K (.ref fF) = some (.type "function"))
    (kCF : PySem.W.keepIn K (.ref CF) = true)
    (tCF : PySem.W.typeIn K (.ref CF) = some (.type "type"))
    (hCF : PySem.W.hasDictIn K CF = true)
    (haF : PySem.W.findIn K (.ref CF) "__class__" = some (some (.builtin "object.__class__")))
    (rF : PySem.W.readsIn K CF (.type "type") = true)
    (gF : PySem.W.specialIn K (.ref CF) "__getattribute__" = some (some (.builtin "type.__getattribute__")))
    (vF : PySem.W.findCls K (.ref CF) (.type "type") "__init__" = some (.val (.ref fF)))
    (lF : K.lookup fF = some ⟨ocF, odF, .func (PySem.W.fnOf "__init__" "FlowError.__init__" (defArgs (inClass (top 1) 0)) (defBody (inClass (top 1) 0)) (defScope (inClass (top 1) 0)) .none kVF dcF pmF anF cdF ctF), slF⟩)
    (cF : PySem.W.codeIn K cdF "FlowError.__init__" = true)
    (kF : PySem.W.keepIn K (.ref fF) = true)
    (vVF : PySem.W.findCls K (.type "ValueError") (.type "type") "__init__" = some (.val (.builtin "ValueError.__init__")))
    (aM : PySem.W.nsIn K mainGlobals "Missing" = some (some (.ref CM)))
    (xM : K.lookup CM = some (excClassObj nmM qM CM NzM bsM (keTail) true snM subM abM colM ddM m0M m1M m2M m3M m5M "LookupError.__new__"))
    (saM : PySem.W.findIn K (.ref CM) "__setattr__" = some (some (.builtin "object.__setattr__")))
    (gaM : PySem.W.findIn K (.ref CM) "__getattribute__" = some (some (.builtin "BaseException.__getattribute__")))
    (ggM : PySem.W.findIn K (.ref CM) "__getattr__" = some none)
    (iM : PySem.W.findIn K (.ref CM) "__init__" = some (some (.ref fM)))
    (tM : PySem.W.typeIn K (.ref fM) = some (.type "function"))
    (kCM : PySem.W.keepIn K (.ref CM) = true)
    (tCM : PySem.W.typeIn K (.ref CM) = some (.type "type"))
    (hCM : PySem.W.hasDictIn K CM = true)
    (haM : PySem.W.findIn K (.ref CM) "__class__" = some (some (.builtin "object.__class__")))
    (rM : PySem.W.readsIn K CM (.type "type") = true)
    (gM : PySem.W.specialIn K (.ref CM) "__getattribute__" = some (some (.builtin "type.__getattribute__")))
    (vM : PySem.W.findCls K (.ref CM) (.type "type") "__init__" = some (.val (.ref fM)))
    (lM : K.lookup fM = some ⟨ocM, odM, .func (PySem.W.fnOf "__init__" "Missing.__init__" (defArgs (inClass (top 2) 0)) (defBody (inClass (top 2) 0)) (defScope (inClass (top 2) 0)) .none kVM dcM pmM anM cdM ctM), slM⟩)
    (cM : PySem.W.codeIn K cdM "Missing.__init__" = true)
    (kM : PySem.W.keepIn K (.ref fM) = true)
    (vVM : PySem.W.findCls K (.type "KeyError") (.type "type") "__init__" = some (.val (.builtin "KeyError.__init__")))
    (aB : PySem.W.nsIn K mainGlobals "Barred" = some (some (.ref CB)))
    (xB : K.lookup CB = some (excClassObj nmB qB CB NzB bsB (leTail) true snB subB abB colB ddB m0B m1B m2B m3B m5B "LookupError.__new__"))
    (saB : PySem.W.findIn K (.ref CB) "__setattr__" = some (some (.builtin "object.__setattr__")))
    (gaB : PySem.W.findIn K (.ref CB) "__getattribute__" = some (some (.builtin "BaseException.__getattribute__")))
    (ggB : PySem.W.findIn K (.ref CB) "__getattr__" = some none)
    (iB : PySem.W.findIn K (.ref CB) "__init__" = some (some (.ref fB)))
    (tB : PySem.W.typeIn K (.ref fB) = some (.type "function"))
    (kCB : PySem.W.keepIn K (.ref CB) = true)
    (tCB : PySem.W.typeIn K (.ref CB) = some (.type "type"))
    (hCB : PySem.W.hasDictIn K CB = true)
    (haB : PySem.W.findIn K (.ref CB) "__class__" = some (some (.builtin "object.__class__")))
    (rB : PySem.W.readsIn K CB (.type "type") = true)
    (gB : PySem.W.specialIn K (.ref CB) "__getattribute__" = some (some (.builtin "type.__getattribute__")))
    (vB : PySem.W.findCls K (.ref CB) (.type "type") "__init__" = some (.val (.ref fB)))
    (lB : K.lookup fB = some ⟨ocB, odB, .func (PySem.W.fnOf "__init__" "Barred.__init__" (defArgs (inClass (top 3) 0)) (defBody (inClass (top 3) 0)) (defScope (inClass (top 3) 0)) .none kVB dcB pmB anB cdB ctB), slB⟩)
    (cB : PySem.W.codeIn K cdB "Barred.__init__" = true)
    (kB : PySem.W.keepIn K (.ref fB) = true)
    (vVB : PySem.W.findCls K (.type "LookupError") (.type "type") "__init__" = some (.val (.builtin "LookupError.__init__")))
    (aY0 : PySem.W.nsIn K mainGlobals "NoKind" = some (some (.ref CY0)))
    (xY0 : K.lookup CY0 = some (excClassObj nmY0 qY0 CY0 NzY0 bsY0 (.ref CF :: veTail) true snY0 subY0 abY0 colY0 ddY0 m0Y0 m1Y0 m2Y0 m3Y0 m5Y0 "ValueError.__new__"))
    (saY0 : PySem.W.findIn K (.ref CY0) "__setattr__" = some (some (.builtin "object.__setattr__")))
    (gaY0 : PySem.W.findIn K (.ref CY0) "__getattribute__" = some (some (.builtin "BaseException.__getattribute__")))
    (ggY0 : PySem.W.findIn K (.ref CY0) "__getattr__" = some none)
    (iY0 : PySem.W.findIn K (.ref CY0) "__init__" = some (some (.ref fY0)))
    (tY0 : PySem.W.typeIn K (.ref fY0) = some (.type "function"))
    (kCY0 : PySem.W.keepIn K (.ref CY0) = true)
    (tCY0 : PySem.W.typeIn K (.ref CY0) = some (.type "type"))
    (hCY0 : PySem.W.hasDictIn K CY0 = true)
    (haY0 : PySem.W.findIn K (.ref CY0) "__class__" = some (some (.builtin "object.__class__")))
    (n0Y0 : PySem.W.findIn K (.ref CY0) "found" = some none)
    (lY0 : K.lookup fY0 = some ⟨ocY0, odY0, .func (PySem.W.fnOf "__init__" "NoKind.__init__" (defArgs (inClass (top 4) 0)) (defBody (inClass (top 4) 0)) (defScope (inClass (top 4) 0)) .none kVY0 dcY0 pmY0 anY0 cdY0 ctY0), slY0⟩)
    (cY0 : PySem.W.codeIn K cdY0 "NoKind.__init__" = true)
    (kY0 : PySem.W.keepIn K (.ref fY0) = true)
    (aY1 : PySem.W.nsIn K mainGlobals "NoWidth" = some (some (.ref CY1)))
    (xY1 : K.lookup CY1 = some (excClassObj nmY1 qY1 CY1 NzY1 bsY1 (.ref CF :: veTail) true snY1 subY1 abY1 colY1 ddY1 m0Y1 m1Y1 m2Y1 m3Y1 m5Y1 "ValueError.__new__"))
    (saY1 : PySem.W.findIn K (.ref CY1) "__setattr__" = some (some (.builtin "object.__setattr__")))
    (gaY1 : PySem.W.findIn K (.ref CY1) "__getattribute__" = some (some (.builtin "BaseException.__getattribute__")))
    (ggY1 : PySem.W.findIn K (.ref CY1) "__getattr__" = some none)
    (iY1 : PySem.W.findIn K (.ref CY1) "__init__" = some (some (.ref fY1)))
    (tY1 : PySem.W.typeIn K (.ref fY1) = some (.type "function"))
    (kCY1 : PySem.W.keepIn K (.ref CY1) = true)
    (tCY1 : PySem.W.typeIn K (.ref CY1) = some (.type "type"))
    (hCY1 : PySem.W.hasDictIn K CY1 = true)
    (haY1 : PySem.W.findIn K (.ref CY1) "__class__" = some (some (.builtin "object.__class__")))
    (n0Y1 : PySem.W.findIn K (.ref CY1) "found" = some none)
    (lY1 : K.lookup fY1 = some ⟨ocY1, odY1, .func (PySem.W.fnOf "__init__" "NoWidth.__init__" (defArgs (inClass (top 5) 0)) (defBody (inClass (top 5) 0)) (defScope (inClass (top 5) 0)) .none kVY1 dcY1 pmY1 anY1 cdY1 ctY1), slY1⟩)
    (cY1 : PySem.W.codeIn K cdY1 "NoWidth.__init__" = true)
    (kY1 : PySem.W.keepIn K (.ref fY1) = true)
    (aY2 : PySem.W.nsIn K mainGlobals "NoWorth" = some (some (.ref CY2)))
    (xY2 : K.lookup CY2 = some (excClassObj nmY2 qY2 CY2 NzY2 bsY2 (.ref CF :: veTail) true snY2 subY2 abY2 colY2 ddY2 m0Y2 m1Y2 m2Y2 m3Y2 m5Y2 "ValueError.__new__"))
    (saY2 : PySem.W.findIn K (.ref CY2) "__setattr__" = some (some (.builtin "object.__setattr__")))
    (gaY2 : PySem.W.findIn K (.ref CY2) "__getattribute__" = some (some (.builtin "BaseException.__getattribute__")))
    (ggY2 : PySem.W.findIn K (.ref CY2) "__getattr__" = some none)
    (iY2 : PySem.W.findIn K (.ref CY2) "__init__" = some (some (.ref fY2)))
    (tY2 : PySem.W.typeIn K (.ref fY2) = some (.type "function"))
    (kCY2 : PySem.W.keepIn K (.ref CY2) = true)
    (tCY2 : PySem.W.typeIn K (.ref CY2) = some (.type "type"))
    (hCY2 : PySem.W.hasDictIn K CY2 = true)
    (haY2 : PySem.W.findIn K (.ref CY2) "__class__" = some (some (.builtin "object.__class__")))
    (n0Y2 : PySem.W.findIn K (.ref CY2) "found" = some none)
    (lY2 : K.lookup fY2 = some ⟨ocY2, odY2, .func (PySem.W.fnOf "__init__" "NoWorth.__init__" (defArgs (inClass (top 6) 0)) (defBody (inClass (top 6) 0)) (defScope (inClass (top 6) 0)) .none kVY2 dcY2 pmY2 anY2 cdY2 ctY2), slY2⟩)
    (cY2 : PySem.W.codeIn K cdY2 "NoWorth.__init__" = true)
    (kY2 : PySem.W.keepIn K (.ref fY2) = true)
    (aY3 : PySem.W.nsIn K mainGlobals "NoWorths" = some (some (.ref CY3)))
    (xY3 : K.lookup CY3 = some (excClassObj nmY3 qY3 CY3 NzY3 bsY3 (.ref CF :: veTail) true snY3 subY3 abY3 colY3 ddY3 m0Y3 m1Y3 m2Y3 m3Y3 m5Y3 "ValueError.__new__"))
    (saY3 : PySem.W.findIn K (.ref CY3) "__setattr__" = some (some (.builtin "object.__setattr__")))
    (gaY3 : PySem.W.findIn K (.ref CY3) "__getattribute__" = some (some (.builtin "BaseException.__getattribute__")))
    (ggY3 : PySem.W.findIn K (.ref CY3) "__getattr__" = some none)
    (iY3 : PySem.W.findIn K (.ref CY3) "__init__" = some (some (.ref fY3)))
    (tY3 : PySem.W.typeIn K (.ref fY3) = some (.type "function"))
    (kCY3 : PySem.W.keepIn K (.ref CY3) = true)
    (tCY3 : PySem.W.typeIn K (.ref CY3) = some (.type "type"))
    (hCY3 : PySem.W.hasDictIn K CY3 = true)
    (haY3 : PySem.W.findIn K (.ref CY3) "__class__" = some (some (.builtin "object.__class__")))
    (n0Y3 : PySem.W.findIn K (.ref CY3) "found" = some none)
    (lY3 : K.lookup fY3 = some ⟨ocY3, odY3, .func (PySem.W.fnOf "__init__" "NoWorths.__init__" (defArgs (inClass (top 7) 0)) (defBody (inClass (top 7) 0)) (defScope (inClass (top 7) 0)) .none kVY3 dcY3 pmY3 anY3 cdY3 ctY3), slY3⟩)
    (cY3 : PySem.W.codeIn K cdY3 "NoWorths.__init__" = true)
    (kY3 : PySem.W.keepIn K (.ref fY3) = true)
    (aY4 : PySem.W.nsIn K mainGlobals "NoBits" = some (some (.ref CY4)))
    (xY4 : K.lookup CY4 = some (excClassObj nmY4 qY4 CY4 NzY4 bsY4 (.ref CF :: veTail) true snY4 subY4 abY4 colY4 ddY4 m0Y4 m1Y4 m2Y4 m3Y4 m5Y4 "ValueError.__new__"))
    (saY4 : PySem.W.findIn K (.ref CY4) "__setattr__" = some (some (.builtin "object.__setattr__")))
    (gaY4 : PySem.W.findIn K (.ref CY4) "__getattribute__" = some (some (.builtin "BaseException.__getattribute__")))
    (ggY4 : PySem.W.findIn K (.ref CY4) "__getattr__" = some none)
    (iY4 : PySem.W.findIn K (.ref CY4) "__init__" = some (some (.ref fY4)))
    (tY4 : PySem.W.typeIn K (.ref fY4) = some (.type "function"))
    (kCY4 : PySem.W.keepIn K (.ref CY4) = true)
    (tCY4 : PySem.W.typeIn K (.ref CY4) = some (.type "type"))
    (hCY4 : PySem.W.hasDictIn K CY4 = true)
    (haY4 : PySem.W.findIn K (.ref CY4) "__class__" = some (some (.builtin "object.__class__")))
    (n0Y4 : PySem.W.findIn K (.ref CY4) "found" = some none)
    (lY4 : K.lookup fY4 = some ⟨ocY4, odY4, .func (PySem.W.fnOf "__init__" "NoBits.__init__" (defArgs (inClass (top 8) 0)) (defBody (inClass (top 8) 0)) (defScope (inClass (top 8) 0)) .none kVY4 dcY4 pmY4 anY4 cdY4 ctY4), slY4⟩)
    (cY4 : PySem.W.codeIn K cdY4 "NoBits.__init__" = true)
    (kY4 : PySem.W.keepIn K (.ref fY4) = true)
    (aY5 : PySem.W.nsIn K mainGlobals "NoNumber" = some (some (.ref CY5)))
    (xY5 : K.lookup CY5 = some (excClassObj nmY5 qY5 CY5 NzY5 bsY5 (.ref CF :: veTail) true snY5 subY5 abY5 colY5 ddY5 m0Y5 m1Y5 m2Y5 m3Y5 m5Y5 "ValueError.__new__"))
    (saY5 : PySem.W.findIn K (.ref CY5) "__setattr__" = some (some (.builtin "object.__setattr__")))
    (gaY5 : PySem.W.findIn K (.ref CY5) "__getattribute__" = some (some (.builtin "BaseException.__getattribute__")))
    (ggY5 : PySem.W.findIn K (.ref CY5) "__getattr__" = some none)
    (iY5 : PySem.W.findIn K (.ref CY5) "__init__" = some (some (.ref fY5)))
    (tY5 : PySem.W.typeIn K (.ref fY5) = some (.type "function"))
    (kCY5 : PySem.W.keepIn K (.ref CY5) = true)
    (tCY5 : PySem.W.typeIn K (.ref CY5) = some (.type "type"))
    (hCY5 : PySem.W.hasDictIn K CY5 = true)
    (haY5 : PySem.W.findIn K (.ref CY5) "__class__" = some (some (.builtin "object.__class__")))
    (n0Y5 : PySem.W.findIn K (.ref CY5) "found" = some none)
    (lY5 : K.lookup fY5 = some ⟨ocY5, odY5, .func (PySem.W.fnOf "__init__" "NoNumber.__init__" (defArgs (inClass (top 9) 0)) (defBody (inClass (top 9) 0)) (defScope (inClass (top 9) 0)) .none kVY5 dcY5 pmY5 anY5 cdY5 ctY5), slY5⟩)
    (cY5 : PySem.W.codeIn K cdY5 "NoNumber.__init__" = true)
    (kY5 : PySem.W.keepIn K (.ref fY5) = true)
    (aY6 : PySem.W.nsIn K mainGlobals "NoOp" = some (some (.ref CY6)))
    (xY6 : K.lookup CY6 = some (excClassObj nmY6 qY6 CY6 NzY6 bsY6 (.ref CF :: veTail) true snY6 subY6 abY6 colY6 ddY6 m0Y6 m1Y6 m2Y6 m3Y6 m5Y6 "ValueError.__new__"))
    (saY6 : PySem.W.findIn K (.ref CY6) "__setattr__" = some (some (.builtin "object.__setattr__")))
    (gaY6 : PySem.W.findIn K (.ref CY6) "__getattribute__" = some (some (.builtin "BaseException.__getattribute__")))
    (ggY6 : PySem.W.findIn K (.ref CY6) "__getattr__" = some none)
    (iY6 : PySem.W.findIn K (.ref CY6) "__init__" = some (some (.ref fY6)))
    (tY6 : PySem.W.typeIn K (.ref fY6) = some (.type "function"))
    (kCY6 : PySem.W.keepIn K (.ref CY6) = true)
    (tCY6 : PySem.W.typeIn K (.ref CY6) = some (.type "type"))
    (hCY6 : PySem.W.hasDictIn K CY6 = true)
    (haY6 : PySem.W.findIn K (.ref CY6) "__class__" = some (some (.builtin "object.__class__")))
    (n0Y6 : PySem.W.findIn K (.ref CY6) "found" = some none)
    (lY6 : K.lookup fY6 = some ⟨ocY6, odY6, .func (PySem.W.fnOf "__init__" "NoOp.__init__" (defArgs (inClass (top 10) 0)) (defBody (inClass (top 10) 0)) (defScope (inClass (top 10) 0)) .none kVY6 dcY6 pmY6 anY6 cdY6 ctY6), slY6⟩)
    (cY6 : PySem.W.codeIn K cdY6 "NoOp.__init__" = true)
    (kY6 : PySem.W.keepIn K (.ref fY6) = true)
    (aY7 : PySem.W.nsIn K mainGlobals "NoTerm" = some (some (.ref CY7)))
    (xY7 : K.lookup CY7 = some (excClassObj nmY7 qY7 CY7 NzY7 bsY7 (.ref CF :: veTail) true snY7 subY7 abY7 colY7 ddY7 m0Y7 m1Y7 m2Y7 m3Y7 m5Y7 "ValueError.__new__"))
    (saY7 : PySem.W.findIn K (.ref CY7) "__setattr__" = some (some (.builtin "object.__setattr__")))
    (gaY7 : PySem.W.findIn K (.ref CY7) "__getattribute__" = some (some (.builtin "BaseException.__getattribute__")))
    (ggY7 : PySem.W.findIn K (.ref CY7) "__getattr__" = some none)
    (iY7 : PySem.W.findIn K (.ref CY7) "__init__" = some (some (.ref fY7)))
    (tY7 : PySem.W.typeIn K (.ref fY7) = some (.type "function"))
    (kCY7 : PySem.W.keepIn K (.ref CY7) = true)
    (tCY7 : PySem.W.typeIn K (.ref CY7) = some (.type "type"))
    (hCY7 : PySem.W.hasDictIn K CY7 = true)
    (haY7 : PySem.W.findIn K (.ref CY7) "__class__" = some (some (.builtin "object.__class__")))
    (n0Y7 : PySem.W.findIn K (.ref CY7) "found" = some none)
    (lY7 : K.lookup fY7 = some ⟨ocY7, odY7, .func (PySem.W.fnOf "__init__" "NoTerm.__init__" (defArgs (inClass (top 11) 0)) (defBody (inClass (top 11) 0)) (defScope (inClass (top 11) 0)) .none kVY7 dcY7 pmY7 anY7 cdY7 ctY7), slY7⟩)
    (cY7 : PySem.W.codeIn K cdY7 "NoTerm.__init__" = true)
    (kY7 : PySem.W.keepIn K (.ref fY7) = true)
    (aY8 : PySem.W.nsIn K mainGlobals "NoNames" = some (some (.ref CY8)))
    (xY8 : K.lookup CY8 = some (excClassObj nmY8 qY8 CY8 NzY8 bsY8 (.ref CF :: veTail) true snY8 subY8 abY8 colY8 ddY8 m0Y8 m1Y8 m2Y8 m3Y8 m5Y8 "ValueError.__new__"))
    (saY8 : PySem.W.findIn K (.ref CY8) "__setattr__" = some (some (.builtin "object.__setattr__")))
    (gaY8 : PySem.W.findIn K (.ref CY8) "__getattribute__" = some (some (.builtin "BaseException.__getattribute__")))
    (ggY8 : PySem.W.findIn K (.ref CY8) "__getattr__" = some none)
    (iY8 : PySem.W.findIn K (.ref CY8) "__init__" = some (some (.ref fY8)))
    (tY8 : PySem.W.typeIn K (.ref fY8) = some (.type "function"))
    (kCY8 : PySem.W.keepIn K (.ref CY8) = true)
    (tCY8 : PySem.W.typeIn K (.ref CY8) = some (.type "type"))
    (hCY8 : PySem.W.hasDictIn K CY8 = true)
    (haY8 : PySem.W.findIn K (.ref CY8) "__class__" = some (some (.builtin "object.__class__")))
    (n0Y8 : PySem.W.findIn K (.ref CY8) "found" = some none)
    (lY8 : K.lookup fY8 = some ⟨ocY8, odY8, .func (PySem.W.fnOf "__init__" "NoNames.__init__" (defArgs (inClass (top 12) 0)) (defBody (inClass (top 12) 0)) (defScope (inClass (top 12) 0)) .none kVY8 dcY8 pmY8 anY8 cdY8 ctY8), slY8⟩)
    (cY8 : PySem.W.codeIn K cdY8 "NoNames.__init__" = true)
    (kY8 : PySem.W.keepIn K (.ref fY8) = true)
    (aY9 : PySem.W.nsIn K mainGlobals "NoNode" = some (some (.ref CY9)))
    (xY9 : K.lookup CY9 = some (excClassObj nmY9 qY9 CY9 NzY9 bsY9 (.ref CF :: veTail) true snY9 subY9 abY9 colY9 ddY9 m0Y9 m1Y9 m2Y9 m3Y9 m5Y9 "ValueError.__new__"))
    (saY9 : PySem.W.findIn K (.ref CY9) "__setattr__" = some (some (.builtin "object.__setattr__")))
    (gaY9 : PySem.W.findIn K (.ref CY9) "__getattribute__" = some (some (.builtin "BaseException.__getattribute__")))
    (ggY9 : PySem.W.findIn K (.ref CY9) "__getattr__" = some none)
    (iY9 : PySem.W.findIn K (.ref CY9) "__init__" = some (some (.ref fY9)))
    (tY9 : PySem.W.typeIn K (.ref fY9) = some (.type "function"))
    (kCY9 : PySem.W.keepIn K (.ref CY9) = true)
    (tCY9 : PySem.W.typeIn K (.ref CY9) = some (.type "type"))
    (hCY9 : PySem.W.hasDictIn K CY9 = true)
    (haY9 : PySem.W.findIn K (.ref CY9) "__class__" = some (some (.builtin "object.__class__")))
    (n0Y9 : PySem.W.findIn K (.ref CY9) "found" = some none)
    (lY9 : K.lookup fY9 = some ⟨ocY9, odY9, .func (PySem.W.fnOf "__init__" "NoNode.__init__" (defArgs (inClass (top 13) 0)) (defBody (inClass (top 13) 0)) (defScope (inClass (top 13) 0)) .none kVY9 dcY9 pmY9 anY9 cdY9 ctY9), slY9⟩)
    (cY9 : PySem.W.codeIn K cdY9 "NoNode.__init__" = true)
    (kY9 : PySem.W.keepIn K (.ref fY9) = true)
    (aY10 : PySem.W.nsIn K mainGlobals "NoNodes" = some (some (.ref CY10)))
    (xY10 : K.lookup CY10 = some (excClassObj nmY10 qY10 CY10 NzY10 bsY10 (.ref CF :: veTail) true snY10 subY10 abY10 colY10 ddY10 m0Y10 m1Y10 m2Y10 m3Y10 m5Y10 "ValueError.__new__"))
    (saY10 : PySem.W.findIn K (.ref CY10) "__setattr__" = some (some (.builtin "object.__setattr__")))
    (gaY10 : PySem.W.findIn K (.ref CY10) "__getattribute__" = some (some (.builtin "BaseException.__getattribute__")))
    (ggY10 : PySem.W.findIn K (.ref CY10) "__getattr__" = some none)
    (iY10 : PySem.W.findIn K (.ref CY10) "__init__" = some (some (.ref fY10)))
    (tY10 : PySem.W.typeIn K (.ref fY10) = some (.type "function"))
    (kCY10 : PySem.W.keepIn K (.ref CY10) = true)
    (tCY10 : PySem.W.typeIn K (.ref CY10) = some (.type "type"))
    (hCY10 : PySem.W.hasDictIn K CY10 = true)
    (haY10 : PySem.W.findIn K (.ref CY10) "__class__" = some (some (.builtin "object.__class__")))
    (n0Y10 : PySem.W.findIn K (.ref CY10) "found" = some none)
    (lY10 : K.lookup fY10 = some ⟨ocY10, odY10, .func (PySem.W.fnOf "__init__" "NoNodes.__init__" (defArgs (inClass (top 14) 0)) (defBody (inClass (top 14) 0)) (defScope (inClass (top 14) 0)) .none kVY10 dcY10 pmY10 anY10 cdY10 ctY10), slY10⟩)
    (cY10 : PySem.W.codeIn K cdY10 "NoNodes.__init__" = true)
    (kY10 : PySem.W.keepIn K (.ref fY10) = true)
    (aY11 : PySem.W.nsIn K mainGlobals "NoProgram" = some (some (.ref CY11)))
    (xY11 : K.lookup CY11 = some (excClassObj nmY11 qY11 CY11 NzY11 bsY11 (.ref CF :: veTail) true snY11 subY11 abY11 colY11 ddY11 m0Y11 m1Y11 m2Y11 m3Y11 m5Y11 "ValueError.__new__"))
    (saY11 : PySem.W.findIn K (.ref CY11) "__setattr__" = some (some (.builtin "object.__setattr__")))
    (gaY11 : PySem.W.findIn K (.ref CY11) "__getattribute__" = some (some (.builtin "BaseException.__getattribute__")))
    (ggY11 : PySem.W.findIn K (.ref CY11) "__getattr__" = some none)
    (iY11 : PySem.W.findIn K (.ref CY11) "__init__" = some (some (.ref fY11)))
    (tY11 : PySem.W.typeIn K (.ref fY11) = some (.type "function"))
    (kCY11 : PySem.W.keepIn K (.ref CY11) = true)
    (tCY11 : PySem.W.typeIn K (.ref CY11) = some (.type "type"))
    (hCY11 : PySem.W.hasDictIn K CY11 = true)
    (haY11 : PySem.W.findIn K (.ref CY11) "__class__" = some (some (.builtin "object.__class__")))
    (n0Y11 : PySem.W.findIn K (.ref CY11) "found" = some none)
    (lY11 : K.lookup fY11 = some ⟨ocY11, odY11, .func (PySem.W.fnOf "__init__" "NoProgram.__init__" (defArgs (inClass (top 15) 0)) (defBody (inClass (top 15) 0)) (defScope (inClass (top 15) 0)) .none kVY11 dcY11 pmY11 anY11 cdY11 ctY11), slY11⟩)
    (cY11 : PySem.W.codeIn K cdY11 "NoProgram.__init__" = true)
    (kY11 : PySem.W.keepIn K (.ref fY11) = true)
    (aY12 : PySem.W.nsIn K mainGlobals "NoIns" = some (some (.ref CY12)))
    (xY12 : K.lookup CY12 = some (excClassObj nmY12 qY12 CY12 NzY12 bsY12 (.ref CF :: veTail) true snY12 subY12 abY12 colY12 ddY12 m0Y12 m1Y12 m2Y12 m3Y12 m5Y12 "ValueError.__new__"))
    (saY12 : PySem.W.findIn K (.ref CY12) "__setattr__" = some (some (.builtin "object.__setattr__")))
    (gaY12 : PySem.W.findIn K (.ref CY12) "__getattribute__" = some (some (.builtin "BaseException.__getattribute__")))
    (ggY12 : PySem.W.findIn K (.ref CY12) "__getattr__" = some none)
    (iY12 : PySem.W.findIn K (.ref CY12) "__init__" = some (some (.ref fY12)))
    (tY12 : PySem.W.typeIn K (.ref fY12) = some (.type "function"))
    (kCY12 : PySem.W.keepIn K (.ref CY12) = true)
    (tCY12 : PySem.W.typeIn K (.ref CY12) = some (.type "type"))
    (hCY12 : PySem.W.hasDictIn K CY12 = true)
    (haY12 : PySem.W.findIn K (.ref CY12) "__class__" = some (some (.builtin "object.__class__")))
    (n0Y12 : PySem.W.findIn K (.ref CY12) "found" = some none)
    (lY12 : K.lookup fY12 = some ⟨ocY12, odY12, .func (PySem.W.fnOf "__init__" "NoIns.__init__" (defArgs (inClass (top 16) 0)) (defBody (inClass (top 16) 0)) (defScope (inClass (top 16) 0)) .none kVY12 dcY12 pmY12 anY12 cdY12 ctY12), slY12⟩)
    (cY12 : PySem.W.codeIn K cdY12 "NoIns.__init__" = true)
    (kY12 : PySem.W.keepIn K (.ref fY12) = true)
    (aY13 : PySem.W.nsIn K mainGlobals "NoFlat" = some (some (.ref CY13)))
    (xY13 : K.lookup CY13 = some (excClassObj nmY13 qY13 CY13 NzY13 bsY13 (.ref CF :: veTail) true snY13 subY13 abY13 colY13 ddY13 m0Y13 m1Y13 m2Y13 m3Y13 m5Y13 "ValueError.__new__"))
    (saY13 : PySem.W.findIn K (.ref CY13) "__setattr__" = some (some (.builtin "object.__setattr__")))
    (gaY13 : PySem.W.findIn K (.ref CY13) "__getattribute__" = some (some (.builtin "BaseException.__getattribute__")))
    (ggY13 : PySem.W.findIn K (.ref CY13) "__getattr__" = some none)
    (iY13 : PySem.W.findIn K (.ref CY13) "__init__" = some (some (.ref fY13)))
    (tY13 : PySem.W.typeIn K (.ref fY13) = some (.type "function"))
    (kCY13 : PySem.W.keepIn K (.ref CY13) = true)
    (tCY13 : PySem.W.typeIn K (.ref CY13) = some (.type "type"))
    (hCY13 : PySem.W.hasDictIn K CY13 = true)
    (haY13 : PySem.W.findIn K (.ref CY13) "__class__" = some (some (.builtin "object.__class__")))
    (n0Y13 : PySem.W.findIn K (.ref CY13) "found" = some none)
    (lY13 : K.lookup fY13 = some ⟨ocY13, odY13, .func (PySem.W.fnOf "__init__" "NoFlat.__init__" (defArgs (inClass (top 17) 0)) (defBody (inClass (top 17) 0)) (defScope (inClass (top 17) 0)) .none kVY13 dcY13 pmY13 anY13 cdY13 ctY13), slY13⟩)
    (cY13 : PySem.W.codeIn K cdY13 "NoFlat.__init__" = true)
    (kY13 : PySem.W.keepIn K (.ref fY13) = true)
    (aY14 : PySem.W.nsIn K mainGlobals "NoCode" = some (some (.ref CY14)))
    (xY14 : K.lookup CY14 = some (excClassObj nmY14 qY14 CY14 NzY14 bsY14 (.ref CF :: veTail) true snY14 subY14 abY14 colY14 ddY14 m0Y14 m1Y14 m2Y14 m3Y14 m5Y14 "ValueError.__new__"))
    (saY14 : PySem.W.findIn K (.ref CY14) "__setattr__" = some (some (.builtin "object.__setattr__")))
    (gaY14 : PySem.W.findIn K (.ref CY14) "__getattribute__" = some (some (.builtin "BaseException.__getattribute__")))
    (ggY14 : PySem.W.findIn K (.ref CY14) "__getattr__" = some none)
    (iY14 : PySem.W.findIn K (.ref CY14) "__init__" = some (some (.ref fY14)))
    (tY14 : PySem.W.typeIn K (.ref fY14) = some (.type "function"))
    (kCY14 : PySem.W.keepIn K (.ref CY14) = true)
    (tCY14 : PySem.W.typeIn K (.ref CY14) = some (.type "type"))
    (hCY14 : PySem.W.hasDictIn K CY14 = true)
    (haY14 : PySem.W.findIn K (.ref CY14) "__class__" = some (some (.builtin "object.__class__")))
    (n0Y14 : PySem.W.findIn K (.ref CY14) "found" = some none)
    (lY14 : K.lookup fY14 = some ⟨ocY14, odY14, .func (PySem.W.fnOf "__init__" "NoCode.__init__" (defArgs (inClass (top 18) 0)) (defBody (inClass (top 18) 0)) (defScope (inClass (top 18) 0)) .none kVY14 dcY14 pmY14 anY14 cdY14 ctY14), slY14⟩)
    (cY14 : PySem.W.codeIn K cdY14 "NoCode.__init__" = true)
    (kY14 : PySem.W.keepIn K (.ref fY14) = true)
    (aY15 : PySem.W.nsIn K mainGlobals "NoWires" = some (some (.ref CY15)))
    (xY15 : K.lookup CY15 = some (excClassObj nmY15 qY15 CY15 NzY15 bsY15 (.ref CF :: veTail) true snY15 subY15 abY15 colY15 ddY15 m0Y15 m1Y15 m2Y15 m3Y15 m5Y15 "ValueError.__new__"))
    (saY15 : PySem.W.findIn K (.ref CY15) "__setattr__" = some (some (.builtin "object.__setattr__")))
    (gaY15 : PySem.W.findIn K (.ref CY15) "__getattribute__" = some (some (.builtin "BaseException.__getattribute__")))
    (ggY15 : PySem.W.findIn K (.ref CY15) "__getattr__" = some none)
    (iY15 : PySem.W.findIn K (.ref CY15) "__init__" = some (some (.ref fY15)))
    (tY15 : PySem.W.typeIn K (.ref fY15) = some (.type "function"))
    (kCY15 : PySem.W.keepIn K (.ref CY15) = true)
    (tCY15 : PySem.W.typeIn K (.ref CY15) = some (.type "type"))
    (hCY15 : PySem.W.hasDictIn K CY15 = true)
    (haY15 : PySem.W.findIn K (.ref CY15) "__class__" = some (some (.builtin "object.__class__")))
    (n0Y15 : PySem.W.findIn K (.ref CY15) "found" = some none)
    (lY15 : K.lookup fY15 = some ⟨ocY15, odY15, .func (PySem.W.fnOf "__init__" "NoWires.__init__" (defArgs (inClass (top 19) 0)) (defBody (inClass (top 19) 0)) (defScope (inClass (top 19) 0)) .none kVY15 dcY15 pmY15 anY15 cdY15 ctY15), slY15⟩)
    (cY15 : PySem.W.codeIn K cdY15 "NoWires.__init__" = true)
    (kY15 : PySem.W.keepIn K (.ref fY15) = true)
    (aY16 : PySem.W.nsIn K mainGlobals "NoLetter" = some (some (.ref CY16)))
    (xY16 : K.lookup CY16 = some (excClassObj nmY16 qY16 CY16 NzY16 bsY16 (.ref CF :: veTail) true snY16 subY16 abY16 colY16 ddY16 m0Y16 m1Y16 m2Y16 m3Y16 m5Y16 "ValueError.__new__"))
    (saY16 : PySem.W.findIn K (.ref CY16) "__setattr__" = some (some (.builtin "object.__setattr__")))
    (gaY16 : PySem.W.findIn K (.ref CY16) "__getattribute__" = some (some (.builtin "BaseException.__getattribute__")))
    (ggY16 : PySem.W.findIn K (.ref CY16) "__getattr__" = some none)
    (iY16 : PySem.W.findIn K (.ref CY16) "__init__" = some (some (.ref fY16)))
    (tY16 : PySem.W.typeIn K (.ref fY16) = some (.type "function"))
    (kCY16 : PySem.W.keepIn K (.ref CY16) = true)
    (tCY16 : PySem.W.typeIn K (.ref CY16) = some (.type "type"))
    (hCY16 : PySem.W.hasDictIn K CY16 = true)
    (haY16 : PySem.W.findIn K (.ref CY16) "__class__" = some (some (.builtin "object.__class__")))
    (n0Y16 : PySem.W.findIn K (.ref CY16) "found" = some none)
    (lY16 : K.lookup fY16 = some ⟨ocY16, odY16, .func (PySem.W.fnOf "__init__" "NoLetter.__init__" (defArgs (inClass (top 20) 0)) (defBody (inClass (top 20) 0)) (defScope (inClass (top 20) 0)) .none kVY16 dcY16 pmY16 anY16 cdY16 ctY16), slY16⟩)
    (cY16 : PySem.W.codeIn K cdY16 "NoLetter.__init__" = true)
    (kY16 : PySem.W.keepIn K (.ref fY16) = true)
    (aY17 : PySem.W.nsIn K mainGlobals "NoPaper" = some (some (.ref CY17)))
    (xY17 : K.lookup CY17 = some (excClassObj nmY17 qY17 CY17 NzY17 bsY17 (.ref CF :: veTail) true snY17 subY17 abY17 colY17 ddY17 m0Y17 m1Y17 m2Y17 m3Y17 m5Y17 "ValueError.__new__"))
    (saY17 : PySem.W.findIn K (.ref CY17) "__setattr__" = some (some (.builtin "object.__setattr__")))
    (gaY17 : PySem.W.findIn K (.ref CY17) "__getattribute__" = some (some (.builtin "BaseException.__getattribute__")))
    (ggY17 : PySem.W.findIn K (.ref CY17) "__getattr__" = some none)
    (iY17 : PySem.W.findIn K (.ref CY17) "__init__" = some (some (.ref fY17)))
    (tY17 : PySem.W.typeIn K (.ref fY17) = some (.type "function"))
    (kCY17 : PySem.W.keepIn K (.ref CY17) = true)
    (tCY17 : PySem.W.typeIn K (.ref CY17) = some (.type "type"))
    (hCY17 : PySem.W.hasDictIn K CY17 = true)
    (haY17 : PySem.W.findIn K (.ref CY17) "__class__" = some (some (.builtin "object.__class__")))
    (n0Y17 : PySem.W.findIn K (.ref CY17) "found" = some none)
    (lY17 : K.lookup fY17 = some ⟨ocY17, odY17, .func (PySem.W.fnOf "__init__" "NoPaper.__init__" (defArgs (inClass (top 21) 0)) (defBody (inClass (top 21) 0)) (defScope (inClass (top 21) 0)) .none kVY17 dcY17 pmY17 anY17 cdY17 ctY17), slY17⟩)
    (cY17 : PySem.W.codeIn K cdY17 "NoPaper.__init__" = true)
    (kY17 : PySem.W.keepIn K (.ref fY17) = true)
    (aY18 : PySem.W.nsIn K mainGlobals "NoEdit" = some (some (.ref CY18)))
    (xY18 : K.lookup CY18 = some (excClassObj nmY18 qY18 CY18 NzY18 bsY18 (.ref CF :: veTail) true snY18 subY18 abY18 colY18 ddY18 m0Y18 m1Y18 m2Y18 m3Y18 m5Y18 "ValueError.__new__"))
    (saY18 : PySem.W.findIn K (.ref CY18) "__setattr__" = some (some (.builtin "object.__setattr__")))
    (gaY18 : PySem.W.findIn K (.ref CY18) "__getattribute__" = some (some (.builtin "BaseException.__getattribute__")))
    (ggY18 : PySem.W.findIn K (.ref CY18) "__getattr__" = some none)
    (iY18 : PySem.W.findIn K (.ref CY18) "__init__" = some (some (.ref fY18)))
    (tY18 : PySem.W.typeIn K (.ref fY18) = some (.type "function"))
    (kCY18 : PySem.W.keepIn K (.ref CY18) = true)
    (tCY18 : PySem.W.typeIn K (.ref CY18) = some (.type "type"))
    (hCY18 : PySem.W.hasDictIn K CY18 = true)
    (haY18 : PySem.W.findIn K (.ref CY18) "__class__" = some (some (.builtin "object.__class__")))
    (n0Y18 : PySem.W.findIn K (.ref CY18) "found" = some none)
    (lY18 : K.lookup fY18 = some ⟨ocY18, odY18, .func (PySem.W.fnOf "__init__" "NoEdit.__init__" (defArgs (inClass (top 22) 0)) (defBody (inClass (top 22) 0)) (defScope (inClass (top 22) 0)) .none kVY18 dcY18 pmY18 anY18 cdY18 ctY18), slY18⟩)
    (cY18 : PySem.W.codeIn K cdY18 "NoEdit.__init__" = true)
    (kY18 : PySem.W.keepIn K (.ref fY18) = true)
    (aY19 : PySem.W.nsIn K mainGlobals "NoModules" = some (some (.ref CY19)))
    (xY19 : K.lookup CY19 = some (excClassObj nmY19 qY19 CY19 NzY19 bsY19 (.ref CF :: veTail) true snY19 subY19 abY19 colY19 ddY19 m0Y19 m1Y19 m2Y19 m3Y19 m5Y19 "ValueError.__new__"))
    (saY19 : PySem.W.findIn K (.ref CY19) "__setattr__" = some (some (.builtin "object.__setattr__")))
    (gaY19 : PySem.W.findIn K (.ref CY19) "__getattribute__" = some (some (.builtin "BaseException.__getattribute__")))
    (ggY19 : PySem.W.findIn K (.ref CY19) "__getattr__" = some none)
    (iY19 : PySem.W.findIn K (.ref CY19) "__init__" = some (some (.ref fY19)))
    (tY19 : PySem.W.typeIn K (.ref fY19) = some (.type "function"))
    (kCY19 : PySem.W.keepIn K (.ref CY19) = true)
    (tCY19 : PySem.W.typeIn K (.ref CY19) = some (.type "type"))
    (hCY19 : PySem.W.hasDictIn K CY19 = true)
    (haY19 : PySem.W.findIn K (.ref CY19) "__class__" = some (some (.builtin "object.__class__")))
    (n0Y19 : PySem.W.findIn K (.ref CY19) "found" = some none)
    (lY19 : K.lookup fY19 = some ⟨ocY19, odY19, .func (PySem.W.fnOf "__init__" "NoModules.__init__" (defArgs (inClass (top 23) 0)) (defBody (inClass (top 23) 0)) (defScope (inClass (top 23) 0)) .none kVY19 dcY19 pmY19 anY19 cdY19 ctY19), slY19⟩)
    (cY19 : PySem.W.codeIn K cdY19 "NoModules.__init__" = true)
    (kY19 : PySem.W.keepIn K (.ref fY19) = true)
    (aY20 : PySem.W.nsIn K mainGlobals "NoText" = some (some (.ref CY20)))
    (xY20 : K.lookup CY20 = some (excClassObj nmY20 qY20 CY20 NzY20 bsY20 (.ref CF :: veTail) true snY20 subY20 abY20 colY20 ddY20 m0Y20 m1Y20 m2Y20 m3Y20 m5Y20 "ValueError.__new__"))
    (saY20 : PySem.W.findIn K (.ref CY20) "__setattr__" = some (some (.builtin "object.__setattr__")))
    (gaY20 : PySem.W.findIn K (.ref CY20) "__getattribute__" = some (some (.builtin "BaseException.__getattribute__")))
    (ggY20 : PySem.W.findIn K (.ref CY20) "__getattr__" = some none)
    (iY20 : PySem.W.findIn K (.ref CY20) "__init__" = some (some (.ref fY20)))
    (tY20 : PySem.W.typeIn K (.ref fY20) = some (.type "function"))
    (kCY20 : PySem.W.keepIn K (.ref CY20) = true)
    (tCY20 : PySem.W.typeIn K (.ref CY20) = some (.type "type"))
    (hCY20 : PySem.W.hasDictIn K CY20 = true)
    (haY20 : PySem.W.findIn K (.ref CY20) "__class__" = some (some (.builtin "object.__class__")))
    (n0Y20 : PySem.W.findIn K (.ref CY20) "found" = some none)
    (lY20 : K.lookup fY20 = some ⟨ocY20, odY20, .func (PySem.W.fnOf "__init__" "NoText.__init__" (defArgs (inClass (top 24) 0)) (defBody (inClass (top 24) 0)) (defScope (inClass (top 24) 0)) .none kVY20 dcY20 pmY20 anY20 cdY20 ctY20), slY20⟩)
    (cY20 : PySem.W.codeIn K cdY20 "NoText.__init__" = true)
    (kY20 : PySem.W.keepIn K (.ref fY20) = true)
    (aY21 : PySem.W.nsIn K mainGlobals "NoLine" = some (some (.ref CY21)))
    (xY21 : K.lookup CY21 = some (excClassObj nmY21 qY21 CY21 NzY21 bsY21 (.ref CF :: veTail) true snY21 subY21 abY21 colY21 ddY21 m0Y21 m1Y21 m2Y21 m3Y21 m5Y21 "ValueError.__new__"))
    (saY21 : PySem.W.findIn K (.ref CY21) "__setattr__" = some (some (.builtin "object.__setattr__")))
    (gaY21 : PySem.W.findIn K (.ref CY21) "__getattribute__" = some (some (.builtin "BaseException.__getattribute__")))
    (ggY21 : PySem.W.findIn K (.ref CY21) "__getattr__" = some none)
    (iY21 : PySem.W.findIn K (.ref CY21) "__init__" = some (some (.ref fY21)))
    (tY21 : PySem.W.typeIn K (.ref fY21) = some (.type "function"))
    (kCY21 : PySem.W.keepIn K (.ref CY21) = true)
    (tCY21 : PySem.W.typeIn K (.ref CY21) = some (.type "type"))
    (hCY21 : PySem.W.hasDictIn K CY21 = true)
    (haY21 : PySem.W.findIn K (.ref CY21) "__class__" = some (some (.builtin "object.__class__")))
    (n0Y21 : PySem.W.findIn K (.ref CY21) "found" = some none)
    (lY21 : K.lookup fY21 = some ⟨ocY21, odY21, .func (PySem.W.fnOf "__init__" "NoLine.__init__" (defArgs (inClass (top 25) 0)) (defBody (inClass (top 25) 0)) (defScope (inClass (top 25) 0)) .none kVY21 dcY21 pmY21 anY21 cdY21 ctY21), slY21⟩)
    (cY21 : PySem.W.codeIn K cdY21 "NoLine.__init__" = true)
    (kY21 : PySem.W.keepIn K (.ref fY21) = true)
    (aY22 : PySem.W.nsIn K mainGlobals "NotThere" = some (some (.ref CY22)))
    (xY22 : K.lookup CY22 = some (excClassObj nmY22 qY22 CY22 NzY22 bsY22 (.ref CM :: keTail) true snY22 subY22 abY22 colY22 ddY22 m0Y22 m1Y22 m2Y22 m3Y22 m5Y22 "LookupError.__new__"))
    (saY22 : PySem.W.findIn K (.ref CY22) "__setattr__" = some (some (.builtin "object.__setattr__")))
    (gaY22 : PySem.W.findIn K (.ref CY22) "__getattribute__" = some (some (.builtin "BaseException.__getattribute__")))
    (ggY22 : PySem.W.findIn K (.ref CY22) "__getattr__" = some none)
    (iY22 : PySem.W.findIn K (.ref CY22) "__init__" = some (some (.ref fY22)))
    (tY22 : PySem.W.typeIn K (.ref fY22) = some (.type "function"))
    (kCY22 : PySem.W.keepIn K (.ref CY22) = true)
    (tCY22 : PySem.W.typeIn K (.ref CY22) = some (.type "type"))
    (hCY22 : PySem.W.hasDictIn K CY22 = true)
    (haY22 : PySem.W.findIn K (.ref CY22) "__class__" = some (some (.builtin "object.__class__")))
    (n0Y22 : PySem.W.findIn K (.ref CY22) "found" = some none)
    (lY22 : K.lookup fY22 = some ⟨ocY22, odY22, .func (PySem.W.fnOf "__init__" "NotThere.__init__" (defArgs (inClass (top 30) 0)) (defBody (inClass (top 30) 0)) (defScope (inClass (top 30) 0)) .none kVY22 dcY22 pmY22 anY22 cdY22 ctY22), slY22⟩)
    (cY22 : PySem.W.codeIn K cdY22 "NotThere.__init__" = true)
    (kY22 : PySem.W.keepIn K (.ref fY22) = true)
    (aY23 : PySem.W.nsIn K mainGlobals "NoOut" = some (some (.ref CY23)))
    (xY23 : K.lookup CY23 = some (excClassObj nmY23 qY23 CY23 NzY23 bsY23 (.ref CM :: keTail) true snY23 subY23 abY23 colY23 ddY23 m0Y23 m1Y23 m2Y23 m3Y23 m5Y23 "LookupError.__new__"))
    (saY23 : PySem.W.findIn K (.ref CY23) "__setattr__" = some (some (.builtin "object.__setattr__")))
    (gaY23 : PySem.W.findIn K (.ref CY23) "__getattribute__" = some (some (.builtin "BaseException.__getattribute__")))
    (ggY23 : PySem.W.findIn K (.ref CY23) "__getattr__" = some none)
    (iY23 : PySem.W.findIn K (.ref CY23) "__init__" = some (some (.ref fY23)))
    (tY23 : PySem.W.typeIn K (.ref fY23) = some (.type "function"))
    (kCY23 : PySem.W.keepIn K (.ref CY23) = true)
    (tCY23 : PySem.W.typeIn K (.ref CY23) = some (.type "type"))
    (hCY23 : PySem.W.hasDictIn K CY23 = true)
    (haY23 : PySem.W.findIn K (.ref CY23) "__class__" = some (some (.builtin "object.__class__")))
    (n0Y23 : PySem.W.findIn K (.ref CY23) "found" = some none)
    (lY23 : K.lookup fY23 = some ⟨ocY23, odY23, .func (PySem.W.fnOf "__init__" "NoOut.__init__" (defArgs (inClass (top 31) 0)) (defBody (inClass (top 31) 0)) (defScope (inClass (top 31) 0)) .none kVY23 dcY23 pmY23 anY23 cdY23 ctY23), slY23⟩)
    (cY23 : PySem.W.codeIn K cdY23 "NoOut.__init__" = true)
    (kY23 : PySem.W.keepIn K (.ref fY23) = true)
    (aY24 : PySem.W.nsIn K mainGlobals "TooLate" = some (some (.ref CY24)))
    (xY24 : K.lookup CY24 = some (excClassObj nmY24 qY24 CY24 NzY24 bsY24 (.ref CB :: leTail) true snY24 subY24 abY24 colY24 ddY24 m0Y24 m1Y24 m2Y24 m3Y24 m5Y24 "LookupError.__new__"))
    (saY24 : PySem.W.findIn K (.ref CY24) "__setattr__" = some (some (.builtin "object.__setattr__")))
    (gaY24 : PySem.W.findIn K (.ref CY24) "__getattribute__" = some (some (.builtin "BaseException.__getattribute__")))
    (ggY24 : PySem.W.findIn K (.ref CY24) "__getattr__" = some none)
    (iY24 : PySem.W.findIn K (.ref CY24) "__init__" = some (some (.ref fY24)))
    (tY24 : PySem.W.typeIn K (.ref fY24) = some (.type "function"))
    (kCY24 : PySem.W.keepIn K (.ref CY24) = true)
    (tCY24 : PySem.W.typeIn K (.ref CY24) = some (.type "type"))
    (hCY24 : PySem.W.hasDictIn K CY24 = true)
    (haY24 : PySem.W.findIn K (.ref CY24) "__class__" = some (some (.builtin "object.__class__")))
    (n0Y24 : PySem.W.findIn K (.ref CY24) "found" = some none)
    (lY24 : K.lookup fY24 = some ⟨ocY24, odY24, .func (PySem.W.fnOf "__init__" "TooLate.__init__" (defArgs (inClass (top 35) 0)) (defBody (inClass (top 35) 0)) (defScope (inClass (top 35) 0)) .none kVY24 dcY24 pmY24 anY24 cdY24 ctY24), slY24⟩)
    (cY24 : PySem.W.codeIn K cdY24 "TooLate.__init__" = true)
    (kY24 : PySem.W.keepIn K (.ref fY24) = true)
    (aY25 : PySem.W.nsIn K mainGlobals "Twice" = some (some (.ref CY25)))
    (xY25 : K.lookup CY25 = some (excClassObj nmY25 qY25 CY25 NzY25 bsY25 (.ref CB :: leTail) true snY25 subY25 abY25 colY25 ddY25 m0Y25 m1Y25 m2Y25 m3Y25 m5Y25 "LookupError.__new__"))
    (saY25 : PySem.W.findIn K (.ref CY25) "__setattr__" = some (some (.builtin "object.__setattr__")))
    (gaY25 : PySem.W.findIn K (.ref CY25) "__getattribute__" = some (some (.builtin "BaseException.__getattribute__")))
    (ggY25 : PySem.W.findIn K (.ref CY25) "__getattr__" = some none)
    (iY25 : PySem.W.findIn K (.ref CY25) "__init__" = some (some (.ref fY25)))
    (tY25 : PySem.W.typeIn K (.ref fY25) = some (.type "function"))
    (kCY25 : PySem.W.keepIn K (.ref CY25) = true)
    (tCY25 : PySem.W.typeIn K (.ref CY25) = some (.type "type"))
    (hCY25 : PySem.W.hasDictIn K CY25 = true)
    (haY25 : PySem.W.findIn K (.ref CY25) "__class__" = some (some (.builtin "object.__class__")))
    (n0Y25 : PySem.W.findIn K (.ref CY25) "found" = some none)
    (lY25 : K.lookup fY25 = some ⟨ocY25, odY25, .func (PySem.W.fnOf "__init__" "Twice.__init__" (defArgs (inClass (top 36) 0)) (defBody (inClass (top 36) 0)) (defScope (inClass (top 36) 0)) .none kVY25 dcY25 pmY25 anY25 cdY25 ctY25), slY25⟩)
    (cY25 : PySem.W.codeIn K cdY25 "Twice.__init__" = true)
    (kY25 : PySem.W.keepIn K (.ref fY25) = true)
    (aY26 : PySem.W.nsIn K mainGlobals "Over" = some (some (.ref CY26)))
    (xY26 : K.lookup CY26 = some (excClassObj nmY26 qY26 CY26 NzY26 bsY26 (.ref CB :: leTail) true snY26 subY26 abY26 colY26 ddY26 m0Y26 m1Y26 m2Y26 m3Y26 m5Y26 "LookupError.__new__"))
    (saY26 : PySem.W.findIn K (.ref CY26) "__setattr__" = some (some (.builtin "object.__setattr__")))
    (gaY26 : PySem.W.findIn K (.ref CY26) "__getattribute__" = some (some (.builtin "BaseException.__getattribute__")))
    (ggY26 : PySem.W.findIn K (.ref CY26) "__getattr__" = some none)
    (iY26 : PySem.W.findIn K (.ref CY26) "__init__" = some (some (.ref fY26)))
    (tY26 : PySem.W.typeIn K (.ref fY26) = some (.type "function"))
    (kCY26 : PySem.W.keepIn K (.ref CY26) = true)
    (tCY26 : PySem.W.typeIn K (.ref CY26) = some (.type "type"))
    (hCY26 : PySem.W.hasDictIn K CY26 = true)
    (haY26 : PySem.W.findIn K (.ref CY26) "__class__" = some (some (.builtin "object.__class__")))
    (n0Y26 : PySem.W.findIn K (.ref CY26) "found" = some none)
    (lY26 : K.lookup fY26 = some ⟨ocY26, odY26, .func (PySem.W.fnOf "__init__" "Over.__init__" (defArgs (inClass (top 37) 0)) (defBody (inClass (top 37) 0)) (defScope (inClass (top 37) 0)) .none kVY26 dcY26 pmY26 anY26 cdY26 ctY26), slY26⟩)
    (cY26 : PySem.W.codeIn K cdY26 "Over.__init__" = true)
    (kY26 : PySem.W.keepIn K (.ref fY26) = true)
    (aY27 : PySem.W.nsIn K mainGlobals "Busy" = some (some (.ref CY27)))
    (xY27 : K.lookup CY27 = some (excClassObj nmY27 qY27 CY27 NzY27 bsY27 (.ref CB :: leTail) true snY27 subY27 abY27 colY27 ddY27 m0Y27 m1Y27 m2Y27 m3Y27 m5Y27 "LookupError.__new__"))
    (saY27 : PySem.W.findIn K (.ref CY27) "__setattr__" = some (some (.builtin "object.__setattr__")))
    (gaY27 : PySem.W.findIn K (.ref CY27) "__getattribute__" = some (some (.builtin "BaseException.__getattribute__")))
    (ggY27 : PySem.W.findIn K (.ref CY27) "__getattr__" = some none)
    (iY27 : PySem.W.findIn K (.ref CY27) "__init__" = some (some (.ref fY27)))
    (tY27 : PySem.W.typeIn K (.ref fY27) = some (.type "function"))
    (kCY27 : PySem.W.keepIn K (.ref CY27) = true)
    (tCY27 : PySem.W.typeIn K (.ref CY27) = some (.type "type"))
    (hCY27 : PySem.W.hasDictIn K CY27 = true)
    (haY27 : PySem.W.findIn K (.ref CY27) "__class__" = some (some (.builtin "object.__class__")))
    (n0Y27 : PySem.W.findIn K (.ref CY27) "found" = some none)
    (lY27 : K.lookup fY27 = some ⟨ocY27, odY27, .func (PySem.W.fnOf "__init__" "Busy.__init__" (defArgs (inClass (top 38) 0)) (defBody (inClass (top 38) 0)) (defScope (inClass (top 38) 0)) .none kVY27 dcY27 pmY27 anY27 cdY27 ctY27), slY27⟩)
    (cY27 : PySem.W.codeIn K cdY27 "Busy.__init__" = true)
    (kY27 : PySem.W.keepIn K (.ref fY27) = true)
    (aY28 : PySem.W.nsIn K mainGlobals "Unfit" = some (some (.ref CY28)))
    (xY28 : K.lookup CY28 = some (excClassObj nmY28 qY28 CY28 NzY28 bsY28 (.ref CF :: veTail) true snY28 subY28 abY28 colY28 ddY28 m0Y28 m1Y28 m2Y28 m3Y28 m5Y28 "ValueError.__new__"))
    (saY28 : PySem.W.findIn K (.ref CY28) "__setattr__" = some (some (.builtin "object.__setattr__")))
    (gaY28 : PySem.W.findIn K (.ref CY28) "__getattribute__" = some (some (.builtin "BaseException.__getattribute__")))
    (ggY28 : PySem.W.findIn K (.ref CY28) "__getattr__" = some none)
    (iY28 : PySem.W.findIn K (.ref CY28) "__init__" = some (some (.ref fY28)))
    (tY28 : PySem.W.typeIn K (.ref fY28) = some (.type "function"))
    (kCY28 : PySem.W.keepIn K (.ref CY28) = true)
    (tCY28 : PySem.W.typeIn K (.ref CY28) = some (.type "type"))
    (hCY28 : PySem.W.hasDictIn K CY28 = true)
    (haY28 : PySem.W.findIn K (.ref CY28) "__class__" = some (some (.builtin "object.__class__")))
    (n0Y28 : PySem.W.findIn K (.ref CY28) "where" = some none)
    (n1Y28 : PySem.W.findIn K (.ref CY28) "at" = some none)
    (n2Y28 : PySem.W.findIn K (.ref CY28) "why" = some none)
    (n3Y28 : PySem.W.findIn K (.ref CY28) "found" = some none)
    (lY28 : K.lookup fY28 = some ⟨ocY28, odY28, .func (PySem.W.fnOf "__init__" "Unfit.__init__" (defArgs (inClass (top 26) 0)) (defBody (inClass (top 26) 0)) (defScope (inClass (top 26) 0)) .none kVY28 dcY28 pmY28 anY28 cdY28 ctY28), slY28⟩)
    (cY28 : PySem.W.codeIn K cdY28 "Unfit.__init__" = true)
    (kY28 : PySem.W.keepIn K (.ref fY28) = true)
    (aY29 : PySem.W.nsIn K mainGlobals "Ringed" = some (some (.ref CY29)))
    (xY29 : K.lookup CY29 = some (excClassObj nmY29 qY29 CY29 NzY29 bsY29 (.ref CF :: veTail) true snY29 subY29 abY29 colY29 ddY29 m0Y29 m1Y29 m2Y29 m3Y29 m5Y29 "ValueError.__new__"))
    (saY29 : PySem.W.findIn K (.ref CY29) "__setattr__" = some (some (.builtin "object.__setattr__")))
    (gaY29 : PySem.W.findIn K (.ref CY29) "__getattribute__" = some (some (.builtin "BaseException.__getattribute__")))
    (ggY29 : PySem.W.findIn K (.ref CY29) "__getattr__" = some none)
    (iY29 : PySem.W.findIn K (.ref CY29) "__init__" = some (some (.ref fY29)))
    (tY29 : PySem.W.typeIn K (.ref fY29) = some (.type "function"))
    (kCY29 : PySem.W.keepIn K (.ref CY29) = true)
    (tCY29 : PySem.W.typeIn K (.ref CY29) = some (.type "type"))
    (hCY29 : PySem.W.hasDictIn K CY29 = true)
    (haY29 : PySem.W.findIn K (.ref CY29) "__class__" = some (some (.builtin "object.__class__")))
    (n0Y29 : PySem.W.findIn K (.ref CY29) "where" = some none)
    (n1Y29 : PySem.W.findIn K (.ref CY29) "ring" = some none)
    (lY29 : K.lookup fY29 = some ⟨ocY29, odY29, .func (PySem.W.fnOf "__init__" "Ringed.__init__" (defArgs (inClass (top 27) 0)) (defBody (inClass (top 27) 0)) (defScope (inClass (top 27) 0)) .none kVY29 dcY29 pmY29 anY29 cdY29 ctY29), slY29⟩)
    (cY29 : PySem.W.codeIn K cdY29 "Ringed.__init__" = true)
    (kY29 : PySem.W.keepIn K (.ref fY29) = true)
    (aY30 : PySem.W.nsIn K mainGlobals "Bare" = some (some (.ref CY30)))
    (xY30 : K.lookup CY30 = some (excClassObj nmY30 qY30 CY30 NzY30 bsY30 (.ref CF :: veTail) true snY30 subY30 abY30 colY30 ddY30 m0Y30 m1Y30 m2Y30 m3Y30 m5Y30 "ValueError.__new__"))
    (saY30 : PySem.W.findIn K (.ref CY30) "__setattr__" = some (some (.builtin "object.__setattr__")))
    (gaY30 : PySem.W.findIn K (.ref CY30) "__getattribute__" = some (some (.builtin "BaseException.__getattribute__")))
    (ggY30 : PySem.W.findIn K (.ref CY30) "__getattr__" = some none)
    (iY30 : PySem.W.findIn K (.ref CY30) "__init__" = some (some (.ref fY30)))
    (tY30 : PySem.W.typeIn K (.ref fY30) = some (.type "function"))
    (kCY30 : PySem.W.keepIn K (.ref CY30) = true)
    (tCY30 : PySem.W.typeIn K (.ref CY30) = some (.type "type"))
    (hCY30 : PySem.W.hasDictIn K CY30 = true)
    (haY30 : PySem.W.findIn K (.ref CY30) "__class__" = some (some (.builtin "object.__class__")))
    (n0Y30 : PySem.W.findIn K (.ref CY30) "where" = some none)
    (n1Y30 : PySem.W.findIn K (.ref CY30) "at" = some none)
    (n2Y30 : PySem.W.findIn K (.ref CY30) "found" = some none)
    (lY30 : K.lookup fY30 = some ⟨ocY30, odY30, .func (PySem.W.fnOf "__init__" "Bare.__init__" (defArgs (inClass (top 28) 0)) (defBody (inClass (top 28) 0)) (defScope (inClass (top 28) 0)) .none kVY30 dcY30 pmY30 anY30 cdY30 ctY30), slY30⟩)
    (cY30 : PySem.W.codeIn K cdY30 "Bare.__init__" = true)
    (kY30 : PySem.W.keepIn K (.ref fY30) = true)
    (aY31 : PySem.W.nsIn K mainGlobals "NoRow" = some (some (.ref CY31)))
    (xY31 : K.lookup CY31 = some (excClassObj nmY31 qY31 CY31 NzY31 bsY31 (.ref CF :: veTail) true snY31 subY31 abY31 colY31 ddY31 m0Y31 m1Y31 m2Y31 m3Y31 m5Y31 "ValueError.__new__"))
    (saY31 : PySem.W.findIn K (.ref CY31) "__setattr__" = some (some (.builtin "object.__setattr__")))
    (gaY31 : PySem.W.findIn K (.ref CY31) "__getattribute__" = some (some (.builtin "BaseException.__getattribute__")))
    (ggY31 : PySem.W.findIn K (.ref CY31) "__getattr__" = some none)
    (iY31 : PySem.W.findIn K (.ref CY31) "__init__" = some (some (.ref fY31)))
    (tY31 : PySem.W.typeIn K (.ref fY31) = some (.type "function"))
    (kCY31 : PySem.W.keepIn K (.ref CY31) = true)
    (tCY31 : PySem.W.typeIn K (.ref CY31) = some (.type "type"))
    (hCY31 : PySem.W.hasDictIn K CY31 = true)
    (haY31 : PySem.W.findIn K (.ref CY31) "__class__" = some (some (.builtin "object.__class__")))
    (n0Y31 : PySem.W.findIn K (.ref CY31) "at" = some none)
    (lY31 : K.lookup fY31 = some ⟨ocY31, odY31, .func (PySem.W.fnOf "__init__" "NoRow.__init__" (defArgs (inClass (top 29) 0)) (defBody (inClass (top 29) 0)) (defScope (inClass (top 29) 0)) .none kVY31 dcY31 pmY31 anY31 cdY31 ctY31), slY31⟩)
    (cY31 : PySem.W.codeIn K cdY31 "NoRow.__init__" = true)
    (kY31 : PySem.W.keepIn K (.ref fY31) = true)
    (aY32 : PySem.W.nsIn K mainGlobals "NoImport" = some (some (.ref CY32)))
    (xY32 : K.lookup CY32 = some (excClassObj nmY32 qY32 CY32 NzY32 bsY32 (.ref CM :: keTail) true snY32 subY32 abY32 colY32 ddY32 m0Y32 m1Y32 m2Y32 m3Y32 m5Y32 "LookupError.__new__"))
    (saY32 : PySem.W.findIn K (.ref CY32) "__setattr__" = some (some (.builtin "object.__setattr__")))
    (gaY32 : PySem.W.findIn K (.ref CY32) "__getattribute__" = some (some (.builtin "BaseException.__getattribute__")))
    (ggY32 : PySem.W.findIn K (.ref CY32) "__getattr__" = some none)
    (iY32 : PySem.W.findIn K (.ref CY32) "__init__" = some (some (.ref fY32)))
    (tY32 : PySem.W.typeIn K (.ref fY32) = some (.type "function"))
    (kCY32 : PySem.W.keepIn K (.ref CY32) = true)
    (tCY32 : PySem.W.typeIn K (.ref CY32) = some (.type "type"))
    (hCY32 : PySem.W.hasDictIn K CY32 = true)
    (haY32 : PySem.W.findIn K (.ref CY32) "__class__" = some (some (.builtin "object.__class__")))
    (n0Y32 : PySem.W.findIn K (.ref CY32) "where" = some none)
    (n1Y32 : PySem.W.findIn K (.ref CY32) "found" = some none)
    (lY32 : K.lookup fY32 = some ⟨ocY32, odY32, .func (PySem.W.fnOf "__init__" "NoImport.__init__" (defArgs (inClass (top 32) 0)) (defBody (inClass (top 32) 0)) (defScope (inClass (top 32) 0)) .none kVY32 dcY32 pmY32 anY32 cdY32 ctY32), slY32⟩)
    (cY32 : PySem.W.codeIn K cdY32 "NoImport.__init__" = true)
    (kY32 : PySem.W.keepIn K (.ref fY32) = true)
    (aY33 : PySem.W.nsIn K mainGlobals "TooMany" = some (some (.ref CY33)))
    (xY33 : K.lookup CY33 = some (excClassObj nmY33 qY33 CY33 NzY33 bsY33 (.ref CB :: leTail) true snY33 subY33 abY33 colY33 ddY33 m0Y33 m1Y33 m2Y33 m3Y33 m5Y33 "LookupError.__new__"))
    (saY33 : PySem.W.findIn K (.ref CY33) "__setattr__" = some (some (.builtin "object.__setattr__")))
    (gaY33 : PySem.W.findIn K (.ref CY33) "__getattribute__" = some (some (.builtin "BaseException.__getattribute__")))
    (ggY33 : PySem.W.findIn K (.ref CY33) "__getattr__" = some none)
    (iY33 : PySem.W.findIn K (.ref CY33) "__init__" = some (some (.ref fY33)))
    (tY33 : PySem.W.typeIn K (.ref fY33) = some (.type "function"))
    (kCY33 : PySem.W.keepIn K (.ref CY33) = true)
    (tCY33 : PySem.W.typeIn K (.ref CY33) = some (.type "type"))
    (hCY33 : PySem.W.hasDictIn K CY33 = true)
    (haY33 : PySem.W.findIn K (.ref CY33) "__class__" = some (some (.builtin "object.__class__")))
    (n0Y33 : PySem.W.findIn K (.ref CY33) "many" = some none)
    (lY33 : K.lookup fY33 = some ⟨ocY33, odY33, .func (PySem.W.fnOf "__init__" "TooMany.__init__" (defArgs (inClass (top 33) 0)) (defBody (inClass (top 33) 0)) (defScope (inClass (top 33) 0)) .none kVY33 dcY33 pmY33 anY33 cdY33 ctY33), slY33⟩)
    (cY33 : PySem.W.codeIn K cdY33 "TooMany.__init__" = true)
    (kY33 : PySem.W.keepIn K (.ref fY33) = true)
    (aY34 : PySem.W.nsIn K mainGlobals "TooSlow" = some (some (.ref CY34)))
    (xY34 : K.lookup CY34 = some (excClassObj nmY34 qY34 CY34 NzY34 bsY34 (.ref CB :: leTail) true snY34 subY34 abY34 colY34 ddY34 m0Y34 m1Y34 m2Y34 m3Y34 m5Y34 "LookupError.__new__"))
    (saY34 : PySem.W.findIn K (.ref CY34) "__setattr__" = some (some (.builtin "object.__setattr__")))
    (gaY34 : PySem.W.findIn K (.ref CY34) "__getattribute__" = some (some (.builtin "BaseException.__getattribute__")))
    (ggY34 : PySem.W.findIn K (.ref CY34) "__getattr__" = some none)
    (iY34 : PySem.W.findIn K (.ref CY34) "__init__" = some (some (.ref fY34)))
    (tY34 : PySem.W.typeIn K (.ref fY34) = some (.type "function"))
    (kCY34 : PySem.W.keepIn K (.ref CY34) = true)
    (tCY34 : PySem.W.typeIn K (.ref CY34) = some (.type "type"))
    (hCY34 : PySem.W.hasDictIn K CY34 = true)
    (haY34 : PySem.W.findIn K (.ref CY34) "__class__" = some (some (.builtin "object.__class__")))
    (n0Y34 : PySem.W.findIn K (.ref CY34) "many" = some none)
    (lY34 : K.lookup fY34 = some ⟨ocY34, odY34, .func (PySem.W.fnOf "__init__" "TooSlow.__init__" (defArgs (inClass (top 34) 0)) (defBody (inClass (top 34) 0)) (defScope (inClass (top 34) 0)) .none kVY34 dcY34 pmY34 anY34 cdY34 ctY34), slY34⟩)
    (cY34 : PySem.W.codeIn K cdY34 "TooSlow.__init__" = true)
    (kY34 : PySem.W.keepIn K (.ref fY34) = true)
    (nd : [CY0, CY1, CY2, CY3, CY4, CY5, CY6, CY7, CY8, CY9, CY10, CY11, CY12, CY13, CY14, CY15, CY16, CY17, CY18, CY19, CY20, CY21, CY22, CY23, CY24, CY25, CY26, CY27, CY28, CY29, CY30, CY31, CY32, CY33, CY34, CF, CM, CB].Nodup)
    (nmE : nmY0 = "NoKind")
    (hrK : PySem.W.findIn K (.ref CY0) "__repr__" = some (some (.builtin "BaseException.__repr__"))) :
    ∃ fd : FuncData, (∀ (s : Shared) (v : Value), BindsTo s fd ⟨[v], []⟩ [("_law_script", v)]) ∧ ∀ base : Heap, K.In base → base.Ns mainGlobals mg → FnG l.prog w K mg base CX0 8 fa fd ["_law_script"] (spLaw K) := by
  have e := hfa.symm.trans (PySem.W.mg_of X G ala)
  cases e
  have Fnb := fun_mk (st := sNumber) lnb cnb knb
  have bnb := Fnb.binds (ps := ["thing"]) fun _ _ _ _ _ _ us hl => match us, hl with | [_], _ => rfl
  have Dnb : Df K mg "is_number" fnb _ ["thing"] := ⟨PySem.W.mg_of X G anb, knb, bnb⟩
  have Fwh := fun_mk (st := sWhole) lwh cwh kwh
  have bwh := Fwh.binds (ps := ["thing", "low", "high"]) fun _ _ _ _ _ _ us hl => match us, hl with | [_, _, _], _ => rfl
  have Dwh : Df K mg "is_whole" fwh _ ["thing", "low", "high"] := ⟨PySem.W.mg_of X G awh, kwh, bwh⟩
  have Fna := fun_mk (st := sName) lna cna kna
  have bna := Fna.binds (ps := ["thing"]) fun _ _ _ _ _ _ us hl => match us, hl with | [_], _ => rfl
  have Dna : Df K mg "is_name" fna _ ["thing"] := ⟨PySem.W.mg_of X G ana, kna, bna⟩
  have Fwi := fun_mk (st := sWidth) lwi cwi kwi
  have bwi := Fwi.binds (ps := ["thing"]) fun _ _ _ _ _ _ us hl => match us, hl with | [_], _ => rfl
  have Dwi : Df K mg "is_width" fwi _ ["thing"] := ⟨PySem.W.mg_of X G awi, kwi, bwi⟩
  have Ftr := fun_mk (st := sTruth) ltr ctr ktr
  have btr := Ftr.binds (ps := ["thing"]) fun _ _ _ _ _ _ us hl => match us, hl with | [_], _ => rfl
  have Dtr : Df K mg "is_truth" ftr _ ["thing"] := ⟨PySem.W.mg_of X G atr, ktr, btr⟩
  have Fki := fun_mk (st := sKind) lki cki kki
  have bki := Fki.binds (ps := ["thing"]) fun _ _ _ _ _ _ us hl => match us, hl with | [_], _ => rfl
  have Dki : Df K mg "is_kind" fki _ ["thing"] := ⟨PySem.W.mg_of X G aki, kki, bki⟩
  have Fiw := fun_mk (st := sIsWorth) liw ciw kiw
  have biw := Fiw.binds (ps := ["thing", "kind"]) fun _ _ _ _ _ _ us hl => match us, hl with | [_, _], _ => rfl
  have Diw : Df K mg "is_worth" fiw _ ["thing", "kind"] := ⟨PySem.W.mg_of X G aiw, kiw, biw⟩
  have Fic := fun_mk (st := sIsClock) lic cic kic
  have bic := Fic.binds (ps := ["thing"]) fun _ _ _ _ _ _ us hl => match us, hl with | [_], _ => rfl
  have Dic : Df K mg "is_clock" fic _ ["thing"] := ⟨PySem.W.mg_of X G aic, kic, bic⟩
  have Fgr := fun_mk (st := sGreat) lgr cgr kgr
  have bgr := Fgr.binds (ps := ["width"]) fun _ _ _ _ _ _ us hl => match us, hl with | [_], _ => rfl
  have Dgr : Df K mg "_greatest" fgr _ ["width"] := ⟨PySem.W.mg_of X G agr, kgr, bgr⟩
  have Fwo := fun_mk (st := sWorthOf) lwo cwo kwo
  have bwo := Fwo.binds (ps := ["thing", "width"]) fun _ _ _ _ _ _ us hl => match us, hl with | [_, _], _ => rfl
  have Dwo : Df K mg "_is_worth_of_width" fwo _ ["thing", "width"] := ⟨PySem.W.mg_of X G awo, kwo, bwo⟩
  have Far := fun_mk (st := sAre) lar car kar
  have bar := Far.binds (ps := ["things", "width"]) fun _ _ _ _ _ _ us hl => match us, hl with | [_, _], _ => rfl
  have Dar : Df K mg "_are_worths_of_width" far _ ["things", "width"] := ⟨PySem.W.mg_of X G aar, kar, bar⟩
  have Fco := fun_mk (st := sCond) lco cco kco
  have bco := Fco.binds (ps := ["thing"]) fun _ _ _ _ _ _ us hl => match us, hl with | [_], _ => rfl
  have Dco : Df K mg "_is_condition" fco _ ["thing"] := ⟨PySem.W.mg_of X G aco, kco, bco⟩
  have Fce := fun_mk (st := sCell) lce cce kce
  have bce := Fce.binds (ps := ["_law_script", "_law_k"]) fun _ _ _ _ _ _ us hl => match us, hl with | [_, _], _ => rfl
  have Dce : Df K mg "_law_cell" fce _ ["_law_script", "_law_k"] := ⟨PySem.W.mg_of X G ace, kce, bce⟩
  have Fpu := fun_mk (st := sPurse) lpu cpu kpu
  have bpu := Fpu.binds (ps := ["_law_cell_here"]) fun _ _ _ _ _ _ us hl => match us, hl with | [_], _ => rfl
  have Dpu : Df K mg "_law_purse" fpu _ ["_law_cell_here"] := ⟨PySem.W.mg_of X G apu, kpu, bpu⟩
  have Fta := fun_mk (st := sTake) lta cta kta
  have bta := Fta.binds (ps := ["_law_purse_here", "_law_many"]) fun _ _ _ _ _ _ us hl => match us, hl with | [_, _], _ => rfl
  have Dta : Df K mg "_law_take" fta _ ["_law_purse_here", "_law_many"] := ⟨PySem.W.mg_of X G ata, kta, bta⟩
  have Fof := fun_mk (st := sOf) lof cof kof
  have bof := Fof.binds (ps := ["_law_purse_here", "_law_some"]) fun _ _ _ _ _ _ us hl => match us, hl with | [_, _], _ => rfl
  have Dof : Df K mg "_law_of" fof _ ["_law_purse_here", "_law_some"] := ⟨PySem.W.mg_of X G aof, kof, bof⟩
  have Fnu := fun_mk (st := sNum) lnu cnu knu
  have bnu := Fnu.binds (ps := ["_law_purse_here"]) fun _ _ _ _ _ _ us hl => match us, hl with | [_], _ => rfl
  have Dnu : Df K mg "_law_number" fnu _ ["_law_purse_here"] := ⟨PySem.W.mg_of X G anu, knu, bnu⟩
  have Fnn := fun_mk (st := sNName) lnn cnn knn
  have bnn := Fnn.binds (ps := ["_law_purse_here"]) fun _ _ _ _ _ _ us hl => match us, hl with | [_], _ => rfl
  have Dnn : Df K mg "_law_near_name" fnn _ ["_law_purse_here"] := ⟨PySem.W.mg_of X G ann, knn, bnn⟩
  have Fnc := fun_mk (st := sNClock) lnc cnc knc
  have bnc := Fnc.binds (ps := ["_law_purse_here"]) fun _ _ _ _ _ _ us hl => match us, hl with | [_], _ => rfl
  have Dnc : Df K mg "_law_near_clock" fnc _ ["_law_purse_here"] := ⟨PySem.W.mg_of X G anc, knc, bnc⟩
  have Fnk := fun_mk (st := sNKind) lnk cnk knk
  have bnk := Fnk.binds (ps := ["_law_purse_here"]) fun _ _ _ _ _ _ us hl => match us, hl with | [_], _ => rfl
  have Dnk : Df K mg "_law_near_kind" fnk _ ["_law_purse_here"] := ⟨PySem.W.mg_of X G ank, knk, bnk⟩
  have Fnw := fun_mk (st := sNWorth) lnw cnw knw
  have bnw := Fnw.binds (ps := ["_law_purse_here", "_law_kind"]) fun _ _ _ _ _ _ us hl => match us, hl with | [_, _], _ => rfl
  have Dnw : Df K mg "_law_near_worth" fnw _ ["_law_purse_here", "_law_kind"] := ⟨PySem.W.mg_of X G anw, knw, bnw⟩
  have Fln := fun_mk (st := sLNum) lln cln kln
  have bln := Fln.binds (ps := ["_law_thing", "_law_low", "_law_high"]) fun _ _ _ _ _ _ us hl => match us, hl with | [_, _, _], _ => rfl
  have Dln : Df K mg "_law_is_number" fln _ ["_law_thing", "_law_low", "_law_high"] := ⟨PySem.W.mg_of X G aln, kln, bln⟩
  have Flm := fun_mk (st := sLIsName) llm clm klm
  have blm := Flm.binds (ps := ["_law_thing"]) fun _ _ _ _ _ _ us hl => match us, hl with | [_], _ => rfl
  have Dlm : Df K mg "_law_is_name" flm _ ["_law_thing"] := ⟨PySem.W.mg_of X G alm, klm, blm⟩
  have Flk := fun_mk (st := sLIsKind) llk clk klk
  have blk := Flk.binds (ps := ["_law_thing"]) fun _ _ _ _ _ _ us hl => match us, hl with | [_], _ => rfl
  have Dlk : Df K mg "_law_is_kind" flk _ ["_law_thing"] := ⟨PySem.W.mg_of X G alk, klk, blk⟩
  have Flc := fun_mk (st := sLIsClock) llc clc klc
  have blc := Flc.binds (ps := ["_law_thing"]) fun _ _ _ _ _ _ us hl => match us, hl with | [_], _ => rfl
  have Dlc : Df K mg "_law_is_clock" flc _ ["_law_thing"] := ⟨PySem.W.mg_of X G alc, klc, blc⟩
  have Flw := fun_mk (st := sLIsWorth) llw clw klw
  have blw := Flw.binds (ps := ["_law_thing", "_law_kind"]) fun _ _ _ _ _ _ us hl => match us, hl with | [_, _], _ => rfl
  have Dlw : Df K mg "_law_is_worth" flw _ ["_law_thing", "_law_kind"] := ⟨PySem.W.mg_of X G alw, klw, blw⟩
  have Fca := fun_mk (st := sCaught) lca cca kca
  have bca := Fca.binds (ps := ["_law_thing", "_law_kind"]) fun _ _ _ _ _ _ us hl => match us, hl with | [_, _], _ => rfl
  have Dca : Df K mg "_law_caught" fca _ ["_law_thing", "_law_kind"] := ⟨PySem.W.mg_of X G aca, kca, bca⟩
  have Fwr := fun_mk (st := sWRight) lwr cwr kwr
  have bwr := Fwr.binds (ps := ["_law_thing", "_law_kind"]) fun _ _ _ _ _ _ us hl => match us, hl with | [_, _], _ => rfl
  have Dwr : Df K mg "_law_worth_right" fwr _ ["_law_thing", "_law_kind"] := ⟨PySem.W.mg_of X G awr, kwr, bwr⟩
  have Ffa := fun_mk (st := sFamily) lfa cfa kfa
  have bfa := Ffa.binds (ps := ["_law_e"]) fun _ _ _ _ _ _ us hl => match us, hl with | [_], _ => rfl
  have Dfa : Df K mg "_law_family" ffa _ ["_law_e"] := ⟨PySem.W.mg_of X G afa, kfa, bfa⟩
  have Fko := fun_mk (st := sKinds) lko cko kko
  have bko := Fko.binds (ps := ["_law_e"]) fun _ _ _ _ _ _ us hl => match us, hl with | [_], _ => rfl
  have Dko : Df K mg "_law_kinds_of" fko _ ["_law_e"] := ⟨PySem.W.mg_of X G ako, kko, bko⟩
  have Fma := fun_mk (st := sMade) lma cma kma
  have bma := Fma.binds (ps := ["_law_purse_here", "_law_thing"]) fun _ _ _ _ _ _ us hl => match us, hl with | [_, _], _ => rfl
  have Dma : Df K mg "_law_made" fma _ ["_law_purse_here", "_law_thing"] := ⟨PySem.W.mg_of X G ama, kma, bma⟩
  have Fre := fun_mk (st := sRefs) lre cre kre
  have bre := Fre.binds (ps := ["_law_purse_here"]) fun _ _ _ _ _ _ us hl => match us, hl with | [_], _ => rfl
  have Dre : Df K mg "_law_refusals_right" fre _ ["_law_purse_here"] := ⟨PySem.W.mg_of X G are, kre, bre⟩
  have Fla := fun_mk (st := sLaw) lla cla kla
  have misinstance := PySem.W.mg_none_of X G zisinstance
  have mint := PySem.W.mg_none_of X G zint
  have mbool := PySem.W.mg_none_of X G zbool
  have mlist := PySem.W.mg_none_of X G zlist
  have mtuple := PySem.W.mg_none_of X G ztuple
  have mrange := PySem.W.mg_none_of X G zrange
  have mlen := PySem.W.mg_none_of X G zlen
  have mall := PySem.W.mg_none_of X G zall
  have mValueError := PySem.W.mg_none_of X G zValueError
  have mKeyError := PySem.W.mg_none_of X G zKeyError
  have mLookupError := PySem.W.mg_none_of X G zLookupError
  have mmax := PySem.W.mg_none_of X G zmax
  have mmin := PySem.W.mg_none_of X G zmin
  have mrepr := PySem.W.mg_none_of X G zrepr
  have mstr := PySem.W.mg_none_of X G zstr
  have menumerate := PySem.W.mg_none_of X G zenumerate
  have FF := fun_mk (st := (inClass (top 1) 0)) lF cF kF
  have bF := FF.binds (ps := ["self", "text"]) fun _ _ _ _ _ _ us hl => match us, hl with | [_, _], _ => rfl
  have EF : EC K CF veTail := EC.of xF tCF
  have XF : ExcC K CF := EF.exc gaF ggF (by decide +kernel) (by decide +kernel) hCF haF hn ht
  have OF : OexG K CF "ValueError" := ⟨⟨_, _, _, _, _, _, _, _, _, _, _, _, _, _, _, _, xF, fam_VE, by decide +kernel⟩, saF, kCF⟩
  have FM := fun_mk (st := (inClass (top 2) 0)) lM cM kM
  have bM := FM.binds (ps := ["self", "text"]) fun _ _ _ _ _ _ us hl => match us, hl with | [_, _], _ => rfl
  have EM : EC K CM keTail := EC.of xM tCM
  have XM : ExcC K CM := EM.exc gaM ggM (by decide +kernel) (by decide +kernel) hCM haM hn ht
  have OM : OexG K CM "KeyError" := ⟨⟨_, _, _, _, _, _, _, _, _, _, _, _, _, _, _, _, xM, fam_KE, by decide +kernel⟩, saM, kCM⟩
  have FB := fun_mk (st := (inClass (top 3) 0)) lB cB kB
  have bB := FB.binds (ps := ["self", "text"]) fun _ _ _ _ _ _ us hl => match us, hl with | [_, _], _ => rfl
  have EB : EC K CB leTail := EC.of xB tCB
  have XB : ExcC K CB := EB.exc gaB ggB (by decide +kernel) (by decide +kernel) hCB haB hn ht
  have OB : OexG K CB "LookupError" := ⟨⟨_, _, _, _, _, _, _, _, _, _, _, _, _, _, _, _, xB, fam_LE, by decide +kernel⟩, saB, kCB⟩
  have FY0 := fun_mk (st := (inClass (top 4) 0)) lY0 cY0 kY0
  have bY0 := FY0.binds (ps := ["self", "found"]) fun _ _ _ _ _ _ us hl => match us, hl with | [_, _], _ => rfl
  have EY0 : EC K CY0 (.ref CF :: veTail) := EC.of xY0 tCY0
  have XY0 : ExcC K CY0 := EY0.exc gaY0 ggY0 ((has_ref _).trans (by decide +kernel)) ((has_ref _).trans (by decide +kernel)) hCY0 haY0 hn ht
  have OY0 : OexG K CY0 "ValueError" := ⟨⟨_, _, _, _, _, _, _, _, _, _, _, _, _, _, _, _, xY0, fam_VE.under CF, (has_ref _).trans (by decide +kernel)⟩, saY0, kCY0⟩
  have FY1 := fun_mk (st := (inClass (top 5) 0)) lY1 cY1 kY1
  have bY1 := FY1.binds (ps := ["self", "found"]) fun _ _ _ _ _ _ us hl => match us, hl with | [_, _], _ => rfl
  have EY1 : EC K CY1 (.ref CF :: veTail) := EC.of xY1 tCY1
  have XY1 : ExcC K CY1 := EY1.exc gaY1 ggY1 ((has_ref _).trans (by decide +kernel)) ((has_ref _).trans (by decide +kernel)) hCY1 haY1 hn ht
  have OY1 : OexG K CY1 "ValueError" := ⟨⟨_, _, _, _, _, _, _, _, _, _, _, _, _, _, _, _, xY1, fam_VE.under CF, (has_ref _).trans (by decide +kernel)⟩, saY1, kCY1⟩
  have FY2 := fun_mk (st := (inClass (top 6) 0)) lY2 cY2 kY2
  have bY2 := FY2.binds (ps := ["self", "found"]) fun _ _ _ _ _ _ us hl => match us, hl with | [_, _], _ => rfl
  have EY2 : EC K CY2 (.ref CF :: veTail) := EC.of xY2 tCY2
  have XY2 : ExcC K CY2 := EY2.exc gaY2 ggY2 ((has_ref _).trans (by decide +kernel)) ((has_ref _).trans (by decide +kernel)) hCY2 haY2 hn ht
  have OY2 : OexG K CY2 "ValueError" := ⟨⟨_, _, _, _, _, _, _, _, _, _, _, _, _, _, _, _, xY2, fam_VE.under CF, (has_ref _).trans (by decide +kernel)⟩, saY2, kCY2⟩
  have FY3 := fun_mk (st := (inClass (top 7) 0)) lY3 cY3 kY3
  have bY3 := FY3.binds (ps := ["self", "found"]) fun _ _ _ _ _ _ us hl => match us, hl with | [_, _], _ => rfl
  have EY3 : EC K CY3 (.ref CF :: veTail) := EC.of xY3 tCY3
  have XY3 : ExcC K CY3 := EY3.exc gaY3 ggY3 ((has_ref _).trans (by decide +kernel)) ((has_ref _).trans (by decide +kernel)) hCY3 haY3 hn ht
  have OY3 : OexG K CY3 "ValueError" := ⟨⟨_, _, _, _, _, _, _, _, _, _, _, _, _, _, _, _, xY3, fam_VE.under CF, (has_ref _).trans (by decide +kernel)⟩, saY3, kCY3⟩
  have FY4 := fun_mk (st := (inClass (top 8) 0)) lY4 cY4 kY4
  have bY4 := FY4.binds (ps := ["self", "found"]) fun _ _ _ _ _ _ us hl => match us, hl with | [_, _], _ => rfl
  have EY4 : EC K CY4 (.ref CF :: veTail) := EC.of xY4 tCY4
  have XY4 : ExcC K CY4 := EY4.exc gaY4 ggY4 ((has_ref _).trans (by decide +kernel)) ((has_ref _).trans (by decide +kernel)) hCY4 haY4 hn ht
  have OY4 : OexG K CY4 "ValueError" := ⟨⟨_, _, _, _, _, _, _, _, _, _, _, _, _, _, _, _, xY4, fam_VE.under CF, (has_ref _).trans (by decide +kernel)⟩, saY4, kCY4⟩
  have FY5 := fun_mk (st := (inClass (top 9) 0)) lY5 cY5 kY5
  have bY5 := FY5.binds (ps := ["self", "found"]) fun _ _ _ _ _ _ us hl => match us, hl with | [_, _], _ => rfl
  have EY5 : EC K CY5 (.ref CF :: veTail) := EC.of xY5 tCY5
  have XY5 : ExcC K CY5 := EY5.exc gaY5 ggY5 ((has_ref _).trans (by decide +kernel)) ((has_ref _).trans (by decide +kernel)) hCY5 haY5 hn ht
  have OY5 : OexG K CY5 "ValueError" := ⟨⟨_, _, _, _, _, _, _, _, _, _, _, _, _, _, _, _, xY5, fam_VE.under CF, (has_ref _).trans (by decide +kernel)⟩, saY5, kCY5⟩
  have FY6 := fun_mk (st := (inClass (top 10) 0)) lY6 cY6 kY6
  have bY6 := FY6.binds (ps := ["self", "found"]) fun _ _ _ _ _ _ us hl => match us, hl with | [_, _], _ => rfl
  have EY6 : EC K CY6 (.ref CF :: veTail) := EC.of xY6 tCY6
  have XY6 : ExcC K CY6 := EY6.exc gaY6 ggY6 ((has_ref _).trans (by decide +kernel)) ((has_ref _).trans (by decide +kernel)) hCY6 haY6 hn ht
  have OY6 : OexG K CY6 "ValueError" := ⟨⟨_, _, _, _, _, _, _, _, _, _, _, _, _, _, _, _, xY6, fam_VE.under CF, (has_ref _).trans (by decide +kernel)⟩, saY6, kCY6⟩
  have FY7 := fun_mk (st := (inClass (top 11) 0)) lY7 cY7 kY7
  have bY7 := FY7.binds (ps := ["self", "found"]) fun _ _ _ _ _ _ us hl => match us, hl with | [_, _], _ => rfl
  have EY7 : EC K CY7 (.ref CF :: veTail) := EC.of xY7 tCY7
  have XY7 : ExcC K CY7 := EY7.exc gaY7 ggY7 ((has_ref _).trans (by decide +kernel)) ((has_ref _).trans (by decide +kernel)) hCY7 haY7 hn ht
  have OY7 : OexG K CY7 "ValueError" := ⟨⟨_, _, _, _, _, _, _, _, _, _, _, _, _, _, _, _, xY7, fam_VE.under CF, (has_ref _).trans (by decide +kernel)⟩, saY7, kCY7⟩
  have FY8 := fun_mk (st := (inClass (top 12) 0)) lY8 cY8 kY8
  have bY8 := FY8.binds (ps := ["self", "found"]) fun _ _ _ _ _ _ us hl => match us, hl with | [_, _], _ => rfl
  have EY8 : EC K CY8 (.ref CF :: veTail) := EC.of xY8 tCY8
  have XY8 : ExcC K CY8 := EY8.exc gaY8 ggY8 ((has_ref _).trans (by decide +kernel)) ((has_ref _).trans (by decide +kernel)) hCY8 haY8 hn ht
  have OY8 : OexG K CY8 "ValueError" := ⟨⟨_, _, _, _, _, _, _, _, _, _, _, _, _, _, _, _, xY8, fam_VE.under CF, (has_ref _).trans (by decide +kernel)⟩, saY8, kCY8⟩
  have FY9 := fun_mk (st := (inClass (top 13) 0)) lY9 cY9 kY9
  have bY9 := FY9.binds (ps := ["self", "found"]) fun _ _ _ _ _ _ us hl => match us, hl with | [_, _], _ => rfl
  have EY9 : EC K CY9 (.ref CF :: veTail) := EC.of xY9 tCY9
  have XY9 : ExcC K CY9 := EY9.exc gaY9 ggY9 ((has_ref _).trans (by decide +kernel)) ((has_ref _).trans (by decide +kernel)) hCY9 haY9 hn ht
  have OY9 : OexG K CY9 "ValueError" := ⟨⟨_, _, _, _, _, _, _, _, _, _, _, _, _, _, _, _, xY9, fam_VE.under CF, (has_ref _).trans (by decide +kernel)⟩, saY9, kCY9⟩
  have FY10 := fun_mk (st := (inClass (top 14) 0)) lY10 cY10 kY10
  have bY10 := FY10.binds (ps := ["self", "found"]) fun _ _ _ _ _ _ us hl => match us, hl with | [_, _], _ => rfl
  have EY10 : EC K CY10 (.ref CF :: veTail) := EC.of xY10 tCY10
  have XY10 : ExcC K CY10 := EY10.exc gaY10 ggY10 ((has_ref _).trans (by decide +kernel)) ((has_ref _).trans (by decide +kernel)) hCY10 haY10 hn ht
  have OY10 : OexG K CY10 "ValueError" := ⟨⟨_, _, _, _, _, _, _, _, _, _, _, _, _, _, _, _, xY10, fam_VE.under CF, (has_ref _).trans (by decide +kernel)⟩, saY10, kCY10⟩
  have FY11 := fun_mk (st := (inClass (top 15) 0)) lY11 cY11 kY11
  have bY11 := FY11.binds (ps := ["self", "found"]) fun _ _ _ _ _ _ us hl => match us, hl with | [_, _], _ => rfl
  have EY11 : EC K CY11 (.ref CF :: veTail) := EC.of xY11 tCY11
  have XY11 : ExcC K CY11 := EY11.exc gaY11 ggY11 ((has_ref _).trans (by decide +kernel)) ((has_ref _).trans (by decide +kernel)) hCY11 haY11 hn ht
  have OY11 : OexG K CY11 "ValueError" := ⟨⟨_, _, _, _, _, _, _, _, _, _, _, _, _, _, _, _, xY11, fam_VE.under CF, (has_ref _).trans (by decide +kernel)⟩, saY11, kCY11⟩
  have FY12 := fun_mk (st := (inClass (top 16) 0)) lY12 cY12 kY12
  have bY12 := FY12.binds (ps := ["self", "found"]) fun _ _ _ _ _ _ us hl => match us, hl with | [_, _], _ => rfl
  have EY12 : EC K CY12 (.ref CF :: veTail) := EC.of xY12 tCY12
  have XY12 : ExcC K CY12 := EY12.exc gaY12 ggY12 ((has_ref _).trans (by decide +kernel)) ((has_ref _).trans (by decide +kernel)) hCY12 haY12 hn ht
  have OY12 : OexG K CY12 "ValueError" := ⟨⟨_, _, _, _, _, _, _, _, _, _, _, _, _, _, _, _, xY12, fam_VE.under CF, (has_ref _).trans (by decide +kernel)⟩, saY12, kCY12⟩
  have FY13 := fun_mk (st := (inClass (top 17) 0)) lY13 cY13 kY13
  have bY13 := FY13.binds (ps := ["self", "found"]) fun _ _ _ _ _ _ us hl => match us, hl with | [_, _], _ => rfl
  have EY13 : EC K CY13 (.ref CF :: veTail) := EC.of xY13 tCY13
  have XY13 : ExcC K CY13 := EY13.exc gaY13 ggY13 ((has_ref _).trans (by decide +kernel)) ((has_ref _).trans (by decide +kernel)) hCY13 haY13 hn ht
  have OY13 : OexG K CY13 "ValueError" := ⟨⟨_, _, _, _, _, _, _, _, _, _, _, _, _, _, _, _, xY13, fam_VE.under CF, (has_ref _).trans (by decide +kernel)⟩, saY13, kCY13⟩
  have FY14 := fun_mk (st := (inClass (top 18) 0)) lY14 cY14 kY14
  have bY14 := FY14.binds (ps := ["self", "found"]) fun _ _ _ _ _ _ us hl => match us, hl with | [_, _], _ => rfl
  have EY14 : EC K CY14 (.ref CF :: veTail) := EC.of xY14 tCY14
  have XY14 : ExcC K CY14 := EY14.exc gaY14 ggY14 ((has_ref _).trans (by decide +kernel)) ((has_ref _).trans (by decide +kernel)) hCY14 haY14 hn ht
  have OY14 : OexG K CY14 "ValueError" := ⟨⟨_, _, _, _, _, _, _, _, _, _, _, _, _, _, _, _, xY14, fam_VE.under CF, (has_ref _).trans (by decide +kernel)⟩, saY14, kCY14⟩
  have FY15 := fun_mk (st := (inClass (top 19) 0)) lY15 cY15 kY15
  have bY15 := FY15.binds (ps := ["self", "found"]) fun _ _ _ _ _ _ us hl => match us, hl with | [_, _], _ => rfl
  have EY15 : EC K CY15 (.ref CF :: veTail) := EC.of xY15 tCY15
  have XY15 : ExcC K CY15 := EY15.exc gaY15 ggY15 ((has_ref _).trans (by decide +kernel)) ((has_ref _).trans (by decide +kernel)) hCY15 haY15 hn ht
  have OY15 : OexG K CY15 "ValueError" := ⟨⟨_, _, _, _, _, _, _, _, _, _, _, _, _, _, _, _, xY15, fam_VE.under CF, (has_ref _).trans (by decide +kernel)⟩, saY15, kCY15⟩
  have FY16 := fun_mk (st := (inClass (top 20) 0)) lY16 cY16 kY16
  have bY16 := FY16.binds (ps := ["self", "found"]) fun _ _ _ _ _ _ us hl => match us, hl with | [_, _], _ => rfl
  have EY16 : EC K CY16 (.ref CF :: veTail) := EC.of xY16 tCY16
  have XY16 : ExcC K CY16 := EY16.exc gaY16 ggY16 ((has_ref _).trans (by decide +kernel)) ((has_ref _).trans (by decide +kernel)) hCY16 haY16 hn ht
  have OY16 : OexG K CY16 "ValueError" := ⟨⟨_, _, _, _, _, _, _, _, _, _, _, _, _, _, _, _, xY16, fam_VE.under CF, (has_ref _).trans (by decide +kernel)⟩, saY16, kCY16⟩
  have FY17 := fun_mk (st := (inClass (top 21) 0)) lY17 cY17 kY17
  have bY17 := FY17.binds (ps := ["self", "found"]) fun _ _ _ _ _ _ us hl => match us, hl with | [_, _], _ => rfl
  have EY17 : EC K CY17 (.ref CF :: veTail) := EC.of xY17 tCY17
  have XY17 : ExcC K CY17 := EY17.exc gaY17 ggY17 ((has_ref _).trans (by decide +kernel)) ((has_ref _).trans (by decide +kernel)) hCY17 haY17 hn ht
  have OY17 : OexG K CY17 "ValueError" := ⟨⟨_, _, _, _, _, _, _, _, _, _, _, _, _, _, _, _, xY17, fam_VE.under CF, (has_ref _).trans (by decide +kernel)⟩, saY17, kCY17⟩
  have FY18 := fun_mk (st := (inClass (top 22) 0)) lY18 cY18 kY18
  have bY18 := FY18.binds (ps := ["self", "found"]) fun _ _ _ _ _ _ us hl => match us, hl with | [_, _], _ => rfl
  have EY18 : EC K CY18 (.ref CF :: veTail) := EC.of xY18 tCY18
  have XY18 : ExcC K CY18 := EY18.exc gaY18 ggY18 ((has_ref _).trans (by decide +kernel)) ((has_ref _).trans (by decide +kernel)) hCY18 haY18 hn ht
  have OY18 : OexG K CY18 "ValueError" := ⟨⟨_, _, _, _, _, _, _, _, _, _, _, _, _, _, _, _, xY18, fam_VE.under CF, (has_ref _).trans (by decide +kernel)⟩, saY18, kCY18⟩
  have FY19 := fun_mk (st := (inClass (top 23) 0)) lY19 cY19 kY19
  have bY19 := FY19.binds (ps := ["self", "found"]) fun _ _ _ _ _ _ us hl => match us, hl with | [_, _], _ => rfl
  have EY19 : EC K CY19 (.ref CF :: veTail) := EC.of xY19 tCY19
  have XY19 : ExcC K CY19 := EY19.exc gaY19 ggY19 ((has_ref _).trans (by decide +kernel)) ((has_ref _).trans (by decide +kernel)) hCY19 haY19 hn ht
  have OY19 : OexG K CY19 "ValueError" := ⟨⟨_, _, _, _, _, _, _, _, _, _, _, _, _, _, _, _, xY19, fam_VE.under CF, (has_ref _).trans (by decide +kernel)⟩, saY19, kCY19⟩
  have FY20 := fun_mk (st := (inClass (top 24) 0)) lY20 cY20 kY20
  have bY20 := FY20.binds (ps := ["self", "found"]) fun _ _ _ _ _ _ us hl => match us, hl with | [_, _], _ => rfl
  have EY20 : EC K CY20 (.ref CF :: veTail) := EC.of xY20 tCY20
  have XY20 : ExcC K CY20 := EY20.exc gaY20 ggY20 ((has_ref _).trans (by decide +kernel)) ((has_ref _).trans (by decide +kernel)) hCY20 haY20 hn ht
  have OY20 : OexG K CY20 "ValueError" := ⟨⟨_, _, _, _, _, _, _, _, _, _, _, _, _, _, _, _, xY20, fam_VE.under CF, (has_ref _).trans (by decide +kernel)⟩, saY20, kCY20⟩
  have FY21 := fun_mk (st := (inClass (top 25) 0)) lY21 cY21 kY21
  have bY21 := FY21.binds (ps := ["self", "found"]) fun _ _ _ _ _ _ us hl => match us, hl with | [_, _], _ => rfl
  have EY21 : EC K CY21 (.ref CF :: veTail) := EC.of xY21 tCY21
  have XY21 : ExcC K CY21 := EY21.exc gaY21 ggY21 ((has_ref _).trans (by decide +kernel)) ((has_ref _).trans (by decide +kernel)) hCY21 haY21 hn ht
  have OY21 : OexG K CY21 "ValueError" := ⟨⟨_, _, _, _, _, _, _, _, _, _, _, _, _, _, _, _, xY21, fam_VE.under CF, (has_ref _).trans (by decide +kernel)⟩, saY21, kCY21⟩
  have FY22 := fun_mk (st := (inClass (top 30) 0)) lY22 cY22 kY22
  have bY22 := FY22.binds (ps := ["self", "found"]) fun _ _ _ _ _ _ us hl => match us, hl with | [_, _], _ => rfl
  have EY22 : EC K CY22 (.ref CM :: keTail) := EC.of xY22 tCY22
  have XY22 : ExcC K CY22 := EY22.exc gaY22 ggY22 ((has_ref _).trans (by decide +kernel)) ((has_ref _).trans (by decide +kernel)) hCY22 haY22 hn ht
  have OY22 : OexG K CY22 "KeyError" := ⟨⟨_, _, _, _, _, _, _, _, _, _, _, _, _, _, _, _, xY22, fam_KE.under CM, (has_ref _).trans (by decide +kernel)⟩, saY22, kCY22⟩
  have FY23 := fun_mk (st := (inClass (top 31) 0)) lY23 cY23 kY23
  have bY23 := FY23.binds (ps := ["self", "found"]) fun _ _ _ _ _ _ us hl => match us, hl with | [_, _], _ => rfl
  have EY23 : EC K CY23 (.ref CM :: keTail) := EC.of xY23 tCY23
  have XY23 : ExcC K CY23 := EY23.exc gaY23 ggY23 ((has_ref _).trans (by decide +kernel)) ((has_ref _).trans (by decide +kernel)) hCY23 haY23 hn ht
  have OY23 : OexG K CY23 "KeyError" := ⟨⟨_, _, _, _, _, _, _, _, _, _, _, _, _, _, _, _, xY23, fam_KE.under CM, (has_ref _).trans (by decide +kernel)⟩, saY23, kCY23⟩
  have FY24 := fun_mk (st := (inClass (top 35) 0)) lY24 cY24 kY24
  have bY24 := FY24.binds (ps := ["self", "found"]) fun _ _ _ _ _ _ us hl => match us, hl with | [_, _], _ => rfl
  have EY24 : EC K CY24 (.ref CB :: leTail) := EC.of xY24 tCY24
  have XY24 : ExcC K CY24 := EY24.exc gaY24 ggY24 ((has_ref _).trans (by decide +kernel)) ((has_ref _).trans (by decide +kernel)) hCY24 haY24 hn ht
  have OY24 : OexG K CY24 "LookupError" := ⟨⟨_, _, _, _, _, _, _, _, _, _, _, _, _, _, _, _, xY24, fam_LE.under CB, (has_ref _).trans (by decide +kernel)⟩, saY24, kCY24⟩
  have FY25 := fun_mk (st := (inClass (top 36) 0)) lY25 cY25 kY25
  have bY25 := FY25.binds (ps := ["self", "found"]) fun _ _ _ _ _ _ us hl => match us, hl with | [_, _], _ => rfl
  have EY25 : EC K CY25 (.ref CB :: leTail) := EC.of xY25 tCY25
  have XY25 : ExcC K CY25 := EY25.exc gaY25 ggY25 ((has_ref _).trans (by decide +kernel)) ((has_ref _).trans (by decide +kernel)) hCY25 haY25 hn ht
  have OY25 : OexG K CY25 "LookupError" := ⟨⟨_, _, _, _, _, _, _, _, _, _, _, _, _, _, _, _, xY25, fam_LE.under CB, (has_ref _).trans (by decide +kernel)⟩, saY25, kCY25⟩
  have FY26 := fun_mk (st := (inClass (top 37) 0)) lY26 cY26 kY26
  have bY26 := FY26.binds (ps := ["self", "found"]) fun _ _ _ _ _ _ us hl => match us, hl with | [_, _], _ => rfl
  have EY26 : EC K CY26 (.ref CB :: leTail) := EC.of xY26 tCY26
  have XY26 : ExcC K CY26 := EY26.exc gaY26 ggY26 ((has_ref _).trans (by decide +kernel)) ((has_ref _).trans (by decide +kernel)) hCY26 haY26 hn ht
  have OY26 : OexG K CY26 "LookupError" := ⟨⟨_, _, _, _, _, _, _, _, _, _, _, _, _, _, _, _, xY26, fam_LE.under CB, (has_ref _).trans (by decide +kernel)⟩, saY26, kCY26⟩
  have FY27 := fun_mk (st := (inClass (top 38) 0)) lY27 cY27 kY27
  have bY27 := FY27.binds (ps := ["self", "found"]) fun _ _ _ _ _ _ us hl => match us, hl with | [_, _], _ => rfl
  have EY27 : EC K CY27 (.ref CB :: leTail) := EC.of xY27 tCY27
  have XY27 : ExcC K CY27 := EY27.exc gaY27 ggY27 ((has_ref _).trans (by decide +kernel)) ((has_ref _).trans (by decide +kernel)) hCY27 haY27 hn ht
  have OY27 : OexG K CY27 "LookupError" := ⟨⟨_, _, _, _, _, _, _, _, _, _, _, _, _, _, _, _, xY27, fam_LE.under CB, (has_ref _).trans (by decide +kernel)⟩, saY27, kCY27⟩
  have FY28 := fun_mk (st := (inClass (top 26) 0)) lY28 cY28 kY28
  have bY28 := FY28.binds (ps := ["self", "where", "at", "why", "found"]) fun _ _ _ _ _ _ us hl => match us, hl with | [_, _, _, _, _], _ => rfl
  have EY28 : EC K CY28 (.ref CF :: veTail) := EC.of xY28 tCY28
  have XY28 : ExcC K CY28 := EY28.exc gaY28 ggY28 ((has_ref _).trans (by decide +kernel)) ((has_ref _).trans (by decide +kernel)) hCY28 haY28 hn ht
  have OY28 : OexG K CY28 "ValueError" := ⟨⟨_, _, _, _, _, _, _, _, _, _, _, _, _, _, _, _, xY28, fam_VE.under CF, (has_ref _).trans (by decide +kernel)⟩, saY28, kCY28⟩
  have FY29 := fun_mk (st := (inClass (top 27) 0)) lY29 cY29 kY29
  have bY29 := FY29.binds (ps := ["self", "where", "ring"]) fun _ _ _ _ _ _ us hl => match us, hl with | [_, _, _], _ => rfl
  have EY29 : EC K CY29 (.ref CF :: veTail) := EC.of xY29 tCY29
  have XY29 : ExcC K CY29 := EY29.exc gaY29 ggY29 ((has_ref _).trans (by decide +kernel)) ((has_ref _).trans (by decide +kernel)) hCY29 haY29 hn ht
  have OY29 : OexG K CY29 "ValueError" := ⟨⟨_, _, _, _, _, _, _, _, _, _, _, _, _, _, _, _, xY29, fam_VE.under CF, (has_ref _).trans (by decide +kernel)⟩, saY29, kCY29⟩
  have FY30 := fun_mk (st := (inClass (top 28) 0)) lY30 cY30 kY30
  have bY30 := FY30.binds (ps := ["self", "where", "at", "found"]) fun _ _ _ _ _ _ us hl => match us, hl with | [_, _, _, _], _ => rfl
  have EY30 : EC K CY30 (.ref CF :: veTail) := EC.of xY30 tCY30
  have XY30 : ExcC K CY30 := EY30.exc gaY30 ggY30 ((has_ref _).trans (by decide +kernel)) ((has_ref _).trans (by decide +kernel)) hCY30 haY30 hn ht
  have OY30 : OexG K CY30 "ValueError" := ⟨⟨_, _, _, _, _, _, _, _, _, _, _, _, _, _, _, _, xY30, fam_VE.under CF, (has_ref _).trans (by decide +kernel)⟩, saY30, kCY30⟩
  have FY31 := fun_mk (st := (inClass (top 29) 0)) lY31 cY31 kY31
  have bY31 := FY31.binds (ps := ["self", "at"]) fun _ _ _ _ _ _ us hl => match us, hl with | [_, _], _ => rfl
  have EY31 : EC K CY31 (.ref CF :: veTail) := EC.of xY31 tCY31
  have XY31 : ExcC K CY31 := EY31.exc gaY31 ggY31 ((has_ref _).trans (by decide +kernel)) ((has_ref _).trans (by decide +kernel)) hCY31 haY31 hn ht
  have OY31 : OexG K CY31 "ValueError" := ⟨⟨_, _, _, _, _, _, _, _, _, _, _, _, _, _, _, _, xY31, fam_VE.under CF, (has_ref _).trans (by decide +kernel)⟩, saY31, kCY31⟩
  have FY32 := fun_mk (st := (inClass (top 32) 0)) lY32 cY32 kY32
  have bY32 := FY32.binds (ps := ["self", "where", "found"]) fun _ _ _ _ _ _ us hl => match us, hl with | [_, _, _], _ => rfl
  have EY32 : EC K CY32 (.ref CM :: keTail) := EC.of xY32 tCY32
  have XY32 : ExcC K CY32 := EY32.exc gaY32 ggY32 ((has_ref _).trans (by decide +kernel)) ((has_ref _).trans (by decide +kernel)) hCY32 haY32 hn ht
  have OY32 : OexG K CY32 "KeyError" := ⟨⟨_, _, _, _, _, _, _, _, _, _, _, _, _, _, _, _, xY32, fam_KE.under CM, (has_ref _).trans (by decide +kernel)⟩, saY32, kCY32⟩
  have FY33 := fun_mk (st := (inClass (top 33) 0)) lY33 cY33 kY33
  have bY33 := FY33.binds (ps := ["self", "many"]) fun _ _ _ _ _ _ us hl => match us, hl with | [_, _], _ => rfl
  have EY33 : EC K CY33 (.ref CB :: leTail) := EC.of xY33 tCY33
  have XY33 : ExcC K CY33 := EY33.exc gaY33 ggY33 ((has_ref _).trans (by decide +kernel)) ((has_ref _).trans (by decide +kernel)) hCY33 haY33 hn ht
  have OY33 : OexG K CY33 "LookupError" := ⟨⟨_, _, _, _, _, _, _, _, _, _, _, _, _, _, _, _, xY33, fam_LE.under CB, (has_ref _).trans (by decide +kernel)⟩, saY33, kCY33⟩
  have FY34 := fun_mk (st := (inClass (top 34) 0)) lY34 cY34 kY34
  have bY34 := FY34.binds (ps := ["self", "many"]) fun _ _ _ _ _ _ us hl => match us, hl with | [_, _], _ => rfl
  have EY34 : EC K CY34 (.ref CB :: leTail) := EC.of xY34 tCY34
  have XY34 : ExcC K CY34 := EY34.exc gaY34 ggY34 ((has_ref _).trans (by decide +kernel)) ((has_ref _).trans (by decide +kernel)) hCY34 haY34 hn ht
  have OY34 : OexG K CY34 "LookupError" := ⟨⟨_, _, _, _, _, _, _, _, _, _, _, _, _, _, _, _, xY34, fam_LE.under CB, (has_ref _).trans (by decide +kernel)⟩, saY34, kCY34⟩
  refine ⟨PySem.W.fnOf "law" "law" (defArgs sLaw) (defBody sLaw) (defScope sLaw) .none kVla dcla pmla anla cdla ctla, fun s v => .of_eq rfl, fun base _ _ => ?_⟩
  have LL : ([CY0, CY1, CY2, CY3, CY4, CY5, CY6, CY7, CY8, CY9, CY10, CY11, CY12, CY13, CY14, CY15, CY16, CY17, CY18, CY19, CY20, CY21, CY22, CY23, CY24, CY25, CY26, CY27, CY28, CY29, CY30, CY31, CY32, CY33, CY34] : List Addr).length = 35 := rfl
  have gcs : ∀ i x, NM[i]? = some x → mg x = some (.ref (([CY0, CY1, CY2, CY3, CY4, CY5, CY6, CY7, CY8, CY9, CY10, CY11, CY12, CY13, CY14, CY15, CY16, CY17, CY18, CY19, CY20, CY21, CY22, CY23, CY24, CY25, CY26, CY27, CY28, CY29, CY30, CY31, CY32, CY33, CY34] : List Addr).getD i 0)) := fun i x e => match i, e with | 0, e => by cases e; exact PySem.W.mg_of X G aY0 | 1, e => by cases e; exact PySem.W.mg_of X G aY1 | 2, e => by cases e; exact PySem.W.mg_of X G aY2 | 3, e => by cases e; exact PySem.W.mg_of X G aY3 | 4, e => by cases e; exact PySem.W.mg_of X G aY4 | 5, e => by cases e; exact PySem.W.mg_of X G aY5 | 6, e => by cases e; exact PySem.W.mg_of X G aY6 | 7, e => by cases e; exact PySem.W.mg_of X G aY7 | 8, e => by cases e; exact PySem.W.mg_of X G aY8 | 9, e => by cases e; exact PySem.W.mg_of X G aY9 | 10, e => by cases e; exact PySem.W.mg_of X G aY10 | 11, e => by cases e; exact PySem.W.mg_of X G aY11 | 12, e => by cases e; exact PySem.W.mg_of X G aY12 | 13, e => by cases e; exact PySem.W.mg_of X G aY13 | 14, e => by cases e; exact PySem.W.mg_of X G aY14 | 15, e => by cases e; exact PySem.W.mg_of X G aY15 | 16, e => by cases e; exact PySem.W.mg_of X G aY16 | 17, e => by cases e; exact PySem.W.mg_of X G aY17 | 18, e => by cases e; exact PySem.W.mg_of X G aY18 | 19, e => by cases e; exact PySem.W.mg_of X G aY19 | 20, e => by cases e; exact PySem.W.mg_of X G aY20 | 21, e => by cases e; exact PySem.W.mg_of X G aY21 | 22, e => by cases e; exact PySem.W.mg_of X G aY22 | 23, e => by cases e; exact PySem.W.mg_of X G aY23 | 24, e => by cases e; exact PySem.W.mg_of X G aY24 | 25, e => by cases e; exact PySem.W.mg_of X G aY25 | 26, e => by cases e; exact PySem.W.mg_of X G aY26 | 27, e => by cases e; exact PySem.W.mg_of X G aY27 | 28, e => by cases e; exact PySem.W.mg_of X G aY28 | 29, e => by cases e; exact PySem.W.mg_of X G aY29 | 30, e => by cases e; exact PySem.W.mg_of X G aY30 | 31, e => by cases e; exact PySem.W.mg_of X G aY31 | 32, e => by cases e; exact PySem.W.mg_of X G aY32 | 33, e => by cases e; exact PySem.W.mg_of X G aY33 | 34, e => by cases e; exact PySem.W.mg_of X G aY34 | _ + 35, e => by cases e
  have Z : KT K mg (fun i => ([CY0, CY1, CY2, CY3, CY4, CY5, CY6, CY7, CY8, CY9, CY10, CY11, CY12, CY13, CY14, CY15, CY16, CY17, CY18, CY19, CY20, CY21, CY22, CY23, CY24, CY25, CY26, CY27, CY28, CY29, CY30, CY31, CY32, CY33, CY34] : List Addr).getD i 0) CF CM CB := kt_mk [CY0, CY1, CY2, CY3, CY4, CY5, CY6, CY7, CY8, CY9, CY10, CY11, CY12, CY13, CY14, CY15, CY16, CY17, CY18, CY19, CY20, CY21, CY22, CY23, CY24, CY25, CY26, CY27, CY28, CY29, CY30, CY31, CY32, CY33, CY34] LL nd gcs (PySem.W.mg_of X G aF) (PySem.W.mg_of X G aM) (PySem.W.mg_of X G aB) (fun i hi => match i, hi with | 0, _ => EY0 | 1, _ => EY1 | 2, _ => EY2 | 3, _ => EY3 | 4, _ => EY4 | 5, _ => EY5 | 6, _ => EY6 | 7, _ => EY7 | 8, _ => EY8 | 9, _ => EY9 | 10, _ => EY10 | 11, _ => EY11 | 12, _ => EY12 | 13, _ => EY13 | 14, _ => EY14 | 15, _ => EY15 | 16, _ => EY16 | 17, _ => EY17 | 18, _ => EY18 | 19, _ => EY19 | 20, _ => EY20 | 21, _ => EY21 | 22, _ => EY22 | 23, _ => EY23 | 24, _ => EY24 | 25, _ => EY25 | 26, _ => EY26 | 27, _ => EY27 | 28, _ => EY28 | 29, _ => EY29 | 30, _ => EY30 | 31, _ => EY31 | 32, _ => EY32 | 33, _ => EY33 | 34, _ => EY34 | _ + 35, h => absurd h (by omega)) (fun i hi => match i, hi with | 0, _ => XY0 | 1, _ => XY1 | 2, _ => XY2 | 3, _ => XY3 | 4, _ => XY4 | 5, _ => XY5 | 6, _ => XY6 | 7, _ => XY7 | 8, _ => XY8 | 9, _ => XY9 | 10, _ => XY10 | 11, _ => XY11 | 12, _ => XY12 | 13, _ => XY13 | 14, _ => XY14 | 15, _ => XY15 | 16, _ => XY16 | 17, _ => XY17 | 18, _ => XY18 | 19, _ => XY19 | 20, _ => XY20 | 21, _ => XY21 | 22, _ => XY22 | 23, _ => XY23 | 24, _ => XY24 | 25, _ => XY25 | 26, _ => XY26 | 27, _ => XY27 | 28, _ => XY28 | 29, _ => XY29 | 30, _ => XY30 | 31, _ => XY31 | 32, _ => XY32 | 33, _ => XY33 | 34, _ => XY34 | _ + 35, h => absurd h (by omega)) EF EM EB
  have TF : FnOk l.prog w K mg base CX0 2 fF _ ["self", "text"] (spBaseG K "ValueError") := ok_T1 FF mValueError vVF
  have SF : BaseG l.prog w K mg base (.type "type") "FlowError" "ValueError" CF fF _ := ⟨PySem.W.mg_of X G aF, ⟨rF, gF⟩, vF, kF, bF, TF⟩
  have TM : FnOk l.prog w K mg base CX0 2 fM _ ["self", "text"] (spBaseG K "KeyError") := ok_T2 FM mKeyError vVM
  have SM : BaseG l.prog w K mg base (.type "type") "Missing" "KeyError" CM fM _ := ⟨PySem.W.mg_of X G aM, ⟨rM, gM⟩, vM, kM, bM, TM⟩
  have TB : FnOk l.prog w K mg base CX0 2 fB _ ["self", "text"] (spBaseG K "LookupError") := ok_T3 FB mLookupError vVB
  have SB : BaseG l.prog w K mg base (.type "type") "Barred" "LookupError" CB fB _ := ⟨PySem.W.mg_of X G aB, ⟨rB, gB⟩, vB, kB, bB, TB⟩
  have n4 : CF ≠ CM := nd_ne nd (i := 35) (j := 36) rfl rfl (by decide)
  have n5 : CF ≠ CB := nd_ne nd (i := 35) (j := 37) rfl rfl (by decide)
  have n6 : CM ≠ CB := nd_ne nd (i := 36) (j := 37) rfl rfl (by decide)
  have UF : FamC l.prog w K mg base CF CM CB CF fF _ "ValueError" 0 := ⟨OF, iF, tF, TF, bF, famB_mk (j := 0) (by decide) EF EM EB EF XF n4 n5 n6⟩
  have UM : FamC l.prog w K mg base CF CM CB CM fM _ "KeyError" 1 := ⟨OM, iM, tM, TM, bM, famB_mk (j := 1) (by decide) EF EM EB EM XM n4 n5 n6⟩
  have UB : FamC l.prog w K mg base CF CM CB CB fB _ "LookupError" 2 := ⟨OB, iB, tB, TB, bB, famB_mk (j := 2) (by decide) EF EM EB EB XB n4 n5 n6⟩
  have GY0 : FnOk l.prog w K mg base CX0 3 fY0 _ _ (spIn CY0 "no kind" ["found"]) := ok_I4 FY0 SF OY0 n0Y0
  have MY0 : MkC l.prog w K mg base CY0 "no kind" ["found"] := ⟨_, _, _, OY0, iY0, tY0, GY0, bY0, (Bf.ExcC.xf XY0), (nf_cons n0Y0 nf_nil)⟩
  have GY1 : FnOk l.prog w K mg base CX0 3 fY1 _ _ (spIn CY1 "no width" ["found"]) := ok_I5 FY1 SF OY1 n0Y1
  have MY1 : MkC l.prog w K mg base CY1 "no width" ["found"] := ⟨_, _, _, OY1, iY1, tY1, GY1, bY1, (Bf.ExcC.xf XY1), (nf_cons n0Y1 nf_nil)⟩
  have GY2 : FnOk l.prog w K mg base CX0 3 fY2 _ _ (spIn CY2 "no worth of the width" ["found"]) := ok_I6 FY2 SF OY2 n0Y2
  have MY2 : MkC l.prog w K mg base CY2 "no worth of the width" ["found"] := ⟨_, _, _, OY2, iY2, tY2, GY2, bY2, (Bf.ExcC.xf XY2), (nf_cons n0Y2 nf_nil)⟩
  have GY3 : FnOk l.prog w K mg base CX0 3 fY3 _ _ (spIn CY3 "no such worths as are wanted" ["found"]) := ok_I7 FY3 SF OY3 n0Y3
  have MY3 : MkC l.prog w K mg base CY3 "no such worths as are wanted" ["found"] := ⟨_, _, _, OY3, iY3, tY3, GY3, bY3, (Bf.ExcC.xf XY3), (nf_cons n0Y3 nf_nil)⟩
  have GY4 : FnOk l.prog w K mg base CX0 3 fY4 _ _ (spIn CY4 "no list of one to eight truths" ["found"]) := ok_I8 FY4 SF OY4 n0Y4
  have MY4 : MkC l.prog w K mg base CY4 "no list of one to eight truths" ["found"] := ⟨_, _, _, OY4, iY4, tY4, GY4, bY4, (Bf.ExcC.xf XY4), (nf_cons n0Y4 nf_nil)⟩
  have GY5 : FnOk l.prog w K mg base CX0 3 fY5 _ _ (spIn CY5 "no such number as is wanted" ["found"]) := ok_I9 FY5 SF OY5 n0Y5
  have MY5 : MkC l.prog w K mg base CY5 "no such number as is wanted" ["found"] := ⟨_, _, _, OY5, iY5, tY5, GY5, bY5, (Bf.ExcC.xf XY5), (nf_cons n0Y5 nf_nil)⟩
  have GY6 : FnOk l.prog w K mg base CX0 3 fY6 _ _ (spIn CY6 "no word of reckoning" ["found"]) := ok_I10 FY6 SF OY6 n0Y6
  have MY6 : MkC l.prog w K mg base CY6 "no word of reckoning" ["found"] := ⟨_, _, _, OY6, iY6, tY6, GY6, bY6, (Bf.ExcC.xf XY6), (nf_cons n0Y6 nf_nil)⟩
  have GY7 : FnOk l.prog w K mg base CX0 3 fY7 _ _ (spIn CY7 "no such term or right side" ["found"]) := ok_I11 FY7 SF OY7 n0Y7
  have MY7 : MkC l.prog w K mg base CY7 "no such term or right side" ["found"] := ⟨_, _, _, OY7, iY7, tY7, GY7, bY7, (Bf.ExcC.xf XY7), (nf_cons n0Y7 nf_nil)⟩
  have GY8 : FnOk l.prog w K mg base CX0 3 fY8 _ _ (spIn CY8 "no dict from names to names" ["found"]) := ok_I12 FY8 SF OY8 n0Y8
  have MY8 : MkC l.prog w K mg base CY8 "no dict from names to names" ["found"] := ⟨_, _, _, OY8, iY8, tY8, GY8, bY8, (Bf.ExcC.xf XY8), (nf_cons n0Y8 nf_nil)⟩
  have GY9 : FnOk l.prog w K mg base CX0 3 fY9 _ _ (spIn CY9 "no node" ["found"]) := ok_I13 FY9 SF OY9 n0Y9
  have MY9 : MkC l.prog w K mg base CY9 "no node" ["found"] := ⟨_, _, _, OY9, iY9, tY9, GY9, bY9, (Bf.ExcC.xf XY9), (nf_cons n0Y9 nf_nil)⟩
  have GY10 : FnOk l.prog w K mg base CX0 3 fY10 _ _ (spIn CY10 "no list of nodes" ["found"]) := ok_I14 FY10 SF OY10 n0Y10
  have MY10 : MkC l.prog w K mg base CY10 "no list of nodes" ["found"] := ⟨_, _, _, OY10, iY10, tY10, GY10, bY10, (Bf.ExcC.xf XY10), (nf_cons n0Y10 nf_nil)⟩
  have GY11 : FnOk l.prog w K mg base CX0 3 fY11 _ _ (spIn CY11 "no program" ["found"]) := ok_I15 FY11 SF OY11 n0Y11
  have MY11 : MkC l.prog w K mg base CY11 "no program" ["found"] := ⟨_, _, _, OY11, iY11, tY11, GY11, bY11, (Bf.ExcC.xf XY11), (nf_cons n0Y11 nf_nil)⟩
  have GY12 : FnOk l.prog w K mg base CX0 3 fY12 _ _ (spIn CY12 "no such ins as are wanted" ["found"]) := ok_I16 FY12 SF OY12 n0Y12
  have MY12 : MkC l.prog w K mg base CY12 "no such ins as are wanted" ["found"] := ⟨_, _, _, OY12, iY12, tY12, GY12, bY12, (Bf.ExcC.xf XY12), (nf_cons n0Y12 nf_nil)⟩
  have GY13 : FnOk l.prog w K mg base CX0 3 fY13 _ _ (spIn CY13 "no flat list" ["found"]) := ok_I17 FY13 SF OY13 n0Y13
  have MY13 : MkC l.prog w K mg base CY13 "no flat list" ["found"] := ⟨_, _, _, OY13, iY13, tY13, GY13, bY13, (Bf.ExcC.xf XY13), (nf_cons n0Y13 nf_nil)⟩
  have GY14 : FnOk l.prog w K mg base CX0 3 fY14 _ _ (spIn CY14 "no code" ["found"]) := ok_I18 FY14 SF OY14 n0Y14
  have MY14 : MkC l.prog w K mg base CY14 "no code" ["found"] := ⟨_, _, _, OY14, iY14, tY14, GY14, bY14, (Bf.ExcC.xf XY14), (nf_cons n0Y14 nf_nil)⟩
  have GY15 : FnOk l.prog w K mg base CX0 3 fY15 _ _ (spIn CY15 "no net of wires" ["found"]) := ok_I19 FY15 SF OY15 n0Y15
  have MY15 : MkC l.prog w K mg base CY15 "no net of wires" ["found"] := ⟨_, _, _, OY15, iY15, tY15, GY15, bY15, (Bf.ExcC.xf XY15), (nf_cons n0Y15 nf_nil)⟩
  have GY16 : FnOk l.prog w K mg base CX0 3 fY16 _ _ (spIn CY16 "no letter" ["found"]) := ok_I20 FY16 SF OY16 n0Y16
  have MY16 : MkC l.prog w K mg base CY16 "no letter" ["found"] := ⟨_, _, _, OY16, iY16, tY16, GY16, bY16, (Bf.ExcC.xf XY16), (nf_cons n0Y16 nf_nil)⟩
  have GY17 : FnOk l.prog w K mg base CX0 3 fY17 _ _ (spIn CY17 "no paper" ["found"]) := ok_I21 FY17 SF OY17 n0Y17
  have MY17 : MkC l.prog w K mg base CY17 "no paper" ["found"] := ⟨_, _, _, OY17, iY17, tY17, GY17, bY17, (Bf.ExcC.xf XY17), (nf_cons n0Y17 nf_nil)⟩
  have GY18 : FnOk l.prog w K mg base CX0 3 fY18 _ _ (spIn CY18 "no such edit as can be led over" ["found"]) := ok_I22 FY18 SF OY18 n0Y18
  have MY18 : MkC l.prog w K mg base CY18 "no such edit as can be led over" ["found"] := ⟨_, _, _, OY18, iY18, tY18, GY18, bY18, (Bf.ExcC.xf XY18), (nf_cons n0Y18 nf_nil)⟩
  have GY19 : FnOk l.prog w K mg base CX0 3 fY19 _ _ (spIn CY19 "no such modules as are wanted" ["found"]) := ok_I23 FY19 SF OY19 n0Y19
  have MY19 : MkC l.prog w K mg base CY19 "no such modules as are wanted" ["found"] := ⟨_, _, _, OY19, iY19, tY19, GY19, bY19, (Bf.ExcC.xf XY19), (nf_cons n0Y19 nf_nil)⟩
  have GY20 : FnOk l.prog w K mg base CX0 3 fY20 _ _ (spIn CY20 "no such text as can be read" ["found"]) := ok_I24 FY20 SF OY20 n0Y20
  have MY20 : MkC l.prog w K mg base CY20 "no such text as can be read" ["found"] := ⟨_, _, _, OY20, iY20, tY20, GY20, bY20, (Bf.ExcC.xf XY20), (nf_cons n0Y20 nf_nil)⟩
  have GY21 : FnOk l.prog w K mg base CX0 3 fY21 _ _ (spIn CY21 "no row that a desk takes" ["found"]) := ok_I25 FY21 SF OY21 n0Y21
  have MY21 : MkC l.prog w K mg base CY21 "no row that a desk takes" ["found"] := ⟨_, _, _, OY21, iY21, tY21, GY21, bY21, (Bf.ExcC.xf XY21), (nf_cons n0Y21 nf_nil)⟩
  have GY22 : FnOk l.prog w K mg base CX0 3 fY22 _ _ (spIn CY22 "not there" ["found"]) := ok_I30 FY22 SM OY22 n0Y22
  have MY22 : MkC l.prog w K mg base CY22 "not there" ["found"] := ⟨_, _, _, OY22, iY22, tY22, GY22, bY22, (Bf.ExcC.xf XY22), (nf_cons n0Y22 nf_nil)⟩
  have GY23 : FnOk l.prog w K mg base CX0 3 fY23 _ _ (spIn CY23 "no out that is a saying" ["found"]) := ok_I31 FY23 SM OY23 n0Y23
  have MY23 : MkC l.prog w K mg base CY23 "no out that is a saying" ["found"] := ⟨_, _, _, OY23, iY23, tY23, GY23, bY23, (Bf.ExcC.xf XY23), (nf_cons n0Y23 nf_nil)⟩
  have GY24 : FnOk l.prog w K mg base CX0 3 fY24 _ _ (spIn CY24 "the beat has begun" ["found"]) := ok_I35 FY24 SB OY24 n0Y24
  have MY24 : MkC l.prog w K mg base CY24 "the beat has begun" ["found"] := ⟨_, _, _, OY24, iY24, tY24, GY24, bY24, (Bf.ExcC.xf XY24), (nf_cons n0Y24 nf_nil)⟩
  have GY25 : FnOk l.prog w K mg base CX0 3 fY25 _ _ (spIn CY25 "given once already" ["found"]) := ok_I36 FY25 SB OY25 n0Y25
  have MY25 : MkC l.prog w K mg base CY25 "given once already" ["found"] := ⟨_, _, _, OY25, iY25, tY25, GY25, bY25, (Bf.ExcC.xf XY25), (nf_cons n0Y25 nf_nil)⟩
  have GY26 : FnOk l.prog w K mg base CX0 3 fY26 _ _ (spIn CY26 "the beats are over" ["found"]) := ok_I37 FY26 SB OY26 n0Y26
  have MY26 : MkC l.prog w K mg base CY26 "the beats are over" ["found"] := ⟨_, _, _, OY26, iY26, tY26, GY26, bY26, (Bf.ExcC.xf XY26), (nf_cons n0Y26 nf_nil)⟩
  have GY27 : FnOk l.prog w K mg base CX0 3 fY27 _ _ (spIn CY27 "ticks go by" ["found"]) := ok_I38 FY27 SB OY27 n0Y27
  have MY27 : MkC l.prog w K mg base CY27 "ticks go by" ["found"] := ⟨_, _, _, OY27, iY27, tY27, GY27, bY27, (Bf.ExcC.xf XY27), (nf_cons n0Y27 nf_nil)⟩
  have GY28 : FnOk l.prog w K mg base CX0 3 fY28 _ _ (spIn CY28 "a node doesn't fit" ["where", "at", "why", "found"]) := ok_I26 FY28 SF OY28 n0Y28 n1Y28 n2Y28 n3Y28
  have MY28 : MkC l.prog w K mg base CY28 "a node doesn't fit" ["where", "at", "why", "found"] := ⟨_, _, _, OY28, iY28, tY28, GY28, bY28, (Bf.ExcC.xf XY28), (nf_cons n0Y28 (nf_cons n1Y28 (nf_cons n2Y28 (nf_cons n3Y28 nf_nil))))⟩
  have GY29 : FnOk l.prog w K mg base CX0 3 fY29 _ _ (spIn CY29 "flows need one another in a ring" ["where", "ring"]) := ok_I27 FY29 SF OY29 n0Y29 n1Y29
  have MY29 : MkC l.prog w K mg base CY29 "flows need one another in a ring" ["where", "ring"] := ⟨_, _, _, OY29, iY29, tY29, GY29, bY29, (Bf.ExcC.xf XY29), (nf_cons n0Y29 (nf_cons n1Y29 nf_nil))⟩
  have GY30 : FnOk l.prog w K mg base CX0 3 fY30 _ _ (spIn CY30 "a worth may lack" ["where", "at", "found"]) := ok_I28 FY30 SF OY30 n0Y30 n1Y30 n2Y30
  have MY30 : MkC l.prog w K mg base CY30 "a worth may lack" ["where", "at", "found"] := ⟨_, _, _, OY30, iY30, tY30, GY30, bY30, (Bf.ExcC.xf XY30), (nf_cons n0Y30 (nf_cons n1Y30 (nf_cons n2Y30 nf_nil)))⟩
  have GY31 : FnOk l.prog w K mg base CX0 3 fY31 _ _ (spIn CY31 "a row isn't right" ["at"]) := ok_I29 FY31 SF OY31 n0Y31
  have MY31 : MkC l.prog w K mg base CY31 "a row isn't right" ["at"] := ⟨_, _, _, OY31, iY31, tY31, GY31, bY31, (Bf.ExcC.xf XY31), (nf_cons n0Y31 nf_nil)⟩
  have GY32 : FnOk l.prog w K mg base CX0 3 fY32 _ _ (spIn CY32 "a used module isn't there" ["where", "found"]) := ok_I32 FY32 SM OY32 n0Y32 n1Y32
  have MY32 : MkC l.prog w K mg base CY32 "a used module isn't there" ["where", "found"] := ⟨_, _, _, OY32, iY32, tY32, GY32, bY32, (Bf.ExcC.xf XY32), (nf_cons n0Y32 (nf_cons n1Y32 nf_nil))⟩
  have GY33 : FnOk l.prog w K mg base CX0 3 fY33 _ _ (spIn CY33 "too many" ["many"]) := ok_I33 FY33 SB OY33 n0Y33
  have MY33 : MkC l.prog w K mg base CY33 "too many" ["many"] := ⟨_, _, _, OY33, iY33, tY33, GY33, bY33, (Bf.ExcC.xf XY33), (nf_cons n0Y33 nf_nil)⟩
  have GY34 : FnOk l.prog w K mg base CX0 3 fY34 _ _ (spIn CY34 "too many steps for the time of a beat" ["many"]) := ok_I34 FY34 SB OY34 n0Y34
  have MY34 : MkC l.prog w K mg base CY34 "too many steps for the time of a beat" ["many"] := ⟨_, _, _, OY34, iY34, tY34, GY34, bY34, (Bf.ExcC.xf XY34), (nf_cons n0Y34 nf_nil)⟩
  have MM : ∀ i z ns, TX[i]? = some (z, ns) → MkC l.prog w K mg base ((fun i => ([CY0, CY1, CY2, CY3, CY4, CY5, CY6, CY7, CY8, CY9, CY10, CY11, CY12, CY13, CY14, CY15, CY16, CY17, CY18, CY19, CY20, CY21, CY22, CY23, CY24, CY25, CY26, CY27, CY28, CY29, CY30, CY31, CY32, CY33, CY34] : List Addr).getD i 0) i) z ns := mk_of (L := [CY0, CY1, CY2, CY3, CY4, CY5, CY6, CY7, CY8, CY9, CY10, CY11, CY12, CY13, CY14, CY15, CY16, CY17, CY18, CY19, CY20, CY21, CY22, CY23, CY24, CY25, CY26, CY27, CY28, CY29, CY30, CY31, CY32, CY33, CY34]) (fun i hi => match i, hi with | 0, _ => MY0 | 1, _ => MY1 | 2, _ => MY2 | 3, _ => MY3 | 4, _ => MY4 | 5, _ => MY5 | 6, _ => MY6 | 7, _ => MY7 | 8, _ => MY8 | 9, _ => MY9 | 10, _ => MY10 | 11, _ => MY11 | 12, _ => MY12 | 13, _ => MY13 | 14, _ => MY14 | 15, _ => MY15 | 16, _ => MY16 | 17, _ => MY17 | 18, _ => MY18 | 19, _ => MY19 | 20, _ => MY20 | 21, _ => MY21 | 22, _ => MY22 | 23, _ => MY23 | 24, _ => MY24 | 25, _ => MY25 | 26, _ => MY26 | 27, _ => MY27 | 28, _ => MY28 | 29, _ => MY29 | 30, _ => MY30 | 31, _ => MY31 | 32, _ => MY32 | 33, _ => MY33 | 34, _ => MY34 | _ + 35, h => absurd h (by omega))
  have FE0 : FnOk l.prog w K mg base CX0 2 fF _ ["self", "text"] (spBase K) := ok_FE FF mValueError vVF
  have BT : BaseT l.prog w K mg base (.type "type") CF fF _ := ⟨PySem.W.mg_of X G aF, ⟨rF, gF⟩, vF, kF, bF, FE0⟩
  have eC0 : PySem.W.subIn K (.ref CY0) (.type "BaseException") = some true := XY0.hs
  have OX : OexC K CY0 := ⟨⟨_, _, _, _, _, _, _, _, _, _, _, _, _, _, _, xY0, (by first | rfl | decide +kernel)⟩, saY0, eC0, tCY0, kCY0⟩
  have NK : FnOk l.prog w K mg base CX0 3 fY0 _ ["self", "found"] (spInit K CY0) := ok_NK FY0 BT OX n0Y0
  have TT : ExT K mg "NoKind" CY0 fY0 _ := ⟨PySem.W.mg_of X G aY0, OX, iY0, tY0, n0Y0, (Bf.ExcC.xf XY0), bY0⟩
  have sub0 : PySem.W.subIn K (.ref CY0) (.ref CY0) = some true := by rw [EY0.sub, List.contains_cons, ref_self, Bool.true_or]
  have FS : Fams K mg CY0 CF CM CB := ⟨PySem.W.mg_of X G aF, PySem.W.mg_of X G aM, PySem.W.mg_of X G aB, XY0, PySem.W.exm_ref eC0 hCY0 tCY0 sub0, (Z.fk 0 (by decide)).f, (Z.fk 0 (by decide)).m, (Z.fk 0 (by decide)).b⟩
  have hcl : PySem.W.clsIn K CY0 = some { name := nmY0, bases := bsY0, mro := .ref CY0 :: .ref CF :: veTail, ns := NzY0, qualname := qY0, hasDict := true, slotNames := snY0, subclasses := subY0, abstract := abY0, collection := colY0, hasDel := false } := by unfold PySem.W.clsIn; rw [xY0] <;> rfl
  have EFx := ExF.mk hcl gaY0 ggY0 eC0 hCY0 haY0 hn ht XY0.hm hrK
  have EKx : ExK K CY0 := exK_mk EY0 XY0
  have el := told_len (m := "no kind") { name := nmY0, bases := bsY0, mro := .ref CY0 :: .ref CF :: veTail, ns := NzY0, qualname := qY0, hasDict := true, slotNames := snY0, subclasses := subY0, abstract := abY0, collection := colY0, hasDel := false } nmE
  have Gnb : FnOk l.prog w K mg base CX0 1 fnb _ _ _ := ok_num Fnb misinstance mint mbool
  have Gwh : FnOk l.prog w K mg base CX0 2 fwh _ _ _ := ok_whole Fwh Dnb Gnb
  have Gna : FnOk l.prog w K mg base CX0 1 fna _ _ _ := ok_name Fna misinstance mstr mlen mall
  have Gwi : FnOk l.prog w K mg base CX0 3 fwi _ _ _ := ok_width Fwi Dwh Gwh
  have Gtr : FnOk l.prog w K mg base CX0 3 ftr _ _ _ := ok_truth Ftr Dwh Gwh
  have Gki : FnOk l.prog w K mg base CX0 4 fki _ _ _ := ok_kind Fki Dwi Gwi Dwh Gwh misinstance mtuple mlen
  have Ggr : FnOk l.prog w K mg base CX0 1 fgr _ _ _ := ok_great Fgr
  have Gwo : FnOk l.prog w K mg base CX0 3 fwo _ _ _ := ok_worthOf Fwo Dwh Gwh Dgr Ggr
  have Gar : FnOk l.prog w K mg base CX0 4 far _ _ _ := ok_are Far Dwo Gwo mall
  have Gco : FnOk l.prog w K mg base CX0 4 fco _ _ _ := ok_cond Fco Dna Gna Dtr Gtr misinstance mtuple mlen
  have Gic : FnOk l.prog w K mg base CX0 5 fic _ _ _ := ok_clock Fic Dco Gco misinstance mtuple mlen mall
  have Giw : FnOk l.prog w K mg base (CXL l.prog w) 5 fiw _ _ _ := ok_isWorth Fiw TT NK Dki Gki Dwo Gwo Dar Gar misinstance mtuple mlen
  have Gln : FnOk l.prog w K mg base CX0 1 fln _ _ _ := ok_lnum Fln misinstance mint mbool
  have Glm : FnOk l.prog w K mg base CX0 1 flm _ _ _ := ok_lisname Flm misinstance mstr mlen
  have Glk : FnOk l.prog w K mg base CX0 2 flk _ _ _ := ok_liskind Flk Dln Gln misinstance mtuple mlen
  have Glw : FnOk l.prog w K mg base CX0 2 flw _ _ _ := ok_lisworth Flw Dln Gln misinstance mtuple mlen
  have Glc : FnOk l.prog w K mg base CX0 2 flc _ _ _ := ok_lclock Flc Dlm Glm Dln Gln misinstance mtuple mlen
  have Gce : FnOk l.prog w K mg base CX0 1 fce _ _ _ := ok_cell Fce mlen
  have Gpu : FnOk l.prog w K mg base CX0 1 fpu _ _ _ := ok_purse Fpu mmax
  have Gta : FnOk l.prog w K mg base CX0 1 fta _ _ _ := ok_take Fta
  have Gof : FnOk l.prog w K mg base CX0 2 fof _ _ _ := ok_of Fof Dta Gta mlen
  have Gnu : FnOk l.prog w K mg base CX0 3 fnu _ _ _ := ok_numb Fnu Dta Gta Dof Gof
  have Gnn : FnOk l.prog w K mg base CX0 2 fnn _ _ _ := ok_nname Fnn Dta Gta mrange mlen
  have Gnc : FnOk l.prog w K mg base CX0 3 fnc _ _ _ := ok_nclock Fnc Dta Gta Dnn Gnn mrange mlist mtuple
  have Gnk : FnOk l.prog w K mg base CX0 2 fnk _ _ _ := ok_nkind Fnk Dta Gta
  have Gnw1 : FnOk l.prog w K mg base CX0 2 fnw _ _ (spNW false) := ok_nworth false (lev := 1) (Nat.le_refl _) Fnw Dnw (nwi_no _) Dta Gta misinstance mtuple mint mbool mlen mrange
  have Gnw : FnOk l.prog w K mg base CX0 3 fnw _ _ (spNW true) := ok_nworth true (lev := 2) (by decide) Fnw Dnw (nwi_yes Gnw1) Dta Gta misinstance mtuple mint mbool mlen mrange
  have Gca : FnOk l.prog w K mg base CX0 6 fca _ _ _ := ok_caught Fca TT FS Diw Giw misinstance
  have Gwr : FnG l.prog w K mg base CX0 7 fwr _ _ _ := ok_wright Fwr Dca Gca Dlw Glw Dlk Glk misinstance mlist mrepr
  have Gfa : FnOk l.prog w K mg base CX0 1 ffa _ _ _ := ok_fam Ffa Z misinstance mValueError mKeyError mLookupError
  have Gko : FnOk l.prog w K mg base CX0 1 fko _ _ _ := ok_kd Fko Z misinstance menumerate
  have Gma : FnOk l.prog w K mg base CX0 5 fma _ _ _ := ok_made Fma Z MM Dnu Gnu
  have Gre : FnG l.prog w K mg base CX0 6 fre _ _ _ := ok_refs Fre Z Dta Gta Dma Gma Dko Gko Dfa Gfa UF UM UB mrepr menumerate
  exact ok_law Fla Dce Gce Dpu Gpu Dre Gre Dnu Gnu Dnk Gnk Dnn Gnn Dnc Gnc Dnw Gnw Dwh Gwh Dna Gna Dki Gki Dic Gic Dln Gln Dlm Glm Dlk Glk Dlc Glc Dwr Gwr (PySem.W.mg_of X G aY0) OY0 iY0 tY0 bY0 GY0 EFx EKx el mmax mmin mrange mlen mrepr
end A1
end Bf

/- names taken ahead: for these states the kit's head makes no twin with all texts spelled out (each a theorem of up to 1.5 million nodes); it evaluates the pieces without -/
def PySem.W.Fast.tw10241214923641722932 : Unit := ()
def PySem.W.Fast.tw8105625934588992139 : Unit := ()
def PySem.W.Fast.tw1073390525430752125 : Unit := ()
def PySem.W.Fast.tw12780066621682871039 : Unit := ()
def PySem.W.Fast.tw14288407427011415410 : Unit := ()
def PySem.W.Fast.tw13398976381543974749 : Unit := ()
def PySem.W.Fast.tw14646417484110003942 : Unit := ()
def PySem.W.Fast.tw10776520855431209769 : Unit := ()
def PySem.W.Fast.tw13130086859010606338 : Unit := ()
def PySem.W.Fast.tw717222653028864413 : Unit := ()
def PySem.W.Fast.tw2755311541693699539 : Unit := ()
def PySem.W.Fast.tw14651594479947697455 : Unit := ()
def PySem.W.Fast.tw11335137696563126130 : Unit := ()
def PySem.W.Fast.tw8006978045841498518 : Unit := ()
def PySem.W.Fast.tw15651358510408437898 : Unit := ()
def PySem.W.Fast.tw7406969877866025437 : Unit := ()
def PySem.W.Fast.tw11522073061812396776 : Unit := ()
def PySem.W.Fast.tw13753693878686166151 : Unit := ()
def PySem.W.Fast.tw17833457871647760395 : Unit := ()
open PySem PySem.W PyProof.Rows in
set_option maxRecDepth 100000 in
set_option maxHeartbeats 0 in
theorem PySem.Challenge.cw_beatflows_k01_kinds_of_anything_holds : PySem.Challenge.rw_beatflows_k01_kinds_of_anything.Holds := by
  w_on; o_law; k_head; (case hw => w_witness2)
  k_fill
  refine Bf.walkG (l := PySem.Challenge.rw_beatflows_k01_kinds_of_anything) (n := 63) (k := 8) (x := "_law_script") (sp := Bf.A1.spLaw) rfl (by decide) rfl ⟨rfl, by decide, by decide⟩ (fun w h Y => PySem.W.kIn_of Y) ?F
    (fun K H a ns hl hS _ => ⟨a, ns, rfl, hS, hl, fun _ => rfl⟩)
  case F =>
    intro w mg fa h KX G hmg
    refine' Bf.A1.all_mk KX G hmg ?zz_anb ?zz_lnb ?zz_cnb ?zz_knb ?zz_awh ?zz_lwh ?zz_cwh ?zz_kwh ?zz_ana ?zz_lna ?zz_cna ?zz_kna ?zz_awi ?zz_lwi ?zz_cwi ?zz_kwi ?zz_atr ?zz_ltr ?zz_ctr ?zz_ktr ?zz_aki ?zz_lki ?zz_cki ?zz_kki ?zz_aiw ?zz_liw ?zz_ciw ?zz_kiw ?zz_aic ?zz_lic ?zz_cic ?zz_kic ?zz_agr ?zz_lgr ?zz_cgr ?zz_kgr ?zz_awo ?zz_lwo ?zz_cwo ?zz_kwo ?zz_aar ?zz_lar ?zz_car ?zz_kar ?zz_aco ?zz_lco ?zz_cco ?zz_kco ?zz_ace ?zz_lce ?zz_cce ?zz_kce ?zz_apu ?zz_lpu ?zz_cpu ?zz_kpu ?zz_ata ?zz_lta ?zz_cta ?zz_kta ?zz_aof ?zz_lof ?zz_cof ?zz_kof ?zz_anu ?zz_lnu ?zz_cnu ?zz_knu ?zz_ann ?zz_lnn ?zz_cnn ?zz_knn ?zz_anc ?zz_lnc ?zz_cnc ?zz_knc ?zz_ank ?zz_lnk ?zz_cnk ?zz_knk ?zz_anw ?zz_lnw ?zz_cnw ?zz_knw ?zz_aln ?zz_lln ?zz_cln ?zz_kln ?zz_alm ?zz_llm ?zz_clm ?zz_klm ?zz_alk ?zz_llk ?zz_clk ?zz_klk ?zz_alc ?zz_llc ?zz_clc ?zz_klc ?zz_alw ?zz_llw ?zz_clw ?zz_klw ?zz_aca ?zz_lca ?zz_cca ?zz_kca ?zz_awr ?zz_lwr ?zz_cwr ?zz_kwr ?zz_afa ?zz_lfa ?zz_cfa ?zz_kfa ?zz_ako ?zz_lko ?zz_cko ?zz_kko ?zz_ama ?zz_lma ?zz_cma ?zz_kma ?zz_are ?zz_lre ?zz_cre ?zz_kre ?zz_ala ?zz_lla ?zz_cla ?zz_kla ?zz_zisinstance ?zz_zint ?zz_zbool ?zz_zlist ?zz_ztuple ?zz_zrange ?zz_zlen ?zz_zall ?zz_zValueError ?zz_zKeyError ?zz_zLookupError ?zz_zmax ?zz_zmin ?zz_zrepr ?zz_zstr ?zz_zenumerate ?zz_hn ?zz_ht ?zz_aF ?zz_xF ?zz_saF ?zz_gaF ?zz_ggF ?zz_iF ?zz_tF ?zz_kCF ?zz_tCF ?zz_hCF ?zz_haF ?zz_rF ?zz_gF ?zz_vF ?zz_lF ?zz_cF ?zz_kF ?zz_vVF ?zz_aM ?zz_xM ?zz_saM ?zz_gaM ?zz_ggM ?zz_iM ?zz_tM ?zz_kCM ?zz_tCM ?zz_hCM ?zz_haM ?zz_rM ?zz_gM ?zz_vM ?zz_lM ?zz_cM ?zz_kM ?zz_vVM ?zz_aB ?zz_xB ?zz_saB ?zz_gaB ?zz_ggB ?zz_iB ?zz_tB ?zz_kCB ?zz_tCB ?zz_hCB ?zz_haB ?zz_rB ?zz_gB ?zz_vB ?zz_lB ?zz_cB ?zz_kB ?zz_vVB ?zz_aY0 ?zz_xY0 ?zz_saY0 ?zz_gaY0 ?zz_ggY0 ?zz_iY0 ?zz_tY0 ?zz_kCY0 ?zz_tCY0 ?zz_hCY0 ?zz_haY0 ?zz_n0Y0 ?zz_lY0 ?zz_cY0 ?zz_kY0 ?zz_aY1 ?zz_xY1 ?zz_saY1 ?zz_gaY1 ?zz_ggY1 ?zz_iY1 ?zz_tY1 ?zz_kCY1 ?zz_tCY1 ?zz_hCY1 ?zz_haY1 ?zz_n0Y1 ?zz_lY1 ?zz_cY1 ?zz_kY1 ?zz_aY2 ?zz_xY2 ?zz_saY2 ?zz_gaY2 ?zz_ggY2 ?zz_iY2 ?zz_tY2 ?zz_kCY2 ?zz_tCY2 ?zz_hCY2 ?zz_haY2 ?zz_n0Y2 ?zz_lY2 ?zz_cY2 ?zz_kY2 ?zz_aY3 ?zz_xY3 ?zz_saY3 ?zz_gaY3 ?zz_ggY3 ?zz_iY3 ?zz_tY3 ?zz_kCY3 ?zz_tCY3 ?zz_hCY3 ?zz_haY3 ?zz_n0Y3 ?zz_lY3 ?zz_cY3 ?zz_kY3 ?zz_aY4 ?zz_xY4 ?zz_saY4 ?zz_gaY4 ?zz_ggY4 ?zz_iY4 ?zz_tY4 ?zz_kCY4 ?zz_tCY4 ?zz_hCY4 ?zz_haY4 ?zz_n0Y4 ?zz_lY4 ?zz_cY4 ?zz_kY4 ?zz_aY5 ?zz_xY5 ?zz_saY5 ?zz_gaY5 ?zz_ggY5 ?zz_iY5 ?zz_tY5 ?zz_kCY5 ?zz_tCY5 ?zz_hCY5 ?zz_haY5 ?zz_n0Y5 ?zz_lY5 ?zz_cY5 ?zz_kY5 ?zz_aY6 ?zz_xY6 ?zz_saY6 ?zz_gaY6 ?zz_ggY6 ?zz_iY6 ?zz_tY6 ?zz_kCY6 ?zz_tCY6 ?zz_hCY6 ?zz_haY6 ?zz_n0Y6 ?zz_lY6 ?zz_cY6 ?zz_kY6 ?zz_aY7 ?zz_xY7 ?zz_saY7 ?zz_gaY7 ?zz_ggY7 ?zz_iY7 ?zz_tY7 ?zz_kCY7 ?zz_tCY7 ?zz_hCY7 ?zz_haY7 ?zz_n0Y7 ?zz_lY7 ?zz_cY7 ?zz_kY7 ?zz_aY8 ?zz_xY8 ?zz_saY8 ?zz_gaY8 ?zz_ggY8 ?zz_iY8 ?zz_tY8 ?zz_kCY8 ?zz_tCY8 ?zz_hCY8 ?zz_haY8 ?zz_n0Y8 ?zz_lY8 ?zz_cY8 ?zz_kY8 ?zz_aY9 ?zz_xY9 ?zz_saY9 ?zz_gaY9 ?zz_ggY9 ?zz_iY9 ?zz_tY9 ?zz_kCY9 ?zz_tCY9 ?zz_hCY9 ?zz_haY9 ?zz_n0Y9 ?zz_lY9 ?zz_cY9 ?zz_kY9 ?zz_aY10 ?zz_xY10 ?zz_saY10 ?zz_gaY10 ?zz_ggY10 ?zz_iY10 ?zz_tY10 ?zz_kCY10 ?zz_tCY10 ?zz_hCY10 ?zz_haY10 ?zz_n0Y10 ?zz_lY10 ?zz_cY10 ?zz_kY10 ?zz_aY11 ?zz_xY11 ?zz_saY11 ?zz_gaY11 ?zz_ggY11 ?zz_iY11 ?zz_tY11 ?zz_kCY11 ?zz_tCY11 ?zz_hCY11 ?zz_haY11 ?zz_n0Y11 ?zz_lY11 ?zz_cY11 ?zz_kY11 ?zz_aY12 ?zz_xY12 ?zz_saY12 ?zz_gaY12 ?zz_ggY12 ?zz_iY12 ?zz_tY12 ?zz_kCY12 ?zz_tCY12 ?zz_hCY12 ?zz_haY12 ?zz_n0Y12 ?zz_lY12 ?zz_cY12 ?zz_kY12 ?zz_aY13 ?zz_xY13 ?zz_saY13 ?zz_gaY13 ?zz_ggY13 ?zz_iY13 ?zz_tY13 ?zz_kCY13 ?zz_tCY13 ?zz_hCY13 ?zz_haY13 ?zz_n0Y13 ?zz_lY13 ?zz_cY13 ?zz_kY13 ?zz_aY14 ?zz_xY14 ?zz_saY14 ?zz_gaY14 ?zz_ggY14 ?zz_iY14 ?zz_tY14 ?zz_kCY14 ?zz_tCY14 ?zz_hCY14 ?zz_haY14 ?zz_n0Y14 ?zz_lY14 ?zz_cY14 ?zz_kY14 ?zz_aY15 ?zz_xY15 ?zz_saY15 ?zz_gaY15 ?zz_ggY15 ?zz_iY15 ?zz_tY15 ?zz_kCY15 ?zz_tCY15 ?zz_hCY15 ?zz_haY15 ?zz_n0Y15 ?zz_lY15 ?zz_cY15 ?zz_kY15 ?zz_aY16 ?zz_xY16 ?zz_saY16 ?zz_gaY16 ?zz_ggY16 ?zz_iY16 ?zz_tY16 ?zz_kCY16 ?zz_tCY16 ?zz_hCY16 ?zz_haY16 ?zz_n0Y16 ?zz_lY16 ?zz_cY16 ?zz_kY16 ?zz_aY17 ?zz_xY17 ?zz_saY17 ?zz_gaY17 ?zz_ggY17 ?zz_iY17 ?zz_tY17 ?zz_kCY17 ?zz_tCY17 ?zz_hCY17 ?zz_haY17 ?zz_n0Y17 ?zz_lY17 ?zz_cY17 ?zz_kY17 ?zz_aY18 ?zz_xY18 ?zz_saY18 ?zz_gaY18 ?zz_ggY18 ?zz_iY18 ?zz_tY18 ?zz_kCY18 ?zz_tCY18 ?zz_hCY18 ?zz_haY18 ?zz_n0Y18 ?zz_lY18 ?zz_cY18 ?zz_kY18 ?zz_aY19 ?zz_xY19 ?zz_saY19 ?zz_gaY19 ?zz_ggY19 ?zz_iY19 ?zz_tY19 ?zz_kCY19 ?zz_tCY19 ?zz_hCY19 ?zz_haY19 ?zz_n0Y19 ?zz_lY19 ?zz_cY19 ?zz_kY19 ?zz_aY20 ?zz_xY20 ?zz_saY20 ?zz_gaY20 ?zz_ggY20 ?zz_iY20 ?zz_tY20 ?zz_kCY20 ?zz_tCY20 ?zz_hCY20 ?zz_haY20 ?zz_n0Y20 ?zz_lY20 ?zz_cY20 ?zz_kY20 ?zz_aY21 ?zz_xY21 ?zz_saY21 ?zz_gaY21 ?zz_ggY21 ?zz_iY21 ?zz_tY21 ?zz_kCY21 ?zz_tCY21 ?zz_hCY21 ?zz_haY21 ?zz_n0Y21 ?zz_lY21 ?zz_cY21 ?zz_kY21 ?zz_aY22 ?zz_xY22 ?zz_saY22 ?zz_gaY22 ?zz_ggY22 ?zz_iY22 ?zz_tY22 ?zz_kCY22 ?zz_tCY22 ?zz_hCY22 ?zz_haY22 ?zz_n0Y22 ?zz_lY22 ?zz_cY22 ?zz_kY22 ?zz_aY23 ?zz_xY23 ?zz_saY23 ?zz_gaY23 ?zz_ggY23 ?zz_iY23 ?zz_tY23 ?zz_kCY23 ?zz_tCY23 ?zz_hCY23 ?zz_haY23 ?zz_n0Y23 ?zz_lY23 ?zz_cY23 ?zz_kY23 ?zz_aY24 ?zz_xY24 ?zz_saY24 ?zz_gaY24 ?zz_ggY24 ?zz_iY24 ?zz_tY24 ?zz_kCY24 ?zz_tCY24 ?zz_hCY24 ?zz_haY24 ?zz_n0Y24 ?zz_lY24 ?zz_cY24 ?zz_kY24 ?zz_aY25 ?zz_xY25 ?zz_saY25 ?zz_gaY25 ?zz_ggY25 ?zz_iY25 ?zz_tY25 ?zz_kCY25 ?zz_tCY25 ?zz_hCY25 ?zz_haY25 ?zz_n0Y25 ?zz_lY25 ?zz_cY25 ?zz_kY25 ?zz_aY26 ?zz_xY26 ?zz_saY26 ?zz_gaY26 ?zz_ggY26 ?zz_iY26 ?zz_tY26 ?zz_kCY26 ?zz_tCY26 ?zz_hCY26 ?zz_haY26 ?zz_n0Y26 ?zz_lY26 ?zz_cY26 ?zz_kY26 ?zz_aY27 ?zz_xY27 ?zz_saY27 ?zz_gaY27 ?zz_ggY27 ?zz_iY27 ?zz_tY27 ?zz_kCY27 ?zz_tCY27 ?zz_hCY27 ?zz_haY27 ?zz_n0Y27 ?zz_lY27 ?zz_cY27 ?zz_kY27 ?zz_aY28 ?zz_xY28 ?zz_saY28 ?zz_gaY28 ?zz_ggY28 ?zz_iY28 ?zz_tY28 ?zz_kCY28 ?zz_tCY28 ?zz_hCY28 ?zz_haY28 ?zz_n0Y28 ?zz_n1Y28 ?zz_n2Y28 ?zz_n3Y28 ?zz_lY28 ?zz_cY28 ?zz_kY28 ?zz_aY29 ?zz_xY29 ?zz_saY29 ?zz_gaY29 ?zz_ggY29 ?zz_iY29 ?zz_tY29 ?zz_kCY29 ?zz_tCY29 ?zz_hCY29 ?zz_haY29 ?zz_n0Y29 ?zz_n1Y29 ?zz_lY29 ?zz_cY29 ?zz_kY29 ?zz_aY30 ?zz_xY30 ?zz_saY30 ?zz_gaY30 ?zz_ggY30 ?zz_iY30 ?zz_tY30 ?zz_kCY30 ?zz_tCY30 ?zz_hCY30 ?zz_haY30 ?zz_n0Y30 ?zz_n1Y30 ?zz_n2Y30 ?zz_lY30 ?zz_cY30 ?zz_kY30 ?zz_aY31 ?zz_xY31 ?zz_saY31 ?zz_gaY31 ?zz_ggY31 ?zz_iY31 ?zz_tY31 ?zz_kCY31 ?zz_tCY31 ?zz_hCY31 ?zz_haY31 ?zz_n0Y31 ?zz_lY31 ?zz_cY31 ?zz_kY31 ?zz_aY32 ?zz_xY32 ?zz_saY32 ?zz_gaY32 ?zz_ggY32 ?zz_iY32 ?zz_tY32 ?zz_kCY32 ?zz_tCY32 ?zz_hCY32 ?zz_haY32 ?zz_n0Y32 ?zz_n1Y32 ?zz_lY32 ?zz_cY32 ?zz_kY32 ?zz_aY33 ?zz_xY33 ?zz_saY33 ?zz_gaY33 ?zz_ggY33 ?zz_iY33 ?zz_tY33 ?zz_kCY33 ?zz_tCY33 ?zz_hCY33 ?zz_haY33 ?zz_n0Y33 ?zz_lY33 ?zz_cY33 ?zz_kY33 ?zz_aY34 ?zz_xY34 ?zz_saY34 ?zz_gaY34 ?zz_ggY34 ?zz_iY34 ?zz_tY34 ?zz_kCY34 ?zz_tCY34 ?zz_hCY34 ?zz_haY34 ?zz_n0Y34 ?zz_lY34 ?zz_cY34 ?zz_kY34 ?zz_nd ?zz_nmE ?zz_hrK
    (case zz_anb => k_is)
    (case zz_lnb => k_is)
    (case zz_cnb => k_is)
    (case zz_knb => k_is)
    (case zz_awh => k_is)
    (case zz_lwh => k_is)
    (case zz_cwh => k_is)
    (case zz_kwh => k_is)
    (case zz_ana => k_is)
    (case zz_lna => k_is)
    (case zz_cna => k_is)
    (case zz_kna => k_is)
    (case zz_awi => k_is)
    (case zz_lwi => k_is)
    (case zz_cwi => k_is)
    (case zz_kwi => k_is)
    (case zz_atr => k_is)
    (case zz_ltr => k_is)
    (case zz_ctr => k_is)
    (case zz_ktr => k_is)
    (case zz_aki => k_is)
    (case zz_lki => k_is)
    (case zz_cki => k_is)
    (case zz_kki => k_is)
    (case zz_aiw => k_is)
    (case zz_liw => k_is)
    (case zz_ciw => k_is)
    (case zz_kiw => k_is)
    (case zz_aic => k_is)
    (case zz_lic => k_is)
    (case zz_cic => k_is)
    (case zz_kic => k_is)
    (case zz_agr => k_is)
    (case zz_lgr => k_is)
    (case zz_cgr => k_is)
    (case zz_kgr => k_is)
    (case zz_awo => k_is)
    (case zz_lwo => k_is)
    (case zz_cwo => k_is)
    (case zz_kwo => k_is)
    (case zz_aar => k_is)
    (case zz_lar => k_is)
    (case zz_car => k_is)
    (case zz_kar => k_is)
    (case zz_aco => k_is)
    (case zz_lco => k_is)
    (case zz_cco => k_is)
    (case zz_kco => k_is)
    (case zz_ace => k_is)
    (case zz_lce => k_is)
    (case zz_cce => k_is)
    (case zz_kce => k_is)
    (case zz_apu => k_is)
    (case zz_lpu => k_is)
    (case zz_cpu => k_is)
    (case zz_kpu => k_is)
    (case zz_ata => k_is)
    (case zz_lta => k_is)
    (case zz_cta => k_is)
    (case zz_kta => k_is)
    (case zz_aof => k_is)
    (case zz_lof => k_is)
    (case zz_cof => k_is)
    (case zz_kof => k_is)
    (case zz_anu => k_is)
    (case zz_lnu => k_is)
    (case zz_cnu => k_is)
    (case zz_knu => k_is)
    (case zz_ann => k_is)
    (case zz_lnn => k_is)
    (case zz_cnn => k_is)
    (case zz_knn => k_is)
    (case zz_anc => k_is)
    (case zz_lnc => k_is)
    (case zz_cnc => k_is)
    (case zz_knc => k_is)
    (case zz_ank => k_is)
    (case zz_lnk => k_is)
    (case zz_cnk => k_is)
    (case zz_knk => k_is)
    (case zz_anw => k_is)
    (case zz_lnw => k_is)
    (case zz_cnw => k_is)
    (case zz_knw => k_is)
    (case zz_aln => k_is)
    (case zz_lln => k_is)
    (case zz_cln => k_is)
    (case zz_kln => k_is)
    (case zz_alm => k_is)
    (case zz_llm => k_is)
    (case zz_clm => k_is)
    (case zz_klm => k_is)
    (case zz_alk => k_is)
    (case zz_llk => k_is)
    (case zz_clk => k_is)
    (case zz_klk => k_is)
    (case zz_alc => k_is)
    (case zz_llc => k_is)
    (case zz_clc => k_is)
    (case zz_klc => k_is)
    (case zz_alw => k_is)
    (case zz_llw => k_is)
    (case zz_clw => k_is)
    (case zz_klw => k_is)
    (case zz_aca => k_is)
    (case zz_lca => k_is)
    (case zz_cca => k_is)
    (case zz_kca => k_is)
    (case zz_awr => k_is)
    (case zz_lwr => k_is)
    (case zz_cwr => k_is)
    (case zz_kwr => k_is)
    (case zz_afa => k_is)
    (case zz_lfa => k_is)
    (case zz_cfa => k_is)
    (case zz_kfa => k_is)
    (case zz_ako => k_is)
    (case zz_lko => k_is)
    (case zz_cko => k_is)
    (case zz_kko => k_is)
    (case zz_ama => k_is)
    (case zz_lma => k_is)
    (case zz_cma => k_is)
    (case zz_kma => k_is)
    (case zz_are => k_is)
    (case zz_lre => k_is)
    (case zz_cre => k_is)
    (case zz_kre => k_is)
    (case zz_ala => k_is)
    (case zz_lla => k_is)
    (case zz_cla => k_is)
    (case zz_kla => k_is)
    (case zz_zisinstance => k_is)
    (case zz_zint => k_is)
    (case zz_zbool => k_is)
    (case zz_zlist => k_is)
    (case zz_ztuple => k_is)
    (case zz_zrange => k_is)
    (case zz_zlen => k_is)
    (case zz_zall => k_is)
    (case zz_zValueError => k_is)
    (case zz_zKeyError => k_is)
    (case zz_zLookupError => k_is)
    (case zz_zmax => k_is)
    (case zz_zmin => k_is)
    (case zz_zrepr => k_is)
    (case zz_zstr => k_is)
    (case zz_zenumerate => k_is)
    (case zz_hn => k_is)
    (case zz_ht => k_is)
    (case zz_aF => k_is)
    (case zz_xF => k_is)
    (case zz_saF => k_is)
    (case zz_gaF => k_is)
    (case zz_ggF => k_is)
    (case zz_iF => k_is)
    (case zz_tF => k_is)
    (case zz_kCF => k_is)
    (case zz_tCF => k_is)
    (case zz_hCF => k_is)
    (case zz_haF => k_is)
    (case zz_rF => k_is)
    (case zz_gF => k_is)
    (case zz_vF => k_is)
    (case zz_lF => k_is)
    (case zz_cF => k_is)
    (case zz_kF => k_is)
    (case zz_vVF => k_is)
    (case zz_aM => k_is)
    (case zz_xM => k_is)
    (case zz_saM => k_is)
    (case zz_gaM => k_is)
    (case zz_ggM => k_is)
    (case zz_iM => k_is)
    (case zz_tM => k_is)
    (case zz_kCM => k_is)
    (case zz_tCM => k_is)
    (case zz_hCM => k_is)
    (case zz_haM => k_is)
    (case zz_rM => k_is)
    (case zz_gM => k_is)
    (case zz_vM => k_is)
    (case zz_lM => k_is)
    (case zz_cM => k_is)
    (case zz_kM => k_is)
    (case zz_vVM => k_is)
    (case zz_aB => k_is)
    (case zz_xB => k_is)
    (case zz_saB => k_is)
    (case zz_gaB => k_is)
    (case zz_ggB => k_is)
    (case zz_iB => k_is)
    (case zz_tB => k_is)
    (case zz_kCB => k_is)
    (case zz_tCB => k_is)
    (case zz_hCB => k_is)
    (case zz_haB => k_is)
    (case zz_rB => k_is)
    (case zz_gB => k_is)
    (case zz_vB => k_is)
    (case zz_lB => k_is)
    (case zz_cB => k_is)
    (case zz_kB => k_is)
    (case zz_vVB => k_is)
    (case zz_aY0 => k_is)
    (case zz_xY0 => k_is)
    (case zz_saY0 => k_is)
    (case zz_gaY0 => k_is)
    (case zz_ggY0 => k_is)
    (case zz_iY0 => k_is)
    (case zz_tY0 => k_is)
    (case zz_kCY0 => k_is)
    (case zz_tCY0 => k_is)
    (case zz_hCY0 => k_is)
    (case zz_haY0 => k_is)
    (case zz_n0Y0 => k_is)
    (case zz_lY0 => k_is)
    (case zz_cY0 => k_is)
    (case zz_kY0 => k_is)
    (case zz_aY1 => k_is)
    (case zz_xY1 => k_is)
    (case zz_saY1 => k_is)
    (case zz_gaY1 => k_is)
    (case zz_ggY1 => k_is)
    (case zz_iY1 => k_is)
    (case zz_tY1 => k_is)
    (case zz_kCY1 => k_is)
    (case zz_tCY1 => k_is)
    (case zz_hCY1 => k_is)
    (case zz_haY1 => k_is)
    (case zz_n0Y1 => k_is)
    (case zz_lY1 => k_is)
    (case zz_cY1 => k_is)
    (case zz_kY1 => k_is)
    (case zz_aY2 => k_is)
    (case zz_xY2 => k_is)
    (case zz_saY2 => k_is)
    (case zz_gaY2 => k_is)
    (case zz_ggY2 => k_is)
    (case zz_iY2 => k_is)
    (case zz_tY2 => k_is)
    (case zz_kCY2 => k_is)
    (case zz_tCY2 => k_is)
    (case zz_hCY2 => k_is)
    (case zz_haY2 => k_is)
    (case zz_n0Y2 => k_is)
    (case zz_lY2 => k_is)
    (case zz_cY2 => k_is)
    (case zz_kY2 => k_is)
    (case zz_aY3 => k_is)
    (case zz_xY3 => k_is)
    (case zz_saY3 => k_is)
    (case zz_gaY3 => k_is)
    (case zz_ggY3 => k_is)
    (case zz_iY3 => k_is)
    (case zz_tY3 => k_is)
    (case zz_kCY3 => k_is)
    (case zz_tCY3 => k_is)
    (case zz_hCY3 => k_is)
    (case zz_haY3 => k_is)
    (case zz_n0Y3 => k_is)
    (case zz_lY3 => k_is)
    (case zz_cY3 => k_is)
    (case zz_kY3 => k_is)
    (case zz_aY4 => k_is)
    (case zz_xY4 => k_is)
    (case zz_saY4 => k_is)
    (case zz_gaY4 => k_is)
    (case zz_ggY4 => k_is)
    (case zz_iY4 => k_is)
    (case zz_tY4 => k_is)
    (case zz_kCY4 => k_is)
    (case zz_tCY4 => k_is)
    (case zz_hCY4 => k_is)
    (case zz_haY4 => k_is)
    (case zz_n0Y4 => k_is)
    (case zz_lY4 => k_is)
    (case zz_cY4 => k_is)
    (case zz_kY4 => k_is)
    (case zz_aY5 => k_is)
    (case zz_xY5 => k_is)
    (case zz_saY5 => k_is)
    (case zz_gaY5 => k_is)
    (case zz_ggY5 => k_is)
    (case zz_iY5 => k_is)
    (case zz_tY5 => k_is)
    (case zz_kCY5 => k_is)
    (case zz_tCY5 => k_is)
    (case zz_hCY5 => k_is)
    (case zz_haY5 => k_is)
    (case zz_n0Y5 => k_is)
    (case zz_lY5 => k_is)
    (case zz_cY5 => k_is)
    (case zz_kY5 => k_is)
    (case zz_aY6 => k_is)
    (case zz_xY6 => k_is)
    (case zz_saY6 => k_is)
    (case zz_gaY6 => k_is)
    (case zz_ggY6 => k_is)
    (case zz_iY6 => k_is)
    (case zz_tY6 => k_is)
    (case zz_kCY6 => k_is)
    (case zz_tCY6 => k_is)
    (case zz_hCY6 => k_is)
    (case zz_haY6 => k_is)
    (case zz_n0Y6 => k_is)
    (case zz_lY6 => k_is)
    (case zz_cY6 => k_is)
    (case zz_kY6 => k_is)
    (case zz_aY7 => k_is)
    (case zz_xY7 => k_is)
    (case zz_saY7 => k_is)
    (case zz_gaY7 => k_is)
    (case zz_ggY7 => k_is)
    (case zz_iY7 => k_is)
    (case zz_tY7 => k_is)
    (case zz_kCY7 => k_is)
    (case zz_tCY7 => k_is)
    (case zz_hCY7 => k_is)
    (case zz_haY7 => k_is)
    (case zz_n0Y7 => k_is)
    (case zz_lY7 => k_is)
    (case zz_cY7 => k_is)
    (case zz_kY7 => k_is)
    (case zz_aY8 => k_is)
    (case zz_xY8 => k_is)
    (case zz_saY8 => k_is)
    (case zz_gaY8 => k_is)
    (case zz_ggY8 => k_is)
    (case zz_iY8 => k_is)
    (case zz_tY8 => k_is)
    (case zz_kCY8 => k_is)
    (case zz_tCY8 => k_is)
    (case zz_hCY8 => k_is)
    (case zz_haY8 => k_is)
    (case zz_n0Y8 => k_is)
    (case zz_lY8 => k_is)
    (case zz_cY8 => k_is)
    (case zz_kY8 => k_is)
    (case zz_aY9 => k_is)
    (case zz_xY9 => k_is)
    (case zz_saY9 => k_is)
    (case zz_gaY9 => k_is)
    (case zz_ggY9 => k_is)
    (case zz_iY9 => k_is)
    (case zz_tY9 => k_is)
    (case zz_kCY9 => k_is)
    (case zz_tCY9 => k_is)
    (case zz_hCY9 => k_is)
    (case zz_haY9 => k_is)
    (case zz_n0Y9 => k_is)
    (case zz_lY9 => k_is)
    (case zz_cY9 => k_is)
    (case zz_kY9 => k_is)
    (case zz_aY10 => k_is)
    (case zz_xY10 => k_is)
    (case zz_saY10 => k_is)
    (case zz_gaY10 => k_is)
    (case zz_ggY10 => k_is)
    (case zz_iY10 => k_is)
    (case zz_tY10 => k_is)
    (case zz_kCY10 => k_is)
    (case zz_tCY10 => k_is)
    (case zz_hCY10 => k_is)
    (case zz_haY10 => k_is)
    (case zz_n0Y10 => k_is)
    (case zz_lY10 => k_is)
    (case zz_cY10 => k_is)
    (case zz_kY10 => k_is)
    (case zz_aY11 => k_is)
    (case zz_xY11 => k_is)
    (case zz_saY11 => k_is)
    (case zz_gaY11 => k_is)
    (case zz_ggY11 => k_is)
    (case zz_iY11 => k_is)
    (case zz_tY11 => k_is)
    (case zz_kCY11 => k_is)
    (case zz_tCY11 => k_is)
    (case zz_hCY11 => k_is)
    (case zz_haY11 => k_is)
    (case zz_n0Y11 => k_is)
    (case zz_lY11 => k_is)
    (case zz_cY11 => k_is)
    (case zz_kY11 => k_is)
    (case zz_aY12 => k_is)
    (case zz_xY12 => k_is)
    (case zz_saY12 => k_is)
    (case zz_gaY12 => k_is)
    (case zz_ggY12 => k_is)
    (case zz_iY12 => k_is)
    (case zz_tY12 => k_is)
    (case zz_kCY12 => k_is)
    (case zz_tCY12 => k_is)
    (case zz_hCY12 => k_is)
    (case zz_haY12 => k_is)
    (case zz_n0Y12 => k_is)
    (case zz_lY12 => k_is)
    (case zz_cY12 => k_is)
    (case zz_kY12 => k_is)
    (case zz_aY13 => k_is)
    (case zz_xY13 => k_is)
    (case zz_saY13 => k_is)
    (case zz_gaY13 => k_is)
    (case zz_ggY13 => k_is)
    (case zz_iY13 => k_is)
    (case zz_tY13 => k_is)
    (case zz_kCY13 => k_is)
    (case zz_tCY13 => k_is)
    (case zz_hCY13 => k_is)
    (case zz_haY13 => k_is)
    (case zz_n0Y13 => k_is)
    (case zz_lY13 => k_is)
    (case zz_cY13 => k_is)
    (case zz_kY13 => k_is)
    (case zz_aY14 => k_is)
    (case zz_xY14 => k_is)
    (case zz_saY14 => k_is)
    (case zz_gaY14 => k_is)
    (case zz_ggY14 => k_is)
    (case zz_iY14 => k_is)
    (case zz_tY14 => k_is)
    (case zz_kCY14 => k_is)
    (case zz_tCY14 => k_is)
    (case zz_hCY14 => k_is)
    (case zz_haY14 => k_is)
    (case zz_n0Y14 => k_is)
    (case zz_lY14 => k_is)
    (case zz_cY14 => k_is)
    (case zz_kY14 => k_is)
    (case zz_aY15 => k_is)
    (case zz_xY15 => k_is)
    (case zz_saY15 => k_is)
    (case zz_gaY15 => k_is)
    (case zz_ggY15 => k_is)
    (case zz_iY15 => k_is)
    (case zz_tY15 => k_is)
    (case zz_kCY15 => k_is)
    (case zz_tCY15 => k_is)
    (case zz_hCY15 => k_is)
    (case zz_haY15 => k_is)
    (case zz_n0Y15 => k_is)
    (case zz_lY15 => k_is)
    (case zz_cY15 => k_is)
    (case zz_kY15 => k_is)
    (case zz_aY16 => k_is)
    (case zz_xY16 => k_is)
    (case zz_saY16 => k_is)
    (case zz_gaY16 => k_is)
    (case zz_ggY16 => k_is)
    (case zz_iY16 => k_is)
    (case zz_tY16 => k_is)
    (case zz_kCY16 => k_is)
    (case zz_tCY16 => k_is)
    (case zz_hCY16 => k_is)
    (case zz_haY16 => k_is)
    (case zz_n0Y16 => k_is)
    (case zz_lY16 => k_is)
    (case zz_cY16 => k_is)
    (case zz_kY16 => k_is)
    (case zz_aY17 => k_is)
    (case zz_xY17 => k_is)
    (case zz_saY17 => k_is)
    (case zz_gaY17 => k_is)
    (case zz_ggY17 => k_is)
    (case zz_iY17 => k_is)
    (case zz_tY17 => k_is)
    (case zz_kCY17 => k_is)
    (case zz_tCY17 => k_is)
    (case zz_hCY17 => k_is)
    (case zz_haY17 => k_is)
    (case zz_n0Y17 => k_is)
    (case zz_lY17 => k_is)
    (case zz_cY17 => k_is)
    (case zz_kY17 => k_is)
    (case zz_aY18 => k_is)
    (case zz_xY18 => k_is)
    (case zz_saY18 => k_is)
    (case zz_gaY18 => k_is)
    (case zz_ggY18 => k_is)
    (case zz_iY18 => k_is)
    (case zz_tY18 => k_is)
    (case zz_kCY18 => k_is)
    (case zz_tCY18 => k_is)
    (case zz_hCY18 => k_is)
    (case zz_haY18 => k_is)
    (case zz_n0Y18 => k_is)
    (case zz_lY18 => k_is)
    (case zz_cY18 => k_is)
    (case zz_kY18 => k_is)
    (case zz_aY19 => k_is)
    (case zz_xY19 => k_is)
    (case zz_saY19 => k_is)
    (case zz_gaY19 => k_is)
    (case zz_ggY19 => k_is)
    (case zz_iY19 => k_is)
    (case zz_tY19 => k_is)
    (case zz_kCY19 => k_is)
    (case zz_tCY19 => k_is)
    (case zz_hCY19 => k_is)
    (case zz_haY19 => k_is)
    (case zz_n0Y19 => k_is)
    (case zz_lY19 => k_is)
    (case zz_cY19 => k_is)
    (case zz_kY19 => k_is)
    (case zz_aY20 => k_is)
    (case zz_xY20 => k_is)
    (case zz_saY20 => k_is)
    (case zz_gaY20 => k_is)
    (case zz_ggY20 => k_is)
    (case zz_iY20 => k_is)
    (case zz_tY20 => k_is)
    (case zz_kCY20 => k_is)
    (case zz_tCY20 => k_is)
    (case zz_hCY20 => k_is)
    (case zz_haY20 => k_is)
    (case zz_n0Y20 => k_is)
    (case zz_lY20 => k_is)
    (case zz_cY20 => k_is)
    (case zz_kY20 => k_is)
    (case zz_aY21 => k_is)
    (case zz_xY21 => k_is)
    (case zz_saY21 => k_is)
    (case zz_gaY21 => k_is)
    (case zz_ggY21 => k_is)
    (case zz_iY21 => k_is)
    (case zz_tY21 => k_is)
    (case zz_kCY21 => k_is)
    (case zz_tCY21 => k_is)
    (case zz_hCY21 => k_is)
    (case zz_haY21 => k_is)
    (case zz_n0Y21 => k_is)
    (case zz_lY21 => k_is)
    (case zz_cY21 => k_is)
    (case zz_kY21 => k_is)
    (case zz_aY22 => k_is)
    (case zz_xY22 => k_is)
    (case zz_saY22 => k_is)
    (case zz_gaY22 => k_is)
    (case zz_ggY22 => k_is)
    (case zz_iY22 => k_is)
    (case zz_tY22 => k_is)
    (case zz_kCY22 => k_is)
    (case zz_tCY22 => k_is)
    (case zz_hCY22 => k_is)
    (case zz_haY22 => k_is)
    (case zz_n0Y22 => k_is)
    (case zz_lY22 => k_is)
    (case zz_cY22 => k_is)
    (case zz_kY22 => k_is)
    (case zz_aY23 => k_is)
    (case zz_xY23 => k_is)
    (case zz_saY23 => k_is)
    (case zz_gaY23 => k_is)
    (case zz_ggY23 => k_is)
    (case zz_iY23 => k_is)
    (case zz_tY23 => k_is)
    (case zz_kCY23 => k_is)
    (case zz_tCY23 => k_is)
    (case zz_hCY23 => k_is)
    (case zz_haY23 => k_is)
    (case zz_n0Y23 => k_is)
    (case zz_lY23 => k_is)
    (case zz_cY23 => k_is)
    (case zz_kY23 => k_is)
    (case zz_aY24 => k_is)
    (case zz_xY24 => k_is)
    (case zz_saY24 => k_is)
    (case zz_gaY24 => k_is)
    (case zz_ggY24 => k_is)
    (case zz_iY24 => k_is)
    (case zz_tY24 => k_is)
    (case zz_kCY24 => k_is)
    (case zz_tCY24 => k_is)
    (case zz_hCY24 => k_is)
    (case zz_haY24 => k_is)
    (case zz_n0Y24 => k_is)
    (case zz_lY24 => k_is)
    (case zz_cY24 => k_is)
    (case zz_kY24 => k_is)
    (case zz_aY25 => k_is)
    (case zz_xY25 => k_is)
    (case zz_saY25 => k_is)
    (case zz_gaY25 => k_is)
    (case zz_ggY25 => k_is)
    (case zz_iY25 => k_is)
    (case zz_tY25 => k_is)
    (case zz_kCY25 => k_is)
    (case zz_tCY25 => k_is)
    (case zz_hCY25 => k_is)
    (case zz_haY25 => k_is)
    (case zz_n0Y25 => k_is)
    (case zz_lY25 => k_is)
    (case zz_cY25 => k_is)
    (case zz_kY25 => k_is)
    (case zz_aY26 => k_is)
    (case zz_xY26 => k_is)
    (case zz_saY26 => k_is)
    (case zz_gaY26 => k_is)
    (case zz_ggY26 => k_is)
    (case zz_iY26 => k_is)
    (case zz_tY26 => k_is)
    (case zz_kCY26 => k_is)
    (case zz_tCY26 => k_is)
    (case zz_hCY26 => k_is)
    (case zz_haY26 => k_is)
    (case zz_n0Y26 => k_is)
    (case zz_lY26 => k_is)
    (case zz_cY26 => k_is)
    (case zz_kY26 => k_is)
    (case zz_aY27 => k_is)
    (case zz_xY27 => k_is)
    (case zz_saY27 => k_is)
    (case zz_gaY27 => k_is)
    (case zz_ggY27 => k_is)
    (case zz_iY27 => k_is)
    (case zz_tY27 => k_is)
    (case zz_kCY27 => k_is)
    (case zz_tCY27 => k_is)
    (case zz_hCY27 => k_is)
    (case zz_haY27 => k_is)
    (case zz_n0Y27 => k_is)
    (case zz_lY27 => k_is)
    (case zz_cY27 => k_is)
    (case zz_kY27 => k_is)
    (case zz_aY28 => k_is)
    (case zz_xY28 => k_is)
    (case zz_saY28 => k_is)
    (case zz_gaY28 => k_is)
    (case zz_ggY28 => k_is)
    (case zz_iY28 => k_is)
    (case zz_tY28 => k_is)
    (case zz_kCY28 => k_is)
    (case zz_tCY28 => k_is)
    (case zz_hCY28 => k_is)
    (case zz_haY28 => k_is)
    (case zz_n0Y28 => k_is)
    (case zz_n1Y28 => k_is)
    (case zz_n2Y28 => k_is)
    (case zz_n3Y28 => k_is)
    (case zz_lY28 => k_is)
    (case zz_cY28 => k_is)
    (case zz_kY28 => k_is)
    (case zz_aY29 => k_is)
    (case zz_xY29 => k_is)
    (case zz_saY29 => k_is)
    (case zz_gaY29 => k_is)
    (case zz_ggY29 => k_is)
    (case zz_iY29 => k_is)
    (case zz_tY29 => k_is)
    (case zz_kCY29 => k_is)
    (case zz_tCY29 => k_is)
    (case zz_hCY29 => k_is)
    (case zz_haY29 => k_is)
    (case zz_n0Y29 => k_is)
    (case zz_n1Y29 => k_is)
    (case zz_lY29 => k_is)
    (case zz_cY29 => k_is)
    (case zz_kY29 => k_is)
    (case zz_aY30 => k_is)
    (case zz_xY30 => k_is)
    (case zz_saY30 => k_is)
    (case zz_gaY30 => k_is)
    (case zz_ggY30 => k_is)
    (case zz_iY30 => k_is)
    (case zz_tY30 => k_is)
    (case zz_kCY30 => k_is)
    (case zz_tCY30 => k_is)
    (case zz_hCY30 => k_is)
    (case zz_haY30 => k_is)
    (case zz_n0Y30 => k_is)
    (case zz_n1Y30 => k_is)
    (case zz_n2Y30 => k_is)
    (case zz_lY30 => k_is)
    (case zz_cY30 => k_is)
    (case zz_kY30 => k_is)
    (case zz_aY31 => k_is)
    (case zz_xY31 => k_is)
    (case zz_saY31 => k_is)
    (case zz_gaY31 => k_is)
    (case zz_ggY31 => k_is)
    (case zz_iY31 => k_is)
    (case zz_tY31 => k_is)
    (case zz_kCY31 => k_is)
    (case zz_tCY31 => k_is)
    (case zz_hCY31 => k_is)
    (case zz_haY31 => k_is)
    (case zz_n0Y31 => k_is)
    (case zz_lY31 => k_is)
    (case zz_cY31 => k_is)
    (case zz_kY31 => k_is)
    (case zz_aY32 => k_is)
    (case zz_xY32 => k_is)
    (case zz_saY32 => k_is)
    (case zz_gaY32 => k_is)
    (case zz_ggY32 => k_is)
    (case zz_iY32 => k_is)
    (case zz_tY32 => k_is)
    (case zz_kCY32 => k_is)
    (case zz_tCY32 => k_is)
    (case zz_hCY32 => k_is)
    (case zz_haY32 => k_is)
    (case zz_n0Y32 => k_is)
    (case zz_n1Y32 => k_is)
    (case zz_lY32 => k_is)
    (case zz_cY32 => k_is)
    (case zz_kY32 => k_is)
    (case zz_aY33 => k_is)
    (case zz_xY33 => k_is)
    (case zz_saY33 => k_is)
    (case zz_gaY33 => k_is)
    (case zz_ggY33 => k_is)
    (case zz_iY33 => k_is)
    (case zz_tY33 => k_is)
    (case zz_kCY33 => k_is)
    (case zz_tCY33 => k_is)
    (case zz_hCY33 => k_is)
    (case zz_haY33 => k_is)
    (case zz_n0Y33 => k_is)
    (case zz_lY33 => k_is)
    (case zz_cY33 => k_is)
    (case zz_kY33 => k_is)
    (case zz_aY34 => k_is)
    (case zz_xY34 => k_is)
    (case zz_saY34 => k_is)
    (case zz_gaY34 => k_is)
    (case zz_ggY34 => k_is)
    (case zz_iY34 => k_is)
    (case zz_tY34 => k_is)
    (case zz_kCY34 => k_is)
    (case zz_tCY34 => k_is)
    (case zz_hCY34 => k_is)
    (case zz_haY34 => k_is)
    (case zz_n0Y34 => k_is)
    (case zz_lY34 => k_is)
    (case zz_cY34 => k_is)
    (case zz_kY34 => k_is)
    (case zz_nd => decide +kernel)
    (case zz_nmE => rfl)
    (case zz_hrK => k_is)
