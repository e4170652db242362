import PyProof.Rows.All
import Wide.All
import OpenK.AllK
import Wide.FinOn
import HandS.ForMost
import HandS.ForExc
import HandS.ExcInit
import HandS.ExcField
import HandS.IsInst
import HandS.ClsMeth
import HandS.ForSpec
import KE.GoesMore
import HandS.Style
import HandS.TupAny
import HandS.Zip
import HandS.MakeKwOnly
import KE.DataCmp
import HandS.CallSlots
import HandS.More
import HandS.Proxy
import PyProof.NeData
import HandS.ExcIs
import KE.KExcStr
import PyProof.ExcReprCall
import HandS.Iter
import HandS.TupMul
import HandS.WideBits
import HandS.Text
import PyProof.ReprLen
import PyProof.Rows.ReprOcc
import HandS.Dict
import HandS.CallLocal
import HandS.Walk
import HandS.Evl
import HandS.NoneIn
import PySem.Challenge.RW_beatflows_k36_what_are_steps
set_option Elab.async false
set_option maxRecDepth 100000

/-! Own rules over the hand layer, for all laws of this program: calls by keywords alone, a base's __init__ by its class's name, several except clauses with names, repr of data. -/
namespace Bf
open PySem PySem.Spec PyProof.Rows L2

/-! ### f(k = v, ..) -/
section
variable {X : Cx} {CX : CXT} {k : Nat} {f : Addr} {fd : FuncData} {ps ks : List Str} {sp : Sp} {E : XK} {x : Str} {p pos : Pos} {kws : List Keyword} {tk : TA}
  {g : List Value → List Value → List Value} {gV : List V → List V → List V}
def tKw (sp : Sp) (gV : List V → List V → List V) (E : XK) (tk : TA) : TE := fun σ H Q => tk σ H fun zs H2 => sp (gV [] zs) H2 Q E
theorem pe_kw (F : FnOk X.prog X.w X.K X.mg X.base CX k f fd ps sp) (hr : Room k X.A) (hg : Gl X x) (hm : X.mg x = some (.ref f))
    (hk : PySem.W.keepIn X.K (.ref f) = true) (hb : KBinds X.K fd ps ks g gV) (hx : Passes CX X E) (hkw : PK X kws tk)
    (h1 : (backToKw pos (keywordEach kws X.env)).all (·.1.isSome) = true := by rfl)
    (h2 : (backToKw pos (keywordEach kws X.env)).filterMap (·.1) = ks := by rfl)
    (h3 : (x == ("__debug__" : Str)) = false := by decide)
    (h4 : ((backTo pos (starEach [] X.env)).any (·.1) || (backToKw pos (keywordEach kws X.env)).any (·.1.isNone)) = false := by rfl) :
    PE X (.Call (.Name x p) [] kws pos) (tKw sp gV E tk) := ⟨fun pins s σ H Q I h => by
  refine wpAny_Call_Name_kw (ld_glob I hg hm (PySem.W.callWith_KW0 (h₀ := X.base) I.ok.mod.kin hk h1 (thn (hkw.run pos pins s σ H _ I h) ?_) h4) h3)
  intro ws s2 q
  obtain ⟨zs, H2, I2, rz, q2⟩ := q
  refine ⟨I2.kIn, ?_⟩
  rw [h2]
  exact run_fnk (us := []) (vs := []) F hr hb hx I2 .nil rz q2⟩
end

/-! ### C.m(e, ..), C a class of the text, m a def of it -/
section
variable {X : Cx} {CX : CXT} {k : Nat} {f C : Addr} {fd : FuncData} {ps : List Str} {sp : Sp} {E : XK} {x m : Str} {p1 p2 pos : Pos} {e : Expr} {es : List Expr} {t : TA} {mc : Value}
theorem pe_clsFn {pl : Sem Bool} (F : FnOk X.prog X.w X.K X.mg X.base CX k f fd ps sp) (hr : Room k X.A) (hg : Gl X x) (hm : X.mg x = some (.ref C))
    (rd : ClX.CRead X.K C mc) (va : PySem.W.findCls X.K (.ref C) mc m = some (.val (.ref f))) (hk : PySem.W.keepIn X.K (.ref f) = true) (hb : Binds X.K fd ps []) (hx : Passes CX X E) (ha : PA X (e :: es) t)
    (hc : eval (.Call (.Attribute (.Name x p1) m p2) (e :: es) [] pos) X.env = (do
      let ov ← eval (.Name x p1) X.env
      standAt p2.atName
      let (g, first) ← holding [ov] (getMethod ov m pl)
      callWith pos g first (backTo pos (starEach (e :: es) X.env)) (backToKw pos (keywordEach [] X.env))) := by rfl)
    (hdb : (x == ("__debug__" : Str)) = false := by decide)
    (he : starEach (e :: es) X.env = (false, eval e X.env) :: starEach es X.env := by rfl) (hpl : (backTo pos (starEach es X.env)).any (·.1) = false := by rfl) :
    PE X (.Call (.Attribute (.Name x p1) m p2) (e :: es) [] pos) (tCall sp [] E t) := ⟨fun pins s σ H Q I h => by
  refine PySem.W.methodCall_KW (ld_glob I hg hm ?_ hdb) hc
  refine PySem.W.method_cls I.kIn rd.ga (PySem.W.cls_value I.kIn rd.rd va rfl ?_)
  have I' := I.tok (X := X) (s.toks + 1)
  exact PySem.W.callWith_K (h₀ := X.base) I.ok.mod.kin hk (thn (ha.run pos pins _ σ H _ I' h) fun us s1 ⟨vs, H1, I1, r, q⟩ => ⟨I1.kIn, run_fn F hr hb .nil hx I1 r q⟩) he hpl⟩
end

/-! ### try: body, several clauses «except C as n: suite»; what follows them is never reached -/
structure Arm where
  c : Value
  i : Nat
  ts : Addr → Value → Option Addr → TS
/-- behind a suite the clause's name is gone -/
def Gone (i : Nat) (D : Ends) : Ends where
  nx := fun σ H => D.nx (σ.set i none) H
  rt := D.rt
  bk := fun σ H => D.bk (σ.set i none) H
  ct := fun σ H => D.ct (σ.set i none) H
def wArms (K : PySem.W.Frag) (D : Ends) : List Arm → WX
  | [] => fun _ _ _ _ => False
  | m :: r => fun cls d σ H => ∃ b, PySem.W.exmOne K cls m.c = some b ∧ (b = true → ∀ a, H a = none → m.ts a cls d (Gone m.i D) (σ.set m.i (some (.ref a))) H) ∧ (b = false → wArms K D r cls d σ H)
inductive Arms (X : Cx) : List ExceptHandler → List Arm → Prop
  | nil {hds : List ExceptHandler} : Arms X hds []
  | cons {x n : Str} {c : Value} {i : Nat} {ts : Addr → Value → Option Addr → TS} {b0 : Stmt} {suite : List Stmt} {np pos' : Pos} {hds : List ExceptHandler} {l : List Arm}
      (hc : Names X x c) (hi : X.N[i]? = some n) (hl : X.env.kindOf n = some .local)
      (hsu : ∀ (a : Addr) (oe : Obj) (cls : Value) (d : Option Addr) (pn : List (Addr × Obj)), Zc cls d oe → (∃ vs, oe.data = .fields vs) → PSs (X.suite a ((a, oe) :: pn)) (b0 :: suite) (ts a cls d))
      (r : Arms X hds l) : Arms X (.ExceptHandler (some (.Name x np)) (some n) (b0 :: suite) pos' :: hds) (⟨c, i, ts⟩ :: l)

section
variable {X : Cx} {pins : List (Addr × Obj)} {σ : L2.St} {H : Hp} {sI s' : Shared} {B : Heap} {a : Addr} {cls : Value} {d : Option Addr} {D : Ends}
/-- an exception noted and landed meets the clauses -/
theorem arms_go (hs : X.stack = X.env :: X.outer) (hf : X.env.frame = some X.env.locals) (hN : X.N.Nodup) (J : L2.Inv X pins σ H sI) (na : H a = none)
    (nb : ∀ b o, sI.heap.get? b = some o → b ∉ frs X.stack → B.get? b = some o) (os : s'.os = sI.os) (ag : AllBare s'.gens) (up : sI.heap.UpToSlots s'.heap)
    (fl : HandSPX.FlyingZ B (X.env :: X.outer) a (Zc cls d) s'.heap) {hds : List ExceptHandler} {l : List Arm} (hh : Arms X hds l) (w : wArms X.K D l cls d σ H) :
    wpAny (model X.prog X.w) X.A (handleBy (.ref a) X.env hds) (SP X pins D) X.xe s' := by
  induction hh with
  | nil => exact w.elim
  | @cons x n c i ts b0 suite np pos' hds' l' hc hi hl hsu r ih =>
    obtain ⟨b, hb, yes, no⟩ := w
    -- what stands in the heap of the exception, wherever it has landed
    have site : ∀ {h : Heap}, HandSPX.FlyingZ B (X.env :: X.outer) a (Zc cls d) h → sI.heap.UpToSlots h →
        ∃ oe vs, h.get? a = some oe ∧ Zc cls d oe ∧ oe.data = .fields vs ∧ L2.Inv (X.suite a ((a, oe) :: (X.pn ++ pins))) [] σ H { s' with heap := h } := fun {h} z u => by
      obtain ⟨oe, vs, e1, e2, e3⟩ := z.there
      have nofr : a ∉ frs (X.env :: X.outer) := fun hm => by
        obtain ⟨_, o', e', hnf⟩ := z.2.2.1.mem hm
        rw [e1] at e'
        cases e'
        exact hnf _ e3
      refine ⟨oe, vs, e1, e2, e3, (J.landed (s' := { s' with heap := h }) nb z.1 u os ag).suite e1 e3 na (fun z => nofr (List.mem_filterMap.mpr ⟨X.env, List.mem_cons_self, by rw [hf, z]⟩)) fun hm => nofr ?_⟩
      obtain ⟨e, he, q⟩ := List.mem_filterMap.mp hm
      exact List.mem_filterMap.mpr ⟨e, List.mem_cons_of_mem _ he, q⟩
    obtain ⟨oe, vs, e1, e2, e3, S⟩ := site fl up
    refine wpAny_handleBy_cons (codeAny_handlers_test ?_) (fun q => nomatch q)
    have ty : PySem.W.Looks (model X.prog X.w) s'.heap (typeOf (.ref a)) cls := fun A Q E s k q => wpAny_typeOf_ref (k _ _ e1) (by rw [e2.1]; exact q)
    have mt := PySem.W.exm_one (M := model X.prog X.w) S.kIn ty hb
    have nm : ∀ {Q : Value → Shared → Prop} {E : Value → Shared → Prop}, Q c s' → wpAny (model X.prog X.w) (X.A.mark (some (.ref a))) (eval (.Name x np) X.env) Q E s' := fun {Q E} q =>
      hc.2.2.elim (fun hm => ld_glob (X := X.suite a ((a, oe) :: (X.pn ++ pins))) S hc.1 hm q hc.2.1) fun hm => ld_blt (X := X.suite a ((a, oe) :: (X.pn ++ pins))) S hc.1 hm.1 hm.2.1 q hm.2.2 hc.2.1
    refine nm (mt.here ?_)
    cases b with
    | false => exact ih (no rfl)
    | true =>
      refine codeAny_handlers_suite_as (HandSPX.lands_againZ fl fun h4 fl4 up4 => ?_)
      obtain ⟨oe4, vs4, g1, g2, g3, S4⟩ := site fl4 (up.trans up4)
      refine store_ok (X := X.suite a ((a, oe4) :: (X.pn ++ pins))) (v := .ref a) S4 hN hi (.inl hl) rfl (fun s5 S5 => ?_) (.inr hl)
      refine wpAny_mono ((hsu a oe4 cls d (X.pn ++ pins) g2 ⟨_, g3⟩).run [] s5 _ H _ S5 (yes rfl a na)) (fun f s6 sp => ?_) (fun _ _ z => z.elim)
      have fin : ∀ {σ6 : L2.St} {H6 : Hp} {R : Shared → Prop}, L2.Inv (X.suite a ((a, oe4) :: (X.pn ++ pins))) [] σ6 H6 s6 → (∀ s7, L2.Inv X pins (σ6.set i none) H6 s7 → R s7) →
          wpAny (model X.prog X.w) X.A (do bindName X.env n .none; unbindBehindTheSuite X.env n pos') (fun _ s7 => R s7) X.xe s6 := fun {_ _ _} S6 q => gone_ok (S6.unsuite J.ok) hN hi hl q
      cases f with
      | next => exact let ⟨_, _, S6, q6⟩ := sp; fin S6 fun _ J7 => ⟨_, _, J7, q6⟩
      | brk => exact let ⟨_, _, S6, q6⟩ := sp; fin S6 fun _ J7 => ⟨_, _, J7, q6⟩
      | cont => exact let ⟨_, _, S6, q6⟩ := sp; fin S6 fun _ J7 => ⟨_, _, J7, q6⟩
      | ret u => exact let ⟨_, _, _, S6, r6, q6⟩ := sp; fin S6 fun _ J7 => ⟨_, _, _, J7, r6, q6⟩
end
section
variable {X : Cx} {body : List Stmt} {h0 : ExceptHandler} {hds : List ExceptHandler} {l : List Arm} {pos : Pos} {tb : WX → TS}
theorem ps_arms (hs : X.stack = X.env :: X.outer) (hf : X.env.frame = some X.env.locals) (hN : X.N.Nodup)
    (hb : ∀ (W : WX) (pn : List (Addr × Obj)) (xe : Value → Shared → Prop), Takes (X.tr pn xe) W → PassesOwn (model X.prog X.w) X.A X.env xe → PSs (X.tr pn xe) body (tb W))
    (hh : Arms X (h0 :: hds) l) : PS X (.Try body (h0 :: hds) [] [] pos) (fun D σ H => tb (wArms X.K D l) D σ H) := ⟨fun pins s σ H D I h => by
  have fr : X.A.frames = some (X.env :: X.outer) := I.ok.frames.trans (by rw [hs])
  refine wpAny_Try_except (wpAny_mono ((hb (wArms X.K D l) (X.pn ++ pins) (fun e t1 => wpAny (model X.prog X.w) X.A (noteFrame e X.env) (fun _ t2 => wpAny (model X.prog X.w) X.A (setFlight e none)
    (fun _ t3 => wpAny (model X.prog X.w) X.A (handleBy e X.env (h0 :: hds)) (SP X pins D) X.xe t3) X.xe t2) X.xe t1) (fun u s' q => ?_) PassesOwn.looking).run [] s σ H D (I.toTry _) h) (fun f s1 q => ?_) fun _ _ z => z)
  · obtain ⟨a, B, sI, pins', σ', H', cls, d, rfl, J, nb, up, sky, na, os, ag, w⟩ := q
    refine Sky.land Zc.steady fr hf (show Sky B (X.env :: X.outer) a (Zc cls d) X.env.locals s'.heap from by rw [← hs]; exact sky) fun h3 fl up3 => ?_
    exact arms_go (s' := { s' with heap := h3 }) hs hf hN (J.ofTry I.ok) na nb os ag (up.trans up3) fl hh w
  · cases f with
    | next => exact let ⟨_, _, J, z⟩ := q; wpAny_execs_nil ⟨_, _, J.ofTry I.ok, z⟩
    | brk => exact let ⟨_, _, J, z⟩ := q; ⟨_, _, J.ofTry I.ok, z⟩
    | cont => exact let ⟨_, _, J, z⟩ := q; ⟨_, _, J.ofTry I.ok, z⟩
    | ret u => exact let ⟨_, _, _, J, r, z⟩ := q; ⟨_, _, _, J.ofTry I.ok, r, z⟩⟩
end
end Bf

/-! Own rules: defs that call repr. A repr asks that none is under way around it (Around.guards); the promise FnG is given under that. -/
namespace Bf
open PySem PySem.Spec PyProof.Rows L2

/-! ### promises where no repr is under way -/
structure FnG (P : Program) (w : World) (K : PySem.W.Frag) (mg : Str → Option Value) (base : Heap) (CX : CXT) (k : Nat) (f : Addr) (fd : FuncData) (ps : List Str) (sp : Sp) : Prop where
  len : ∀ vs H Q E, sp vs H Q E → vs.length = ps.length
  go : ∀ (A : Around) (outer : List Env) (s : Shared) (H : Hp) (args : Args) (us : List Value) (vs : List V) (Q : VK) (E : XK), A.guards = some [] → Room k A →
    Env0 P w K mg base A outer s H → BindsTo s fd args (ps.zip us) → Vals vs us → sp vs H Q E → codeAny (model P w) A (.call (.ref f) args) (CR CX outer P w H s Q E) s

section
variable {P : Program} {w : World} {K : PySem.W.Frag} {mg : Str → Option Value} {base : Heap} {CX : CXT}
theorem Fun.okG {x qual : Str} {st : Stmt} {f : Addr} {fd : FuncData} {N ps : List Str} {k : Nat} {sp : Sp} (F : Fun K x qual st f fd) (S : FnScope N ps (defScope st))
    (len : ∀ vs H Q E, sp vs H Q E → vs.length = ps.length)
    (hbody : ∀ (cdv : Value) (A : Around) (outer : List Env) (s : Shared) (H : Hp) (vs : List V) (Q : VK) (E : XK), A.guards = some [] → Room k (A.deeper (envOfC qual (defScope st) s.heap.objs.size f cdv)) → sp vs H Q E →
      ∃ t, PSs (cxOf CX P w K mg base N qual (defScope st) f cdv A outer s H E) (defBody st) t ∧ t { nx := fun _ H' => Q .non H', rt := Q } (start N vs) H) :
    FnG P w K mg base CX (k + 1) f fd ps sp := by
  obtain ⟨oc, od, kV, doc, pm, an, cdv, ct, osl, rfl, lk, hcd⟩ := F.ex
  refine ⟨len, fun A outer s H args us vs Q E hA hr e0 hb r hsp => ?_⟩
  have bk : ∀ b o, base.get? b = some o → s.heap.get? b = some o := fun b o e => (e0.bs b o e).1
  have KX := e0.mod.kin.keeps bk
  refine codeAny_call_function hr.depth (KX _ _ lk) rfl S.co S.gen rfl (PySem.W.codeRec_of KX hcd) (hb _ _ _ _ (wpAny_newFunctionEnv_cells S.kind (fun y hy => ?_) fun env he s1 x => ?_))
  · rcases S.par y.1 (List.of_mem_zip (show (y.1, y.2) ∈ _ from hy)).1 with q | q
    · exact .inl q
    · exact .inr ⟨q, PySem.W.cellsFrom_some _ _ _ (.inl q)⟩
  · cases he
    obtain ⟨t, ht, hq⟩ := hbody cdv A outer s H vs Q E hA (hr.deeper _) hsp
    refine ⟨(e0.mod.nolimit.keeps bk).keeps x.toInCall.keep, codeAny_func (wpAny_mono (ht.run [] s1 _ H _ (inv_start S hr.hd e0 (len _ _ _ _ hsp) r x) hq) (fun fl s' z => ?_) fun _ _ z => z)⟩
    cases fl with
    | next => exact let ⟨_, H', J, q⟩ := z; ⟨.non, H', J.os, J.bare, J.base, J.hok, rfl, q⟩
    | ret u => exact let ⟨v, _, H', J, rv, q⟩ := z; ⟨v, H', J.os, J.bare, J.base, J.hok, rv, q⟩
    | brk => exact let ⟨_, _, _, q⟩ := z; q.elim
    | cont => exact let ⟨_, _, _, q⟩ := z; q.elim
end
section
variable {X : Cx} {CX : CXT} {k : Nat} {f : Addr} {fd : FuncData} {ps : List Str} {sp : Sp} {E : XK} {x : Str} {p pos : Pos} {e : Expr} {es : List Expr} {t : TA}
theorem pe_callG (F : FnG X.prog X.w X.K X.mg X.base CX k f fd ps sp) (hA : X.A.guards = some []) (hr : Room k X.A) (hg : Gl X x) (hm : X.mg x = some (.ref f)) (hk : PySem.W.keepIn X.K (.ref f) = true)
    (hb : Binds X.K fd ps []) (hx : Passes CX X E) (ha : PA X (e :: es) t) (hdb : (x == ("__debug__" : Str)) = false := by decide)
    (he : starEach (e :: es) X.env = (false, eval e X.env) :: starEach es X.env := by rfl) (hpl : (backTo pos (starEach es X.env)).any (·.1) = false := by rfl) :
    PE X (.Call (.Name x p) (e :: es) [] pos) (tCall sp [] E t) := ⟨fun pins s σ H Q I h => by
  refine wpAny_Call_Name_kw (ld_glob I hg hm (PySem.W.callWith_K (h₀ := X.base) I.ok.mod.kin hk (thn (ha.run pos pins s σ H _ I h) fun us s1 ⟨vs, H1, I1, r, q⟩ => ⟨I1.kIn, ?_⟩) he hpl) hdb)
  have q : sp (vs ++ []) H1 Q E := q
  rw [List.append_nil] at q
  have hl : us.length = ps.length := r.length.symm.trans (F.len _ _ _ _ q)
  have bd : BindsTo s1 fd ⟨us, []⟩ (ps.zip us) := by
    have z := hb s1 us I1.kIn (by rw [List.append_nil]; exact hl)
    rw [List.append_nil] at z
    exact z
  refine wpAny_call (codeAny_mono (F.go X.A X.stack s1 H1 ⟨us, []⟩ us vs Q E hA hr I1.env0 bd r q) fun r s' hq => ?_)
  cases r with
  | error e => exact hx pins σ H1 s1 e s' I1 hq
  | ok fl =>
    cases fl with
    | ret u => exact I1.after hq
    | next => exact hq.elim
    | brk => exact hq.elim
    | cont => exact hq.elim⟩
end

/-! ### data as repr shows it -/
mutual
/-- x stands for the data d; every list, tuple and dict in it is tracked, at an address of which P holds; b: there may be an empty dict in it, then no list is the module table -/
inductive Sh (H : Hp) (P : Addr → Prop) (b : Bool) : V → PyData → Prop
  | non : Sh H P b .non .none
  | bl (c : Bool) : Sh H P b (.bl c) (.bool c)
  | int (i : Int) : Sh H P b (.int i) (.int i)
  | str (z : Str) : Sh H P b (.str z) (.str z)
  | lst {a : Addr} {xs : List V} {ds : List PyData} (h : H a = some (.lst xs)) (p : P a) (q : b = true → a ≠ sysModules) (r : ShAll H P b xs ds) : Sh H P b (.ref a) (.list ds)
  | tup {a : Addr} {xs : List V} {ds : List PyData} (h : H a = some (.tup xs)) (p : P a) (r : ShAll H P b xs ds) : Sh H P b (.ref a) (.tuple ds)
  | emp {a : Addr} (hb : b = true) (h : H a = some (.dK [])) (p : P a) : Sh H P b (.ref a) (.dict [])
inductive ShAll (H : Hp) (P : Addr → Prop) (b : Bool) : List V → List PyData → Prop
  | nil : ShAll H P b [] []
  | cons {v : V} {vs : List V} {d : PyData} {ds : List PyData} (h : Sh H P b v d) (r : ShAll H P b vs ds) : ShAll H P b (v :: vs) (d :: ds)
end

section
variable {X : Cx} {pins : List (Addr × Obj)} {σ : L2.St} {H : Hp} {s : Shared} {P : Addr → Prop} {b : Bool}
mutual
theorem Sh.reads (I : L2.Inv X pins σ H s) : ∀ (d : PyData) (v : V) (u : Value), Sh H P b v d → RelV v u → ∃ as, Reads s.heap u d as ∧ (b = true → ∀ a ∈ as, a ≠ sysModules)
  | .none, _, _, h, r => by
    cases h; cases r
    exact ⟨_, .none, fun _ _ z => nomatch z⟩
  | .bool c, _, _, h, r => by
    cases h; cases r
    exact ⟨_, .bool c, fun _ _ z => nomatch z⟩
  | .int i, _, _, h, r => by
    cases h; obtain ⟨t, rfl⟩ := r
    exact ⟨_, .int i t, fun _ _ z => nomatch z⟩
  | .str x, _, _, h, r => by
    cases h; obtain ⟨t, rfl⟩ := r
    exact ⟨_, .str x t, fun _ _ z => nomatch z⟩
  | .list ds, _, _, h, r => by
    cases h with
    | lst h p q ha =>
      cases r
      obtain ⟨_, its, n, rv, e⟩ := I.hok _ _ h
      obtain ⟨as, hr, hp⟩ := Sh.readsAll I ds _ its ha rv
      exact ⟨_, .list e rfl rfl hr, fun hb a z => (List.mem_cons.mp z).elim (fun y => y ▸ q hb) (hp hb a)⟩
  | .tuple ds, _, _, h, r => by
    cases h with
    | tup h p ha =>
      cases r
      obtain ⟨_, its, rv, o, e1, e2, n, e3⟩ := I.hok _ _ h
      obtain ⟨as, hr, hp⟩ := Sh.readsAll I ds _ its ha rv
      exact ⟨_, .tuple e1 e2 e3 hr, hp⟩
  | .dict _, _, _, h, r => by
    cases h with
    | emp hb h p =>
      cases r
      obtain ⟨_, sm, vs, kv, o, es, ep, e1, e2, e3, _, e4, _⟩ := I.hok _ _ h
      cases kv
      have en : es.toList = [] := by
        cases q : es.toList with
        | nil => rfl
        | cons x r => rw [q] at e4; cases e4
      refine ⟨_, .dict e1 e2.1 e3 (kvs := []) (as := []) (bs := []) (by rw [en]; exact .nil) (by rw [en]; exact .nil), fun _ a z => ?_⟩
      rcases List.mem_cons.mp z with e | e
      · exact e ▸ beq_eq_false_iff_ne.mp sm
      · cases e
theorem Sh.readsAll (I : L2.Inv X pins σ H s) : ∀ (ds : List PyData) (vs : List V) (us : List Value), ShAll H P b vs ds → Vals vs us → ∃ as, ReadsAll s.heap us ds as ∧ (b = true → ∀ a ∈ as, a ≠ sysModules)
  | [], _, _, h, r => by
    cases h; cases r
    exact ⟨_, .nil, fun _ _ z => nomatch z⟩
  | d :: ds, _, _, h, r => by
    cases h with
    | cons h1 h2 =>
      cases r with
      | cons r1 r2 =>
        obtain ⟨as, q1, p1⟩ := Sh.reads I d _ _ h1 r1
        obtain ⟨bs, q2, p2⟩ := Sh.readsAll I ds _ _ h2 r2
        exact ⟨_, .cons q1 q2, fun hb a z => (List.mem_append.mp z).elim (p1 hb a) (p2 hb a)⟩
end
end
mutual
theorem Sh.nodict {H : Hp} {P : Addr → Prop} : ∀ (d : PyData) (v : V), Sh H P false v d → d.hasDict = false
  | .none, _, _ => by simp only [PyData.hasDict]
  | .bool _, _, _ => by simp only [PyData.hasDict]
  | .int _, _, _ => by simp only [PyData.hasDict]
  | .str _, _, _ => by simp only [PyData.hasDict]
  | .list ds, _, h => by
    cases h with
    | lst _ _ _ r => simp only [PyData.hasDict]; exact ShAll.nodict ds _ r
  | .tuple ds, _, h => by
    cases h with
    | tup _ _ r => simp only [PyData.hasDict]; exact ShAll.nodict ds _ r
  | .dict _, _, h => by
    cases h with
    | emp hb _ _ => cases hb
theorem ShAll.nodict {H : Hp} {P : Addr → Prop} : ∀ (ds : List PyData) (vs : List V), ShAll H P false vs ds → PyData.hasDictAll ds = false
  | [], _, _ => by simp only [PyData.hasDictAll]
  | d :: ds, _, h => by
    cases h with
    | cons h r =>
      simp only [PyData.hasDictAll, Sh.nodict d _ h, ShAll.nodict ds _ r, Bool.or_self]
end
section
variable {X : Cx}
/-- repr(x) -/
def rRepr : List V → Hp → VK → Prop := fun xs H Q => ∃ (x : V) (P : Addr → Prop) (b : Bool) (d : PyData), xs = [x] ∧ Sh H P b x d ∧ d.showable = true ∧ d.depth ≤ 60 ∧ d.shown.length ≤ sizeLine ∧ Q (.str d.shown) H
theorem call_repr (hA : X.A.guards = some []) (hu : X.A.units + 64 < cLine) : CallR X (.builtin "repr") rRepr := by
  intro pins s σ H xs us Q I r h
  obtain ⟨x, P, b, d, rfl, hs, sw, dp, sz, q⟩ := h
  obtain ⟨u, rfl, rx⟩ := vals1 r
  obtain ⟨as, rd, hp⟩ := Sh.reads I d x u hs rx
  have nodict : d.hasDict = true → sysModules ∉ as := fun hd z => by
    cases b with
    | false => rw [Sh.nodict d x hs] at hd; cases hd
    | true => exact hp rfl _ z rfl
  have fin : ∀ (t : Tok) (tk : Nat), EP X pins σ Q (.str d.shown t) { s with toks := tk } := fun t tk => ⟨.str d.shown, H, I.tok tk, ⟨t, rfl⟩, q⟩
  have finH : ∀ h' t tk, (∀ b o, s.heap.get? b = some o → h'.get? b = some o) → EP X pins σ Q (.str d.shown t) { s with heap := h', toks := tk } := fun h' t tk k => ⟨.str d.shown, H, I.kept k, ⟨t, rfl⟩, q⟩
  have big : ∀ {a : Addr}, u = .ref a → wpAny (model X.prog X.w) X.A (call (.builtin "repr") [u]) (EP X pins σ Q) X.xe s := fun {a} e => by
    subst e
    exact repr_of_reads' rd sw nodict hA (by omega) (fun _ _ z => z) finH sz
  cases rd with
  | none => exact PySem.P.repr_of_none (by have z := fin s.toks (s.toks + 1); simp only [PyData.shown] at z; exact z)
  | bool c => exact PySem.P.repr_of_bool (by have z := fin s.toks (s.toks + 1); simp only [PyData.shown] at z; exact z)
  | int i t => exact PySem.P.repr_of_int (by simpa [PyData.showable] using sw) (by have z := fin s.toks (s.toks + 1); simp only [PyData.shown] at z; exact z)
  | str z t => exact PySem.P.repr_of_str (by have z := fin s.toks (s.toks + 1); simp only [PyData.shown] at z; exact z) (by simp only [PyData.shown] at sz; exact sz)
  | list _ _ _ _ => exact big rfl
  | tuple _ _ _ _ => exact big rfl
  | dict _ _ _ _ _ => exact big rfl
/-- a list of written items, not the module table -/
def tLstN (t : TA) : TE := fun σ H Q => t σ H fun xs H1 => xs.length ≤ 1000 ∧ ∀ p, H1 p = none → p ≠ sysModules → Q (.ref p) (upd H1 p (.lst xs))
theorem pe_lstN {es : List Expr} {pos : Pos} {t : TA} (h : PA X es t) : PE X (.List es pos) (tLstN t) := ⟨fun pins s σ H Q I hq => by
  refine wpAny_List_spliced (thn (h.run pos pins s σ H _ I hq) fun us s1 z => ?_)
  obtain ⟨xs, H1, I1, r, sz, q⟩ := z
  have le : xs.length ≤ sizeLine := Nat.le_trans sz (by decide)
  refine ⟨r.length ▸ le, .ref s1.heap.objs.size, upd H1 s1.heap.objs.size (.lst xs), I1.laid (t' := s1.toks) (fun _ _ e => Heap.get?_push_of_some _ e) (Nat.le_refl _) ⟨le, us, 0, r, Heap.get?_push_size _ rfl⟩, rfl, ?_⟩
  exact q _ (I1.hok.fresh (Nat.le_refl _)) (Nat.ne_of_gt I1.big)⟩
end

/-! ### the law's end -/
section
open PySem.W
variable {l : PySem.W.OpenLaw} {n k : Nat} {q : Program} {loose : List Str} {XP : (Str → Option Value) → Heap → Prop} {YP : World → Heap → Prop} {d : DefRec} {K : Params → PySem.W.Frag} {sp : PySem.W.Frag → Sp} {x : Str}
theorem walkG (hn : l.most = some n) (hn2 : n ≤ 1000) (hdf : d.params.defaults = []) (hr : Room k callerA) (hY : ∀ (w : World) (h : Heap), YP w h → (K w.params).In h)
    (F : ∀ (w : World) (mg : Str → Option Value) (fa : Addr) (h : Heap), (K w.params).In h → h.Ns mainGlobals mg → mg d.name = some (.ref fa) →
      ∃ fd : FuncData, (∀ (s : Shared) (u : Value), BindsTo s fd ⟨[u], []⟩ [(x, u)]) ∧ ∀ base : Heap, (K w.params).In base → base.Ns mainGlobals mg → FnG l.prog w (K w.params) mg base CX0 k fa fd [x] (sp (K w.params)))
    (hsp : ∀ (K : PySem.W.Frag) (H : Hp) (a : Addr) (ns : List Int), ns.length ≤ n → SqL K H a (ns.map V.int) → (∀ b, H b = none ∨ b = a) → sp K [.ref a] H (fun v _ => v = .bl true) fun _ _ _ => False) :
    WalkO q loose XP YP l.row.toRowW d [] (fun f vs => PySem.call f vs) := by
  refine Att.attach_call hn hdf fun w s0 s1 mg mb fa o pm cd doc a vs ns G Y _ _ _ hmg ha hi hl hg => ?_
  have KX := hY w _ Y
  obtain ⟨fd, bind, go⟩ := F w mg fa _ KX G.T.g hmg
  have hle : ns.length ≤ sizeLine := Nat.le_trans hl (Nat.le_trans hn2 (by decide))
  have rv := vals_ints hi
  -- the abstract heap: the script, locked, unless it is the module's own
  have mid : ∀ H : Hp, SqL (K w.params) H a (ns.map V.int) → HOk l.prog w H s1.heap → (∀ b, H b = none ∨ (b = a ∧ (K w.params).lookup a = none ∧ ∃ o xs, H a = some (.frz o (.lst xs)))) →
      codeAny (model l.prog w) callerA (.call (.ref fa) ⟨[.ref a], []⟩) (fun r s' => r = .ok (.ret (.bool true)) ∧ OldK s1.heap s'.heap ∧ s'.os = s1.os ∧ AllBare s'.gens) s1 := fun H hS ok hA => by
    have nsK : ∀ {b : Addr} {m : Str → Option Value}, s1.heap.Ns b m → (hidT s1.heap H).Ns b m := fun {b m} z => by
      obtain ⟨o, es, ep, e, dd, r⟩ := z
      refine ⟨o, es, ep, hidT_get e ((hA b).resolve_right fun y => ?_), dd, r⟩
      rw [y.1, ha] at e
      cases e
      cases dd
    have kin : (K w.params).In (hidT s1.heap H) := fun b o e => hidT_get (KX b o e) ((hA b).resolve_right fun y => by
      rw [y.1, y.2.1] at e
      cases e)
    have md : Mod (K w.params) mg (hidT s1.heap H) := ⟨kin, nsK G.T.g, ⟨mb, nsK G.T.b, G.T.builtins⟩, let ⟨mc, h1, h2⟩ := G.T.nolimit; ⟨mc, nsK h1, h2⟩⟩
    refine codeAny_mono ((go _ kin (nsK G.T.g)).go callerA [] s1 H ⟨[.ref a], []⟩ [.ref a] [.ref a] _ _ rfl hr
      ⟨rfl, md, fun _ _ e => of_hidT e, Nat.le_of_eq (hidT_size _ _), trivial, (fun _ z => nomatch z), ok, .of_eq hg⟩ (bind s1 (.ref a)) (.cons rfl .nil) (hsp _ H a ns hl hS fun b => (hA b).imp_right (·.1))) fun r s' h => ?_
    cases r with
    | error e => exact h.elim
    | ok fl =>
      cases fl with
      | next => exact h.elim
      | brk => exact h.elim
      | cont => exact h.elim
      | ret u =>
        obtain ⟨v, H', os, bare, un, ok', rv', e⟩ := h
        cases (show v = .bl true from e)
        cases (show u = .bool true from rv')
        refine ⟨rfl, OldK.of_keep fun b o e => ?_, os, bare⟩
        rcases hA b with z | ⟨rfl, _, ob, xs, z⟩
        · exact un.keep b o e z (fun y => nomatch y) (fun y => nomatch y)
        · have e1 := (ok _ _ z).1
          rw [e] at e1
          cases e1
          exact (ok' _ _ (un.frzs _ _ _ z)).1
  cases hk : (K w.params).lookup a with
  | some o =>
    have e := KX a o hk
    rw [ha] at e
    cases e
    exact mid (fun _ => none) (.inr ⟨_, vs.toArray, _, hk, rfl, rfl, rfl, by rw [List.size_toArray, hi.length]; exact hle, by simpa using rv⟩) (fun _ _ z => nomatch z) fun _ => .inl rfl
  | none =>
    have at_ : ∀ b, b = a → (fun c => if c = a then some (HO.frz { cls := .type "list", data := .seq vs.toArray } (.lst (ns.map V.int))) else none) b = some (HO.frz { cls := .type "list", data := .seq vs.toArray } (.lst (ns.map V.int))) := fun b e => if_pos e
    refine mid (fun c => if c = a then some (.frz { cls := .type "list", data := .seq vs.toArray } (.lst (ns.map V.int))) else none) (.inl (.inr ⟨_, at_ a rfl⟩)) (fun b u z => ?_) fun b => ?_
    · by_cases hb : b = a
      · cases (at_ b hb).symm.trans z
        cases hb
        exact ⟨ha, by rw [List.length_map]; exact hle, vs, _, rv, ha⟩
      · cases (if_neg hb).symm.trans z
    · by_cases hb : b = a
      · exact .inr ⟨hb, hk, _, _, at_ a rfl⟩
      · exact .inl (if_neg hb)
end
end Bf

/-! Own rule: enumerate over a tuple. -/
namespace Bf
open PySem PySem.Spec PyProof.Rows L2

/-- the tuple's cells behind enumerate(t) -/
theorem enum_new_tup (t : Addr) (items : Array Value) (n : Nat) (dct : Option Addr) (sl : Array (Option Value)) :
    Meets (Builtin.«enumerate.__new__» ⟨[.type "enumerate", .ref t], []⟩) (fun _ R s => s.heap.get? t = some { cls := .type "tuple", dict := dct, data := .seq items n, slots := sl } ∧
      R (.ok (.ret (.ref (s.heap.push { cls := .type "tuple_iterator", data := .fields #[.ref t, .int 0 0] }).objs.size)))
        { s with heap := (s.heap.push { cls := .type "tuple_iterator", data := .fields #[.ref t, .int 0 0] }).push { cls := .type "enumerate", data := .fields #[.none, .bool false, .ref s.heap.objs.size, rawInt 0, .none, .none] } }) :=
  .of_wp fun prog w A R s h => by
    obtain ⟨hp, g, d, tk, os⟩ := s
    obtain ⟨ht, h⟩ := h
    have sub := sub_enumerate
    have it : ∀ {A' : Around} {E : Value → Shared → Prop} {Q : Value → Shared → Prop}, Q (.ref hp.objs.size) ⟨hp.push { cls := .type "tuple_iterator", data := .fields #[.ref t, .int 0 0] }, g, d, tk, os⟩ →
        wpAny (model prog w) A' (pyIter (.ref t)) Q E ⟨hp, g, d, tk, os⟩ := fun q => wpAny_pyIter_tuple (s := ⟨hp, g, d, tk, os⟩) ⟨_, ht, rfl, n, rfl⟩ q
    wp_walk using it
    refine wpAny_stack_any fun st => wpAny_pure ?_
    split
    · rename_i c _ _ _ _ _
      cases (c == Value.type "enumerate") <;> (wp_walk using it; exact ⟨_, rfl, h⟩)
    · wp_walk using it
      exact ⟨_, rfl, h⟩

section
variable {prog : Program} {w : World} {A : Around} {E : Value → Shared → Prop} {s : Shared}
theorem enum_tup {t : Addr} {items : Array Value} {Q : Value → Shared → Prop} (T : s.heap.IsTuple t items)
    (h : ∀ h' : Heap, IsEnum h' (s.heap.objs.size + 1) s.heap.objs.size 0 .none → h'.IsTupleIter s.heap.objs.size t 0 → (∀ b o, s.heap.get? b = some o → h'.get? b = some o) → Q (.ref (s.heap.objs.size + 1)) { s with heap := h' }) :
    wpAny (model prog w) A (call (.type "enumerate") [.ref t]) Q E s := by
  obtain ⟨⟨c, dct, dt, sl⟩, e1, e2, n, e3⟩ := T
  cases (show c = .type "tuple" from e2)
  cases (show dt = .seq items n from e3)
  refine callType_new F.called_enumerate (by decide) (F.typeCall_enumerate_1 _) (F.newCall_enumerate_1 _) (fun obj => F.args_object_init_2 obj _) F.entry_enumerate_new (enum_new_tup t items n dct sl) ⟨e1, ?_⟩
  have sz : (s.heap.push { cls := .type "tuple_iterator", data := .fields #[.ref t, .int 0 0] }).objs.size = s.heap.objs.size + 1 := Heap.size_push ..
  have en := Heap.get?_push_size (s.heap.push { cls := .type "tuple_iterator", data := .fields #[.ref t, .int 0 0] })
    (o := { cls := .type "enumerate", data := .fields #[.none, .bool false, .ref s.heap.objs.size, rawInt 0, .none, .none] }) rfl
  rw [sz] at en
  show _ ∧ _
  rw [sz]
  exact ⟨⟨_, en, rfl⟩, h _ en ⟨_, Heap.get?_push_of_some _ (Heap.get?_push_size _ rfl), rfl, rfl⟩ fun b o x => Heap.get?_push_of_some _ (Heap.get?_push_of_some _ x)⟩
end

/-- the tuple at a, each item in a new pair -/
def Iet (K : PySem.W.Frag) (a : Addr) : It where
  go i H := ∃ (xs : List V) (x : V), SqT K H a xs ∧ xs[i]? = some x
  yld i H v H' := ∃ T x, v = .ref T ∧ H T = none ∧ H' = upd H T (.tup [.int (i : Nat), x]) ∧ ∀ xs, SqT K H a xs → xs[i]? = some x
  stop i H := ∃ xs : List V, SqT K H a xs ∧ i = xs.length
theorem turn_iet {P : Program} {w : World} {K : PySem.W.Frag} {elts : List Expr} {kk : Nat} {tpos : Pos} (a e it : Addr) :
    Turn P w K (.Tuple elts kk tpos) (Iet K a) [e, it] e (fun i h => (∃ old, IsEnum h e it ((i : Nat) : Int) old) ∧ h.IsTupleIter it a i ∧ e ≠ it) where
  mem := List.mem_cons_self
  obj i h st b hb := by
    obtain ⟨⟨old, he⟩, ⟨o, ho, hc, hd⟩, _⟩ := st
    rcases List.mem_cons.mp hb with z | z
    · cases z
      exact ⟨_, he, fun v q => nomatch q⟩
    · have z := List.mem_singleton.mp z
      exact ⟨o, z ▸ ho, fun v q => by rw [hd] at q; cases q⟩
  keep i h h' st k := by
    obtain ⟨⟨old, he⟩, hi, ne⟩ := st
    exact ⟨⟨old, k e (by simp) _ he⟩, hi.at fun o q => k it (by simp) o q, ne⟩
  item := by
    rintro X rfl rfl rfl hc i pins s σ H E I hf ⟨⟨old, he⟩, hit, ne⟩ ⟨xs, x, hq, hx⟩
    obtain ⟨its, rv, p, hz⟩ := I.tuple hq
    obtain ⟨u, hu, ru⟩ := rv.get hx
    have p' : s.heap.IsTuple a its.toArray := p
    obtain ⟨oa, hoa, hca, na, hda⟩ := id p'
    have nia : a ≠ it := fun z => by
      obtain ⟨o, ho, hc', hd'⟩ := hit
      rw [← z, hoa] at ho
      cases ho
      rw [hda] at hd'
      cases hd'
    have nea : e ≠ a := fun z => by
      have he2 : s.heap.get? e = _ := he
      rw [z, hoa] at he2
      cases he2
      cases hda
    have hel : e < s.heap.objs.size := Heap.lt_size he
    have hil : it < s.heap.objs.size := let ⟨_, q, _⟩ := hit; Heap.lt_size q
    refine wpAny_pyNext_enum_itemD (D := Draws.tuple (A := X.A.in1) (show X.A.in1.handled = none from I.ok.hd hc) it a nia its.toArray) he ⟨hit, p'⟩ (by have := (List.getElem?_eq_some_iff.mp hu).1; simpa using this) ne (by simp [ne, nea]) fun y h' tk hy ho hit' hT hsz hk => ?_
    have ey : y = u := by
      have z : its[i]? = some y := by simpa using hy
      rw [hu] at z
      exact (Option.some.inj z).symm
    subst ey
    refine ⟨_, rfl, wpAny_letOwnedTupleGo_enum (s := { s with heap := h', toks := tk + 1 }) ho fun h2 he2 sb => ?_⟩
    have hT2 : h2.get? s.heap.objs.size = some { cls := .type "tuple", data := .seq #[.int i tk, y] } := (sb.2 _ (Nat.ne_of_gt hel)).trans hT
    have low : ∀ b, b ∈ [e, it] → b < s.heap.objs.size := fun b hb => (List.mem_cons.mp hb).elim (fun z => z ▸ hel) fun z => List.mem_singleton.mp z ▸ hil
    have I1 : L2.Inv X pins σ (upd H s.heap.objs.size (.tup [.int (i : Nat), x])) { s with heap := h2, toks := tk + 1 } :=
      I.turnedNew (ch := [e, it]) (fun b ob hb q => (sb.2 b (fun z => hb (by simp [z]))).trans (hk b ob (fun z => hb (by simp [z])) (fun z => hb (by simp [z])) q)) hf (Nat.le_refl _)
        ⟨by show 2 ≤ sizeLine; decide, [.int i tk, y], .cons ⟨_, rfl⟩ (.cons ru .nil), ⟨_, hT2, rfl, _, rfl⟩⟩
    refine ⟨.ref s.heap.objs.size, _, I1, rfl, ⟨_, x, rfl, I.hok.fresh (Nat.le_refl _), rfl, fun ys hy => by rw [I.tuple_inj hy hq]; exact hx⟩, ⟨⟨y, ?_⟩, hit'.1.at fun o q => (sb.2 it (Ne.symm ne)).trans q, ne⟩, fun b hb => ?_⟩
    · rw [show ((i + 1 : Nat) : Int) = (i : Int) + 1 from by omega]
      exact he2
    · rw [upd_ne (Nat.ne_of_lt (low b hb))]
      exact (hf b hb).1
  done := by
    rintro X rfl rfl rfl hc i pins s σ H E I hf ⟨⟨old, he⟩, hit, ne⟩ ⟨xs, hq, rfl⟩
    obtain ⟨its, rv, p, hz⟩ := I.tuple hq
    have p' : s.heap.IsTuple a its.toArray := p
    obtain ⟨oa, hoa, hca, na, hda⟩ := id p'
    have nia : a ≠ it := fun z => by
      obtain ⟨o, ho, hc', hd'⟩ := hit
      rw [← z, hoa] at ho
      cases ho
      rw [hda] at hd'
      cases hd'
    obtain ⟨f0, f1, f2, f3, f4, f5⟩ := hf it (by simp)
    refine wpAny_pyNext_enum_endD (D := Draws.tuple (A := X.A.in1) (show X.A.in1.handled = none from I.ok.hd hc) it a nia its.toArray) he ⟨by rw [List.size_toArray, ← rv.length]; exact hit, p'⟩ fun h' eb => ⟨rfl, I.turned (t' := s.toks) (fun b o hb q => eb b o hb q) f0 f1 f3 f4 f5⟩
  self A i s Q E st h := let ⟨⟨_, he⟩, _⟩ := st; wpAny_pyIter_enum he h
def iEnumT (K : PySem.W.Frag) (ta : TA) : TI := fun σ H R => ta σ H fun vs H1 => ∃ a xs, vs = [.ref a] ∧ SqT K H1 a xs ∧ R (Iet K a) H1
theorem pi_enumT {X : Cx} {e : Expr} {ta : TA} {p pos tpos : Pos} {elts : List Expr} {kk : Nat} (hg : Gl X "enumerate") (hm : X.mg "enumerate" = none) (ha : PA X [e] ta)
    (hs : starEach [e] X.env = [(false, eval e X.env)] := by rfl) : PI X (.Tuple elts kk tpos) (.Call (.Name "enumerate" p) [e] [] pos) (iEnumT X.K ta) := ⟨fun pins s σ H R I h => by
  refine Call_ (ld_blt I hg hm boot_enumerate (PyProof.Rows.callWith_type1 (thn (ha.run pos pins s σ H _ I h) fun us s1 z => ?_) hs rfl))
  obtain ⟨vs, H1, I1, r1, a, xs, rfl, hq, q⟩ := z
  cases r1 with
  | cons r rr =>
    cases rr
    cases r
    obtain ⟨its, rv, p', hz⟩ := I1.tuple hq
    refine enum_tup (show s1.heap.IsTuple a its.toArray from p') fun h' he hit hk => wpAny_pyIter_enum he ?_
    refine ⟨s1.heap.objs.size + 1, [s1.heap.objs.size + 1, s1.heap.objs.size], _, _, H1, rfl, I1.kept (t' := s1.toks) hk, turn_iet a (s1.heap.objs.size + 1) s1.heap.objs.size, ⟨⟨.none, he⟩, hit, Nat.succ_ne_self _⟩, fun b hb => ?_, q⟩
    have le : s1.heap.objs.size ≤ b := (List.mem_cons.mp hb).elim (fun z => z ▸ Nat.le_succ _) fun z => List.mem_singleton.mp z ▸ Nat.le_refl _
    have I2 : L2.Inv X pins σ H1 { s1 with heap := h' } := I1.kept (t' := s1.toks) hk
    exact I1.fpOk le (I1.hok.fresh le)⟩
/-- the loop's reading -/
theorem for_iet {K : PySem.W.Frag} {a : Addr} {xs : List V} {g : TG} {tb : TS} {D : Ends} {σ : L2.St} {H : Hp} (Pv : Nat → L2.St → Hp → Prop) (h0 : Pv 0 σ H) (hl : ∀ i σ H, i ≤ xs.length → Pv i σ H → SqT K H a xs)
    (hs : ∀ i x σ H T, xs[i]? = some x → Pv i σ H → H T = none → g (.ref T) σ (upd H T (.tup [.int (i : Nat), x])) fun σ2 H2 => tb { D with nx := Pv (i + 1), ct := Pv (i + 1), bk := D.nx } σ2 H2) (hd : ∀ σ H, Pv xs.length σ H → D.nx σ H) :
    ∃ W : Nat → Nat → L2.St → Hp → Prop, (∃ m, W 0 m σ H) ∧ ∀ i m σ H, W i m σ H →
      ((Iet K a).stop i H ∧ D.nx σ H) ∨ ((Iet K a).go i H ∧ ∃ N : L2.St → Hp → Prop, (∀ σ' H', N σ' H' → ∃ m', m' < m ∧ W (i + 1) m' σ' H') ∧ ∀ x H', (Iet K a).yld i H x H' → g x σ H' fun σ2 H2 => tb { D with nx := N, ct := N, bk := D.nx } σ2 H2) := by
  refine ⟨fun i m σ H => m = xs.length - i ∧ i ≤ xs.length ∧ Pv i σ H, ⟨xs.length, by simp, Nat.zero_le _, h0⟩, ?_⟩
  rintro i m σ H ⟨rfl, hi, p⟩
  have q := hl i σ H hi p
  rcases Nat.lt_or_ge i xs.length with lt | ge
  · refine .inr ⟨⟨xs, xs[i], q, List.getElem?_eq_getElem lt⟩, Pv (i + 1), fun σ' H' p' => ⟨xs.length - (i + 1), by omega, rfl, lt, p'⟩, ?_⟩
    rintro x H' ⟨T, y, rfl, nT, rfl, hy⟩
    exact hs i y σ H T (hy xs q) p nT
  · have e : i = xs.length := Nat.le_antisymm hi ge
    exact .inl ⟨⟨xs, q, e⟩, hd σ H (e ▸ p)⟩
end Bf

/-! Own rules: x not in t, t a tuple of texts, x any thing; xs < ys of lists; comprehensions over enumerate and zip. -/
namespace Bf
open PySem PySem.Spec PyProof.Rows L2

theorem dict_eq_declines_str (l : Addr) (dt : Data) (dd : Option Addr) (sl : Array (Option Value)) (b : Str) (u : Tok) :
    Meets (Builtin.«dict.__eq__» ⟨[.ref l, .str b u], []⟩) (fun _ R s => s.heap.get? l = some { cls := .type "dict", dict := dd, data := dt, slots := sl } ∧ R (.ok (.ret .notImplemented)) s) :=
  .of_wp fun prog w A R s h => by
    obtain ⟨hp, g, d, tk, os⟩ := s
    obtain ⟨hl, h⟩ := h
    have f1 := F.sub_str_dict
    wp_walk using wpAny_loadPart' hl
    exact ⟨_, rfl, h⟩
theorem str_eq_declines_dict (b : Str) (u : Tok) (l : Addr) (es : Array DictEntry) (n : Nat) (dd : Option Addr) (sl : Array (Option Value)) :
    Meets (Builtin.«str.__eq__» ⟨[.str b u, .ref l], []⟩) (fun _ R s => s.heap.get? l = some { cls := .type "dict", dict := dd, data := .dict es n, slots := sl } ∧ R (.ok (.ret .notImplemented)) s) :=
  .of_wp fun prog w A R s h => by
    obtain ⟨hp, g, d, tk, os⟩ := s
    obtain ⟨hl, h⟩ := h
    wp_walk using wpAny_loadPart' hl, wpAny_load hl
    exact ⟨_, rfl, h⟩
theorem eqAt_str_dict {A : Around} {s : Shared} {l : Addr} {o : Obj} {es : Array DictEntry} {n : Nat} (b : Str) (u : Tok) (ho : s.heap.get? l = some o) (hc : o.cls = .type "dict") (hd : o.data = .dict es n) (hu : A.units < cLine) :
    SeqAt.EqAt A s (.str b u) (.ref l) false := fun prog w E Q h => by
  obtain ⟨cls, dd, data, sl⟩ := o
  simp only at hc hd
  subst hc hd
  unfold eqBool
  refine wpAny_holding ?_
  refine wpAny_ite_split (fun hab => absurd (eq_of_beq hab) nofun) (fun _ => ?_)
  refine wpAny_bind (SeqAt.rc_eq_decline_or (k := false) (typeIs_str s b u) ⟨_, ho, rfl⟩ (by decide) F.sub_dict_str F.slot_str_eq F.slot_dict_eq_refl
    (fun _ hq => call_meets F.slot_str_eq (typeIs_str s b u) F.entry_str_eq (F.args_str_eq_2 _ _) (str_eq_declines_dict b u l es n dd sl) ⟨ho, hq⟩)
    (fun _ hq => call_meets F.slot_dict_eq_refl ⟨_, ho, rfl⟩ F.entry_dict_eq (F.args_dict_eq_2 _ _) (dict_eq_declines_str l _ dd sl b u) ⟨ho, hq⟩)
    (fun _ hq => wpAny_of_eq (rfl : isSame (.str b u) (.ref l) = pure false) hq) (.inr hu) (wpAny_truthy_bool h))

/-- a thing that is compared with texts -/
inductive Odd (H : Hp) : V → Prop
  | non : Odd H .non
  | bl (b : Bool) : Odd H (.bl b)
  | int (i : Int) : Odd H (.int i)
  | str (z : Str) : Odd H (.str z)
  | lst {a : Addr} {xs : List V} (h : H a = some (.lst xs)) : Odd H (.ref a)
  | tup {a : Addr} {xs : List V} (h : H a = some (.tup xs)) : Odd H (.ref a)
  | emp {a : Addr} (h : H a = some (.dK [])) : Odd H (.ref a)
section
variable {X : Cx}
theorem eqAt_odd {pins : List (Addr × Obj)} {σ : L2.St} {H : Hp} {s : Shared} {x : V} {v : Value} {z : Str} {t : Tok} {A : Around} (hu : A.units < cLine) (I : L2.Inv X pins σ H s) (h : Odd H x) (r : RelV x v) :
    SeqAt.EqAt A s (.str z t) v (eqV (.str z) x) := by
  have fl : flatV x = true → SeqAt.EqAt A s (.str z t) v (eqV (.str z) x) := fun f => eqAt_V (y := .str z) ⟨t, rfl⟩ r rfl f
  cases h with
  | non => exact fl rfl
  | bl b => exact fl rfl
  | int i => exact fl rfl
  | str z => exact fl rfl
  | lst h =>
    cases r
    obtain ⟨_, its, n, rv, e⟩ := I.hok _ _ h
    exact SeqAt.EqAt.str_list z t (items := its.toArray) ⟨_, e, rfl, _, rfl⟩ hu
  | tup h =>
    cases r
    obtain ⟨_, its, rv, o, e1, e2, n, e3⟩ := I.hok _ _ h
    exact SeqAt.EqAt.str_tuple z t ⟨o, e1, e2, n, e3⟩ hu
  | emp h =>
    cases r
    obtain ⟨_, sm, vs, kv, o, es, ep, e1, e2, e3, _, e4, _⟩ := I.hok _ _ h
    exact eqAt_str_dict z t e1 e2.1 e3 hu
def rNotInW (K : PySem.W.Frag) : R2 := fun x y H Q => ∃ (p : Addr) (ws : List Str), y = .ref p ∧ SqT K H p (ws.map V.str) ∧ Odd H x ∧ Q (.bl (!inV x (ws.map V.str))) H
theorem op_notInW (hu : X.A.units + 64 < cLine) : OpR X (compareOp .NotIn) (rNotInW X.K) := by
  intro pins s σ H x y v u Q I rx ry h
  obtain ⟨p, ws, rfl, hq, od, q⟩ := h
  cases ry
  obtain ⟨its, r, pl, hz⟩ := I.tuple hq
  have fs : (ws.map V.str).all flatV = true := by
    rw [List.all_map, List.all_eq_true]
    intro z _
    rfl
  have each : ∀ {vs : List V} {us : List Value}, Vals vs us → (∀ y ∈ vs, ∃ z, y = V.str z) → ∀ w ∈ us, SeqAt.EqAt X.A.in1 s w v (eqU x w) := by
    intro vs us r
    induction r with
    | nil => exact fun _ _ m => nomatch m
    | cons r1 r2 ih =>
      intro hv w m
      rcases List.mem_cons.mp m with rfl | m
      · obtain ⟨z, rfl⟩ := hv _ List.mem_cons_self
        obtain ⟨t, rfl⟩ := r1
        exact eqAt_odd (by show X.A.units + 1 < cLine; omega) I od rx
      · exact ih (fun y my => hv y (List.mem_cons_of_mem _ my)) w m
  refine SeqAt.notIn_tupleAt (eqU x) pl (fun w hw => each r (fun y my => by obtain ⟨z, _, rfl⟩ := List.mem_map.mp my; exact ⟨z, rfl⟩) w (by simpa using hw)) ⟨.bl _, H, I, rfl, ?_⟩
  rw [show its.toArray.any (eqU x) = its.any (eqU x) by simp, any_eqU r fs]
  exact q
/-- xs < ys, lists of whole numbers -/
theorem alike_ints : ∀ ns ms : List Int, PySem.W.alikeAll (ns.map PyData.int) (ms.map PyData.int) = true
  | [], [] => by simp only [List.map_nil, PySem.W.alikeAll]
  | [], _ :: _ => by simp only [List.map_nil, PySem.W.alikeAll]
  | _ :: _, [] => by simp only [List.map_nil, List.map_cons, PySem.W.alikeAll]
  | a :: ns, b :: ms => by simp only [List.map_cons, PySem.W.alikeAll, PySem.W.alike, alike_ints ns ms, Bool.and_self]
theorem dpI {K : PySem.W.Frag} {H : Hp} : ∀ is : List Int, DpAll K H (is.map V.int) (is.map PyData.int)
  | [] => .nil
  | i :: r => .cons (.int i) (dpI r)
theorem depth_ints : ∀ ns : List Int, PyData.depthAll (ns.map PyData.int) = 0
  | [] => by simp only [List.map_nil, PyData.depthAll]
  | n :: r => by simp only [List.map_cons, PyData.depthAll, PyData.depth, depth_ints r]; decide
def ltI (ns ms : List Int) : Bool := PySem.W.dataLt (.list (ns.map PyData.int)) (.list (ms.map PyData.int))
def rLtI (K : PySem.W.Frag) : R2 := fun x y H Q => ∃ (a b : Addr) (ns ms : List Int), x = .ref a ∧ y = .ref b ∧ SqL K H a (ns.map V.int) ∧ SqL K H b (ms.map V.int) ∧ Q (.bl (ltI ns ms)) H
theorem op_ltI (hu : X.A.units + 64 < cLine) : OpR X (compareOp .Lt) (rLtI X.K) := by
  intro pins s σ H x y v u Q I rx ry h
  obtain ⟨a, b, ns, ms, rfl, rfl, ha, hb, q⟩ := h
  obtain ⟨as, r1⟩ := Dp.reads I (.list (ns.map PyData.int)) (.ref a) v (.lst ha (dpI ns)) rx
  obtain ⟨bs, r2⟩ := Dp.reads I (.list (ms.map PyData.int)) (.ref b) u (.lst hb (dpI ms)) ry
  refine PySem.W.lt_data r1 r2 (by simp only [PySem.W.alike]; exact alike_ints ns ms) (fun z => nomatch z) ?_ ⟨.bl (ltI ns ms), H, I, rfl, q⟩
  have d1 : PyData.depth (.list (ns.map PyData.int)) = 1 := by simp only [PyData.depth, depth_ints]
  have : min (PyData.depth (.list (ns.map PyData.int))) (PyData.depth (.list (ms.map PyData.int))) ≤ 1 := by rw [d1]; exact Nat.min_le_left _ _
  omega
end

/-! ### comprehensions over enumerate(list) and zip(list, list) -/
theorem lc_ite {K : PySem.W.Frag} {a : Addr} {xs : List V} {g : TG} {tt : TT} {te : TE} {vs : List Nat} {σ : L2.St} {H1 : Hp} {D : Addr} {Qd : Hp → Prop} (Pv : Nat → Hp → Prop) (h0 : Pv 0 (upd H1 D (.lst []))) (hl : ∀ i H, i ≤ xs.length → Pv i H → SqL K H a xs)
    (hs : ∀ i x H T, xs[i]? = some x → Pv i H → H T = none → g (.ref T) (wipe σ vs) (upd H T (.tup [.int (i : Nat), x])) fun σ2 H2 => wipe σ2 vs = wipe σ vs ∧ tt σ2 H2 fun b H3 =>
      if b = true then te σ2 H3 fun y H4 => ∃ acc, H4 D = some (.lst acc) ∧ acc.length < sizeLine ∧ Pv (i + 1) (upd H4 D (.lst (acc ++ [y]))) else Pv (i + 1) H3) (hd : ∀ H, Pv xs.length H → Qd H) :
    ∃ W : Nat → Nat → Hp → Prop, (∃ m, W 0 m (upd H1 D (.lst []))) ∧ ∀ i m H, W i m H →
      ((Ite K a).stop i H ∧ Qd H) ∨ ((Ite K a).go i H ∧ ∃ Nx : Hp → Prop, (∀ H', Nx H' → ∃ m', m' < m ∧ W (i + 1) m' H') ∧ ∀ x H', (Ite K a).yld i H x H' → g x (wipe σ vs) H' fun σ2 H2 => wipe σ2 vs = wipe σ vs ∧ tt σ2 H2 fun b H3 =>
        if b = true then te σ2 H3 fun y H4 => ∃ acc, H4 D = some (.lst acc) ∧ acc.length < sizeLine ∧ Nx (upd H4 D (.lst (acc ++ [y]))) else Nx H3) := by
  refine ⟨fun i m H => m = xs.length - i ∧ i ≤ xs.length ∧ Pv i H, ⟨xs.length, by simp, Nat.zero_le _, h0⟩, ?_⟩
  rintro i m H ⟨rfl, hi, p⟩
  have q := hl i H hi p
  by_cases hlt : i < xs.length
  · refine .inr ⟨⟨xs, xs[i], q, by simp [hlt]⟩, Pv (i + 1), fun H' p' => ⟨xs.length - (i + 1), by omega, rfl, hlt, p'⟩, fun x H' y => ?_⟩
    obtain ⟨T, z, rfl, nT, rfl, hy⟩ := y
    exact hs i z H T (hy xs q) p nT
  · have e : i = xs.length := by omega
    subst e
    exact .inl ⟨⟨xs, q, Nat.le_refl _⟩, hd H p⟩
theorem lc_itz {K : PySem.W.Frag} {a b : Addr} {xs ys : List V} {g : TG} {tt : TT} {te : TE} {vs : List Nat} {σ : L2.St} {H1 : Hp} {D : Addr} {Qd : Hp → Prop} (hxy : xs.length = ys.length) (Pv : Nat → Hp → Prop) (h0 : Pv 0 (upd H1 D (.lst [])))
    (hl : ∀ i H, i ≤ xs.length → Pv i H → SqL K H a xs ∧ SqL K H b ys)
    (hs : ∀ i x y H T, xs[i]? = some x → ys[i]? = some y → Pv i H → H T = none → g (.ref T) (wipe σ vs) (upd H T (.tup [x, y])) fun σ2 H2 => wipe σ2 vs = wipe σ vs ∧ tt σ2 H2 fun b H3 =>
      if b = true then te σ2 H3 fun y H4 => ∃ acc, H4 D = some (.lst acc) ∧ acc.length < sizeLine ∧ Pv (i + 1) (upd H4 D (.lst (acc ++ [y]))) else Pv (i + 1) H3) (hd : ∀ H, Pv xs.length H → Qd H) :
    ∃ W : Nat → Nat → Hp → Prop, (∃ m, W 0 m (upd H1 D (.lst []))) ∧ ∀ i m H, W i m H →
      ((Itz K a b).stop i H ∧ Qd H) ∨ ((Itz K a b).go i H ∧ ∃ Nx : Hp → Prop, (∀ H', Nx H' → ∃ m', m' < m ∧ W (i + 1) m' H') ∧ ∀ x H', (Itz K a b).yld i H x H' → g x (wipe σ vs) H' fun σ2 H2 => wipe σ2 vs = wipe σ vs ∧ tt σ2 H2 fun b H3 =>
        if b = true then te σ2 H3 fun y H4 => ∃ acc, H4 D = some (.lst acc) ∧ acc.length < sizeLine ∧ Nx (upd H4 D (.lst (acc ++ [y]))) else Nx H3) := by
  refine ⟨fun i m H => m = xs.length - i ∧ i ≤ xs.length ∧ Pv i H, ⟨xs.length, by simp, Nat.zero_le _, h0⟩, ?_⟩
  rintro i m H ⟨rfl, hi, p⟩
  obtain ⟨q1, q2⟩ := hl i H hi p
  by_cases hlt : i < xs.length
  · have h2 : i < ys.length := by omega
    refine .inr ⟨⟨xs, ys, xs[i], ys[i], q1, q2, List.getElem?_eq_getElem hlt, List.getElem?_eq_getElem h2⟩, Pv (i + 1), fun H' p' => ⟨xs.length - (i + 1), by omega, rfl, hlt, p'⟩, fun x H' y => ?_⟩
    obtain ⟨T, z, z2, rfl, nT, rfl, hy, hy2⟩ := y
    exact hs i z z2 H T (hy xs q1) (hy2 ys q2) p nT
  · have e : i = xs.length := by omega
    subst e
    exact .inl ⟨⟨xs, ys, q1, q2, .inl (Nat.le_refl _)⟩, hd H p⟩
end Bf

/-! Own rules: f(e, .., k = v, ..) within a try's body. -/
namespace Bf
open PySem PySem.Spec PyProof.Rows L2
def tCallNS (n m : Nat) (sp : Sp) (gV : List V → List V → List V) (E : L2.St → XK) (t tk : TA) : TE := fun σ H Q => t σ H fun vs H1 => tk σ H1 fun zs H2 => vs.length = n ∧ zs.length = m ∧ sp (gV vs zs) H2 Q (E σ)
section
variable {X : Cx} {CX : CXT} {k n : Nat} {f : Addr} {fd : FuncData} {ps ks : List Str} {sp : Sp} {E : L2.St → XK} {x : Str} {p pos : Pos} {e : Expr} {es : List Expr} {kws : List Keyword} {t tk : TA} {g : List Value → List Value → List Value} {gV : List V → List V → List V}
theorem pe_callNS (F : FnOk X.prog X.w X.K X.mg X.base CX k f fd ps sp) (hr : Room k X.A) (hg : Gl X x) (hm : X.mg x = some (.ref f)) (hk : PySem.W.keepIn X.K (.ref f) = true) (hb : KBn X.K fd ps n ks g gV) (hx : ∀ σ, PassesAt CX X σ (E σ))
    (ha : PA X (e :: es) t) (hkw : PK X kws tk) (hall : (backToKw pos (keywordEach kws X.env)).all (·.1.isSome) = true := by rfl) (hks : (backToKw pos (keywordEach kws X.env)).filterMap (·.1) = ks := by rfl)
    (hdb : (x == ("__debug__" : Str)) = false := by decide) (he : starEach (e :: es) X.env = (false, eval e X.env) :: starEach es X.env := by rfl)
    (hpl : ((backTo pos (starEach (e :: es) X.env)).any (·.1) || (backToKw pos (keywordEach kws X.env)).any (·.1.isNone)) = false := by rfl) :
    PE X (.Call (.Name x p) (e :: es) kws pos) (tCallNS n ks.length sp gV E t tk) := by
  refine ⟨fun pins s σ H Q I h => ?_⟩
  refine wpAny_Call_Name_kw (ld_glob I hg hm ?_ hdb)
  refine PySem.W.callWith_KW (h₀ := X.base) I.ok.mod.kin hk hall (thn (ha.run pos pins s σ H _ I h) fun us s1 ⟨vs, H1, I1, r, q⟩ => ?_) hpl he
  refine thn (hkw.run pos pins s1 σ H1 _ I1 q) fun ws s2 ⟨zs, H2, I2, rz, l1, l2, q2⟩ => ⟨I2.kIn, ?_⟩
  rw [hks]
  have r2 := hb.rel r rz
  refine wpAny_call (codeAny_mono (F.run X.A X.stack s2 H2 ⟨us, ks.zip ws⟩ (g us ws) (gV vs zs) Q (E σ) hr I2.env0 (hb.to s2 us ws I2.kIn (r.length.symm.trans l1) (rz.length.symm.trans l2)) r2 q2) fun r s' hq => ?_)
  cases r with
  | error e => exact hx σ pins H2 s2 e s' I2 hq
  | ok fl =>
    cases fl with
    | ret u => exact I2.after hq
    | next => exact False.elim hq
    | brk => exact False.elim hq
    | cont => exact False.elim hq
end
end Bf
namespace Bf
open PySem PySem.Spec PyProof.Rows L2
/-! ### new lists, not the module table -/
section
variable {X : Cx}
def rCatN : R2 := fun x y H Q => ∃ (l b : Addr) (xs zs : List V), x = .ref l ∧ y = .ref b ∧ H l = some (.lst xs) ∧ H b = some (.lst zs) ∧ xs.length + zs.length ≤ sizeLine ∧ ∀ p, H p = none → p ≠ sysModules → Q (.ref p) (upd H p (.lst (xs ++ zs)))
theorem op_catN : OpR X (binaryOp .Add) rCatN := by
  intro pins s σ H x y v u Q I rx ry h
  obtain ⟨l, b, xs, zs, rfl, rfl, hH, hB, hz, q⟩ := h
  cases rx
  cases ry
  obtain ⟨z, its, n, r, hl, e⟩ := I.lstM hH
  obtain ⟨z2, its2, n2, r2, hl2, e2⟩ := I.lstM hB
  refine PySem.P.add_list e e2 ?_ (by rw [List.size_toArray, List.size_toArray]; omega)
  have ea : its.toArray ++ its2.toArray = (its ++ its2).toArray := by simp
  rw [ea]
  exact ⟨.ref _, _, I.lnew (t' := s.toks) (r.append r2) (by rw [List.length_append]; omega), rfl, q _ I.fresh (Nat.ne_of_gt I.big)⟩
def rSlN (K : PySem.W.Frag) : V → Option Int → Option Int → Hp → VK → Prop := fun x lo hi H Q => ∃ (a : Addr) (xs : List V), x = .ref a ∧ SqL K H a xs ∧ ∀ p, H p = none → p ≠ sysModules → Q (.ref p) (upd H p (.lst (cutV xs lo hi)))
theorem sl_listN : SlR X (rSlN X.K) := by
  intro pins s σ H x v vl vu lo hi sl Q I rx hs pl pu h
  obtain ⟨a, xs, rfl, hx, q⟩ := h
  cases rx
  obtain ⟨its, r, ht, hz⟩ := I.list hx
  have hlen := r.length
  refine ⟨"list", _, slot_list_getitem.lookup, ht.isList.typeIs, ?_⟩
  refine wpAny_getItem_list_slice ht.isList hs pl pu .none (by simp) ?_ (by rw [List.size_toArray] <;> omega)
  rw [slicePick_cut, ← hlen]
  refine ⟨.ref s.heap.objs.size, _, I.laid (t' := s.toks) (o := .lst (cutV xs lo hi)) (fun b ob q => Heap.get?_push_of_some _ q) (Nat.le_refl _) ?_, rfl, q _ (I.hok.fresh (Nat.le_refl _)) (Nat.ne_of_gt I.big)⟩
  exact ⟨Nat.le_trans (cutV_length xs lo hi) hz, _, 0, (r.drop (HT.sIx xs.length 0 lo)).take (HT.sIx xs.length xs.length hi - HT.sIx xs.length 0 lo), Heap.get?_push_size _ rfl⟩
def rRepN : R2 := fun x y H Q => ∃ (l : Addr) (k : Int) (xs : List V), x = .ref l ∧ y = .int k ∧ H l = some (.lst xs) ∧ -(2 ^ 63) ≤ k ∧ k < 2 ^ 63 ∧ xs.length * k.toNat ≤ sizeLine ∧
  ∀ p, H p = none → p ≠ sysModules → Q (.ref p) (upd H p (.lst (List.replicate k.toNat xs).flatten))
theorem op_repN : OpR X (binaryOp .Mult) rRepN := by
  intro pins s σ H x y v u Q I rx ry h
  obtain ⟨l, k, xs, rfl, rfl, hH, h1, h2, hz, q⟩ := h
  cases rx
  obtain ⟨t, rfl⟩ := ry
  obtain ⟨z, its, n, r, hl, e⟩ := I.lstM hH
  have hlen : its.toArray.size * k.toNat ≤ sizeLine := by rw [List.size_toArray, ← hl]; exact hz
  have hcap : ¬ its.toArray.size * k.toNat > (2 ^ 63 - 1) / 8 := by
    have : (sizeLine : Nat) ≤ (2 ^ 63 - 1) / 8 := by decide
    omega
  have hfit : ¬ (!Builtin.List.listFitsIndex k) = true := by
    rw [fitsIndex_both h1 h2]
    exact Bool.false_ne_true
  have hlong : ¬ Builtin.List.listTooLong (its.toArray.size * k.toNat) = true := by
    rw [notLongL hlen]
    exact Bool.false_ne_true
  have hnew : List.foldl (fun x1 x2 => x1 ++ x2) #[] (List.replicate (if its.toArray.isEmpty = true then 0 else k.toNat) its.toArray) = (List.replicate k.toNat its).flatten.toArray := by
    have f0 : ∀ m : Nat, List.foldl (fun x1 x2 => x1 ++ x2) #[] (List.replicate m its.toArray) = (List.replicate m its).flatten.toArray := fun m => by
      have := foldl_rep its m []
      rw [List.nil_append] at this
      exact this
    rw [f0]
    cases its with
    | nil => simp
    | cons a r' => rw [if_neg (by simp)]
  refine wpAny_binaryOp_repeat_ref (T := "list") (U := "int") (by decide) ⟨_, e, rfl⟩ (fun s' => typeIs_int s' k t) noFill_list_mul F.fills_int_mul F.slot_int_rmul repeat_list F.slot_int_index.lookup
    (call_meets F.slot_int_rmul (typeIs_int s k t) F.entry_int_rmul (F.args_int_rmul_2 _ _) (int___rmul___int_list k t l its.toArray n)
      ⟨e, rfl, ⟨_, e, rfl⟩, call_meets F.slot_list_mul ⟨_, e, rfl⟩ F.entry_list_mul (F.args_list_mul_2 _ _) (AutoListH.list___mul___list_int_3 l its.toArray n k t hfit hcap hlong) ⟨e, ?_⟩⟩)
  rw [hnew]
  exact ⟨.ref _, _, I.lnew (t' := s.toks) (r.rep k.toNat) (by rw [PyProof.Rows.lm_len_rep_flat, Nat.mul_comm]; exact hz), rfl, q _ I.fresh (Nat.ne_of_gt I.big)⟩
end
end Bf

/-! Own rules: dicts of the module by their tables; xs.extend(t); comprehensions over zip of tuples. -/
namespace Bf
open PySem PySem.Spec PyProof.Rows L2
/-- the rows of a written dict -/
inductive Rows : List DictEntry → List (Str × V) → Prop
  | nil : Rows [] []
  | cons {e : DictEntry} {k : Str} {t : Tok} {v : V} {es : List DictEntry} {tb : List (Str × V)} (hk : e.key = .str k t) (r : RelV v e.val) (rs : Rows es tb) : Rows (e :: es) ((k, v) :: tb)
def lk {α : Type} (z : Str) : List (Str × α) → Option α
  | [] => none
  | (k, v) :: r => if (k == z) = true then some v else lk z r
theorem rows_find (z : Str) : ∀ {es : List DictEntry} {tb : List (Str × V)}, Rows es tb → (lk z tb = none ∧ es.find? (fun x => x.key.isStr z) = none ∧ (es.any fun x => x.refKey) = false) ∨ ∃ v e, lk z tb = some v ∧ es.find? (fun x => x.key.isStr z) = some e ∧ RelV v e.val
  | _, _, .nil => .inl ⟨rfl, rfl, rfl⟩
  | _, _, .cons (e := e) (k := k) (t := t) hk r rs => by
    have hs : e.key.isStr z = (k == z) := by rw [hk]; rfl
    have hr : e.refKey = false := by unfold DictEntry.refKey; rw [hk]
    by_cases h : (k == z) = true
    · refine .inr ⟨_, e, by unfold lk; rw [if_pos h], ?_, r⟩
      rw [List.find?_cons_of_pos (by rw [hs]; exact h)]
    · rcases rows_find z rs with ⟨a, b, c⟩ | ⟨v, e', a, b, c⟩
      · exact .inl ⟨by unfold lk; rw [if_neg h]; exact a, by rw [List.find?_cons_of_neg (by rw [hs]; exact h)]; exact b, by rw [List.any_cons, hr, c]; rfl⟩
      · exact .inr ⟨v, e', by unfold lk; rw [if_neg h]; exact a, by rw [List.find?_cons_of_neg (by rw [hs]; exact h)]; exact b, c⟩
/-- a written dict and its table -/
structure Dct (K : PySem.W.Frag) (w : World) (a : Addr) (tb : List (Str × V)) : Prop where
  ex : ∃ es n, KDict K w a es n ∧ Rows es.toList tb
theorem Dct.get {K : PySem.W.Frag} {w : World} {a : Addr} {tb : List (Str × V)} (D : Dct K w a tb) (z : Str) : (lk z tb = none → PySem.W.nsIn K a z = some none) ∧ ∀ v, lk z tb = some v → ∃ u, PySem.W.nsIn K a z = some (some u) ∧ RelV v u := by
  obtain ⟨es, n, kd, rs⟩ := D.ex
  have un : PySem.W.nsIn K a z = (match es.toList.find? (fun x => x.key.isStr z) with | some e => some (some e.val) | none => if (es.toList.any fun x => x.refKey) = true then none else some none) := by
    unfold PySem.W.nsIn
    rw [kd.at_]
    rfl
  rcases rows_find z rs with ⟨h1, h2, h3⟩ | ⟨v, e, h1, h2, h3⟩
  · refine ⟨fun _ => ?_, fun v h => by rw [h1] at h; cases h⟩
    rw [un, h2, h3]
    rfl
  · refine ⟨(fun h => by rw [h1] at h; cases h), fun v' h => ?_⟩
    rw [h1] at h
    cases h
    exact ⟨e.val, by rw [un, h2], h3⟩
section
variable {X : Cx} {a : Addr} {tb : List (Str × V)}
theorem op_in_dct (D : Dct X.K X.w a tb) : OpR X (compareOp .In) (fun x y H Q => ∃ z : Str, x = .str z ∧ y = .ref a ∧ Q (.bl (lk z tb).isSome) H) := by
  obtain ⟨es, n, kd, rs⟩ := id D.ex
  intro pins s σ H x y v u Q I rx ry h
  obtain ⟨z, rfl, rfl, q⟩ := h
  cases e : lk z tb with
  | none =>
    rw [e] at q
    exact op_in_kd kd pins s σ H _ _ v u Q I rx ry ⟨z, none, rfl, rfl, (D.get z).1 e, q⟩
  | some w =>
    rw [e] at q
    obtain ⟨u', h1, h2⟩ := (D.get z).2 w e
    exact op_in_kd kd pins s σ H _ _ v u Q I rx ry ⟨z, some u', rfl, rfl, h1, q⟩
theorem op_notIn_dct (D : Dct X.K X.w a tb) : OpR X (compareOp .NotIn) (fun x y H Q => ∃ z : Str, x = .str z ∧ y = .ref a ∧ Q (.bl (!(lk z tb).isSome)) H) := by
  obtain ⟨es, n, kd, rs⟩ := id D.ex
  intro pins s σ H x y v u Q I rx ry h
  obtain ⟨z, rfl, rfl, q⟩ := h
  cases e : lk z tb with
  | none =>
    rw [e] at q
    exact op_notIn_kd kd pins s σ H _ _ v u Q I rx ry ⟨z, none, rfl, rfl, (D.get z).1 e, q⟩
  | some w =>
    rw [e] at q
    obtain ⟨u', h1, h2⟩ := (D.get z).2 w e
    exact op_notIn_kd kd pins s σ H _ _ v u Q I rx ry ⟨z, some u', rfl, rfl, h1, q⟩
theorem op_item_dct (D : Dct X.K X.w a tb) : OpR X getItem (fun x y H Q => ∃ (z : Str) (v : V), x = .ref a ∧ y = .str z ∧ lk z tb = some v ∧ Q v H) := by
  obtain ⟨es, n, kd, rs⟩ := id D.ex
  intro pins s σ H x y v u Q I rx ry h
  obtain ⟨z, v', rfl, rfl, e, q⟩ := h
  obtain ⟨u', h1, h2⟩ := (D.get z).2 v' e
  exact op_item_kd kd pins s σ H _ _ v u Q I rx ry ⟨z, u', v', rfl, rfl, h1, h2, q⟩
theorem extend_tup (l : Addr) (items : Array Value) (n : Nat) (b : Addr) (items2 : Array Value) (n2 : Nat) (dd : Option Addr) (sl : Array (Option Value)) (hs0 : ¬(!items.isEmpty && Builtin.List.listTooLong (items.size + items2.size)) = true) (hs1 : items.size ≤ sizeLine) (hs2 : items.size + items2.size ≤ sizeLine + 1) :
    Meets (Builtin.«list.extend» ⟨[.ref l, .ref b], []⟩) (fun _ R s => s.heap.get? l = some { cls := .type "list", data := .seq items n } ∧ s.heap.get? b = some { cls := .type "tuple", dict := dd, data := .seq items2 n2, slots := sl } ∧
      R (.ok (.ret Value.none)) { s with heap := s.heap.update l (Obj.mapSeq fun x => x ++ items2), toks := s.toks }) :=
  .of_wp fun prog w A R s h => by
    obtain ⟨hp, g, d, tk, os⟩ := s
    obtain ⟨hl, hb, h⟩ := h
    have f1 := AutoSeq1.idx_int
    have f2 := AutoSeq1.sub_tuple_tuple
    have f3 := AutoSeq1.sub_list_list
    have f4 := AutoSeq1.sub_tuple_list
    have f5 := AutoSeq1.sub_list_tuple
    have hz' : (items ++ items2).size ≤ sizeLine + 1 := by rw [Array.size_append]; exact hs2
    wp_walk using (wpAny_updateSeq hl rfl (hz := hs1) (_hz' := hz')), wpAny_loadPart' hl, wpAny_loadPart' hb
    exact ⟨_, rfl, h⟩
/-- d[key] -/
theorem ix_dct (D : Dct X.K X.w a tb) : IxR X (fun x y H Q => ∃ (z : Str) (v : V), x = .ref a ∧ y = .str z ∧ lk z tb = some v ∧ Q v H) := by
  obtain ⟨es, n, kd, rs⟩ := id D.ex
  intro value slice pins s σ H x y v u Q I rx ry h hs
  obtain ⟨z, v', rfl, rfl, e, q⟩ := h
  obtain ⟨u', h1, h2⟩ := (D.get z).2 v' e
  cases rx
  obtain ⟨t, rfl⟩ := ry
  refine tail_any (kd_type kd I) PySem.F.slot_dict_getitem.lookup ?_ hs
  exact wpAny_getItem_of (PySem.strKind_is X.prog X.w z t) (PySem.W.mapOf_K (prog := X.prog) I.kIn kd.at_ kd.lit) (PySem.W.find_K kd.at_ h1) ⟨v', H, I.tok _, h2, q⟩
/-- xs.extend(t), t a tuple -/
def rExtT : V → List V → Hp → VK → Prop := fun x vs H Q => ∃ (l b : Addr) (xs zs : List V), x = .ref l ∧ vs = [.ref b] ∧ H l = some (.lst xs) ∧ H b = some (.tup zs) ∧ xs.length + zs.length ≤ sizeLine ∧ Q .non (upd H l (.lst (xs ++ zs)))
theorem mt_extT : MtM X "list.extend" rExtT := by
  intro pins s σ H x vs v us Q I rx rv h
  obtain ⟨l, b, xs, zs, rfl, rfl, hH, hB, hz, q⟩ := h
  cases rx
  obtain ⟨u, rfl, ru⟩ := rv.one
  cases ru
  obtain ⟨z, its, n, r, hl, e⟩ := I.lstM hH
  obtain ⟨_, its2, r2, ⟨cls, dd, data, sl⟩, e2, c2, n2, d2⟩ := I.hok _ _ hB
  simp only at c2 d2
  subst c2 d2
  have hl2 := r2.length
  have hsz : its.toArray.size + its2.toArray.size ≤ sizeLine := by rw [List.size_toArray, List.size_toArray]; omega
  have hlong : ¬ (!its.toArray.isEmpty && Builtin.List.listTooLong (its.toArray.size + its2.toArray.size)) = true := by
    rw [notLongL hsz, Bool.and_false]
    exact Bool.false_ne_true
  refine call_meets F.slot_list_extend ⟨_, e, rfl⟩ F.entry_list_extend (F.args_list_extend_2 _ _)
    (extend_tup l its.toArray n b its2.toArray n2 dd sl hlong (by rw [List.size_toArray]; omega) (by omega)) ⟨e, e2, ?_⟩
  refine ⟨.non, _, I.lset (its' := its ++ its2) hH e (by simp) (r.append r2) ?_, rfl, q⟩
  rw [List.length_append]
  omega
end
/-- comprehensions over zip of two tuples of one length -/
theorem lc_itzT {K : PySem.W.Frag} {a b : Addr} {xs ys : List V} {g : TG} {tt : TT} {te : TE} {vs : List Nat} {σ : L2.St} {H1 : Hp} {D : Addr} {Qd : Hp → Prop} (hxy : xs.length = ys.length) (Pv : Nat → Hp → Prop) (h0 : Pv 0 (upd H1 D (.lst [])))
    (hl : ∀ i H, i ≤ xs.length → Pv i H → SqT K H a xs ∧ SqT K H b ys)
    (hs : ∀ i x y H T, xs[i]? = some x → ys[i]? = some y → Pv i H → H T = none → g (.ref T) (wipe σ vs) (upd H T (.tup [x, y])) fun σ2 H2 => wipe σ2 vs = wipe σ vs ∧ tt σ2 H2 fun b H3 =>
      if b = true then te σ2 H3 fun y H4 => ∃ acc, H4 D = some (.lst acc) ∧ acc.length < sizeLine ∧ Pv (i + 1) (upd H4 D (.lst (acc ++ [y]))) else Pv (i + 1) H3) (hd : ∀ H, Pv xs.length H → Qd H) :
    ∃ W : Nat → Nat → Hp → Prop, (∃ m, W 0 m (upd H1 D (.lst []))) ∧ ∀ i m H, W i m H →
      ((RZ.ItzT K a b).stop i H ∧ Qd H) ∨ ((RZ.ItzT K a b).go i H ∧ ∃ Nx : Hp → Prop, (∀ H', Nx H' → ∃ m', m' < m ∧ W (i + 1) m' H') ∧ ∀ x H', (RZ.ItzT K a b).yld i H x H' → g x (wipe σ vs) H' fun σ2 H2 => wipe σ2 vs = wipe σ vs ∧ tt σ2 H2 fun b H3 =>
        if b = true then te σ2 H3 fun y H4 => ∃ acc, H4 D = some (.lst acc) ∧ acc.length < sizeLine ∧ Nx (upd H4 D (.lst (acc ++ [y]))) else Nx H3) := by
  refine ⟨fun i m H => m = xs.length - i ∧ i ≤ xs.length ∧ Pv i H, ⟨xs.length, by simp, Nat.zero_le _, h0⟩, ?_⟩
  rintro i m H ⟨rfl, hi, p⟩
  obtain ⟨q1, q2⟩ := hl i H hi p
  by_cases hlt : i < xs.length
  · have h2 : i < ys.length := by omega
    refine .inr ⟨⟨xs, ys, xs[i], ys[i], q1, q2, List.getElem?_eq_getElem hlt, List.getElem?_eq_getElem h2⟩, Pv (i + 1), fun H' p' => ⟨xs.length - (i + 1), by omega, rfl, hlt, p'⟩, fun x H' y => ?_⟩
    obtain ⟨T, z, z2, rfl, nT, rfl, hy, hy2⟩ := y
    exact hs i z z2 H T (hy xs q1) (hy2 ys q2) p nT
  · have e : i = xs.length := by omega
    subst e
    exact .inl ⟨⟨xs, ys, q1, q2, .inl (Nat.le_refl _)⟩, hd H p⟩
end Bf

/-! Own rules: a list or a tuple held against an empty one; any thing held against a text; list(t) and lists that are no module table. -/
namespace Bf
open PySem PySem.Spec PyProof.Rows L2
section
variable {X : Cx}
theorem isEmpty_size {xs : List V} {its : List Value} (h : xs.length = its.length) : xs.isEmpty = (its.toArray.size == ([] : List Value).toArray.size) := by
  rw [List.size_toArray, ← h]
  cases xs <;> rfl
/-- xs == [] -/
def rEqNil (K : PySem.W.Frag) : R2 := fun x y H Q => ∃ (a b : Addr) (xs : List V), x = .ref a ∧ y = .ref b ∧ SqL K H a xs ∧ SqL K H b [] ∧ Q (.bl xs.isEmpty) H
theorem op_eqNil (hu : X.A.units + 64 < cLine) : OpR X (compareOp .Eq) (rEqNil X.K) := by
  intro pins s σ H x y v u Q I rx ry h
  obtain ⟨a, b, xs, rfl, rfl, hx, hy, q⟩ := h
  cases rx
  cases ry
  obtain ⟨its, r, pl, hz⟩ := I.list hx
  obtain ⟨its2, r2, pl2, hz2⟩ := I.list hy
  cases r2
  have u0 : X.A.units < cLine := by omega
  cases r with
  | nil => exact SeqAt.eq_listAt (e := fun _ => true) pl.isList pl2.isList rfl u0 (fun j h1 _ => absurd h1 (by simp)) ⟨.bl true, H, I, rfl, q⟩
  | cons _ _ => exact SeqAt.eq_list_lengthsAt pl.isList pl2.isList (by simp) u0 ⟨.bl false, H, I, rfl, q⟩
/-- xs != [] -/
def rNeNil (K : PySem.W.Frag) : R2 := fun x y H Q => ∃ (a b : Addr) (xs : List V), x = .ref a ∧ y = .ref b ∧ SqL K H a xs ∧ SqL K H b [] ∧ Q (.bl (!xs.isEmpty)) H
theorem op_neNil (hu : X.A.units + 64 < cLine) : OpR X (compareOp .NotEq) (rNeNil X.K) := by
  intro pins s σ H x y v u Q I rx ry h
  obtain ⟨a, b, xs, rfl, rfl, hx, hy, q⟩ := h
  cases rx
  cases ry
  obtain ⟨its, r, pl, hz⟩ := I.list hx
  obtain ⟨its2, r2, pl2, hz2⟩ := I.list hy
  cases r2
  have u0 : X.A.units < cLine := by omega
  cases r with
  | nil => exact SeqAt.RcNeAt.lists (e := fun _ => true) pl.isList pl2.isList rfl u0 (fun j h1 _ => absurd h1 (by simp)) _ _ _ _ ⟨.bl false, H, I, rfl, q⟩
  | cons _ _ => exact SeqAt.RcNeAt.lists_lengths pl.isList pl2.isList (by simp) u0 _ _ _ _ ⟨.bl true, H, I, rfl, q⟩
/-- t == () -/
def rEqNilT (K : PySem.W.Frag) : R2 := fun x y H Q => ∃ (a b : Addr) (xs : List V), x = .ref a ∧ y = .ref b ∧ SqT K H a xs ∧ SqT K H b [] ∧ Q (.bl xs.isEmpty) H
theorem op_eqNilT (hu : X.A.units + 64 < cLine) : OpR X (compareOp .Eq) (rEqNilT X.K) := by
  intro pins s σ H x y v u Q I rx ry h
  obtain ⟨a, b, xs, rfl, rfl, hx, hy, q⟩ := h
  cases rx
  cases ry
  obtain ⟨its, r, pl, hz⟩ := I.tuple hx
  obtain ⟨its2, r2, pl2, hz2⟩ := I.tuple hy
  cases r2
  have u0 : X.A.units < cLine := by omega
  have e : xs.isEmpty = ((List.range (min its.toArray.size ([] : List Value).toArray.size)).all (fun _ => true) && its.toArray.size == ([] : List Value).toArray.size) := by
    rw [isEmpty_size r.length]
    simp
  rw [e] at q
  exact SeqAt.eq_tupleAt (e := fun _ => true) pl pl2 u0 (fun j _ h2 => absurd h2 (by simp)) ⟨.bl _, H, I, rfl, q⟩
theorem rc_dict_str {A : Around} {s : Shared} {l : Addr} {o : Obj} {es : Array DictEntry} {n : Nat} (b : Str) (u : Tok) (ho : s.heap.get? l = some o) (hc : o.cls = .type "dict") (hd : o.data = .dict es n) (hu : A.units < cLine) :
    SeqAt.RcAt A s (.ref l) (.str b u) false := fun prog w E Q h => by
  obtain ⟨cls, dd, data, sl⟩ := o
  simp only at hc hd
  subst hc hd
  exact SeqAt.rc_eq_decline_or (k := false) ⟨_, ho, rfl⟩ (typeIs_str s b u) (by decide) F.sub_str_dict F.slot_dict_eq F.slot_str_eq_refl
    (fun _ hq => call_meets F.slot_dict_eq ⟨_, ho, rfl⟩ F.entry_dict_eq (F.args_dict_eq_2 _ _) (dict_eq_declines_str l _ dd sl b u) ⟨ho, hq⟩)
    (fun _ hq => call_meets F.slot_str_eq_refl (typeIs_str s b u) F.entry_str_eq (F.args_str_eq_2 _ _) (str_eq_declines_dict b u l es n dd sl) ⟨ho, hq⟩)
    (fun _ hq => wpAny_of_eq (rfl : isSame (.ref l) (.str b u) = pure false) hq) (.inr hu) h
/-- x == "…", x any thing -/
def rEqS : R2 := fun x y H Q => ∃ z : Str, y = .str z ∧ Odd H x ∧ Q (.bl (decide (x = .str z))) H
theorem op_eqS (hu : X.A.units + 64 < cLine) : OpR X (compareOp .Eq) rEqS := by
  intro pins s σ H x y v u Q I rx ry h
  obtain ⟨z, rfl, od, q⟩ := h
  have u0 : X.A.units < cLine := by omega
  cases od with
  | non => exact op_eq pins s σ H _ _ v u Q I rx ry ⟨rfl, q⟩
  | bl b => exact op_eq pins s σ H _ _ v u Q I rx ry ⟨rfl, q⟩
  | int i => exact op_eq pins s σ H _ _ v u Q I rx ry ⟨rfl, q⟩
  | str y => exact op_eq pins s σ H _ _ v u Q I rx ry ⟨rfl, q⟩
  | lst h =>
    cases rx
    obtain ⟨t, rfl⟩ := ry
    obtain ⟨_, its, n, rv, e⟩ := I.hok _ _ h
    exact SeqAt.RcAt.list_str z t (items := its.toArray) ⟨_, e, rfl, _, rfl⟩ u0 _ _ _ _ ⟨.bl false, H, I, rfl, q⟩
  | tup h =>
    cases rx
    obtain ⟨t, rfl⟩ := ry
    obtain ⟨_, its, rv, o, e1, e2, n, e3⟩ := I.hok _ _ h
    exact SeqAt.RcAt.tuple_str z t ⟨o, e1, e2, n, e3⟩ u0 _ _ _ _ ⟨.bl false, H, I, rfl, q⟩
  | emp h =>
    cases rx
    obtain ⟨t, rfl⟩ := ry
    obtain ⟨_, sm, vs, kv, o, es, ep, e1, e2, e3, _, e4, _⟩ := I.hok _ _ h
    exact rc_dict_str z t e1 e2.1 e3 u0 _ _ _ _ ⟨.bl false, H, I, rfl, q⟩
/-- list(x): a new list, not the module table -/
def rListN (K : PySem.W.Frag) : List V → Hp → VK → Prop := fun xs H Q => ∃ p ys, xs = [.ref p] ∧ (SqL K H p ys ∨ SqT K H p ys) ∧ ∀ l, H l = none → l ≠ sysModules → Q (.ref l) (upd H l (.lst ys))
theorem call_listN : CallR X (.type "list") (rListN X.K) := by
  intro pins s σ H xs us Q I rv w
  obtain ⟨p, ys, rfl, seq, ask⟩ := w
  obtain ⟨u, rfl, ru⟩ := vals1 rv
  cases ru
  obtain ⟨its, rel, small, o, at_, n, dat, cl⟩ : ∃ (its : List Value), Vals ys its ∧ ys.length ≤ sizeLine ∧ ∃ (o : Obj), s.heap.get? p = some o ∧ ∃ n, o.data = .seq its.toArray n ∧ (o.cls = .type "list" ∨ o.cls = .type "tuple") := by
    rcases seq with seq | seq
    · obtain ⟨its, rel, pl, small⟩ := I.list seq
      obtain ⟨o, at_, cl, n, dat⟩ := pl.isList
      exact ⟨its, rel, small, o, at_, n, dat, .inl cl⟩
    · obtain ⟨its, rel, ⟨o, at_, cl, n, dat⟩, small⟩ := I.tuple seq
      exact ⟨its, rel, small, o, at_, n, dat, .inr cl⟩
  have len := rel.length
  have fits : its.toArray.size ≤ sizeLine := by rw [List.size_toArray]; omega
  have done : ∀ (G : Heap) (m : Nat), (∀ b z, s.heap.get? b = some z → G.get? b = some z) → G.get? s.heap.objs.size = some { cls := .type "list", dict := none, data := .seq its.toArray m, slots := #[] } → EP X pins σ Q (.ref s.heap.objs.size) { s with heap := G } := fun G m kp e =>
    ⟨.ref s.heap.objs.size, _, I.laid (t' := s.toks) (o := .lst ys) kp (Nat.le_refl _) ⟨small, its, m, rel, e⟩, rfl, ask _ (I.hok.fresh (Nat.le_refl _)) (Nat.ne_of_gt I.big)⟩
  rcases cl with cl | cl
  · exact call_list_seq p (.inl rfl) at_ cl dat done (by omega)
  · exact call_list_seq p (.inr rfl) at_ cl dat done (by omega)
end
end Bf

namespace Bf
open PySem PySem.Spec PyProof.Rows L2
section
variable {X : Cx}
/-- repr(x), x a list of any address -/
def rReprL : List V → Hp → VK → Prop := fun xs H Q => ∃ (a : Addr) (ys : List V) (P : Addr → Prop) (b : Bool) (ds : List PyData), xs = [.ref a] ∧ H a = some (.lst ys) ∧ ShAll H P b ys ds ∧ (PyData.list ds).showable = true ∧ (PyData.list ds).depth ≤ 60 ∧ (PyData.list ds).shown.length ≤ sizeLine ∧ Q (.str (PyData.list ds).shown) H
theorem call_reprL (hA : X.A.guards = some []) (hu : X.A.units + 64 < cLine) : CallR X (.builtin "repr") rReprL := by
  intro pins s σ H xs us Q I r h
  obtain ⟨a, ys, P, b, ds, rfl, ha, hs, sw, dp, sz, q⟩ := h
  obtain ⟨u, rfl, rx⟩ := vals1 r
  cases rx
  obtain ⟨_, its, n, rv, e⟩ := I.hok _ _ ha
  obtain ⟨as, rd, hp⟩ := Sh.readsAll I ds ys its hs rv
  have nodict : PyData.hasDictAll ds = true → sysModules ∉ as := fun hd z => by
    cases b with
    | false => rw [ShAll.nodict ds ys hs] at hd; cases hd
    | true => exact hp rfl _ z rfl
  have sz' : (listText (PyData.shownAll ds)).length ≤ sizeLine := by simpa only [PyData.shown] using sz
  have sw' : PyData.showableAll ds = true := by simpa only [PyData.showable] using sw
  obtain ⟨bs, hb, hk⟩ := ReprAllK.of_readsAll (prog := X.prog) (w := X.w) rd sw' nodict (fun t ht => Nat.le_trans (listText_mem_le ht) sz')
  have whole : Reads s.heap (.ref a) (.list ds) (a :: as) := .list e rfl rfl (by simpa using rd)
  have hna : a ∉ bs := not_mem_of_deeper whole (by simp only [PyData.depth]; omega) hb
  simp only [PyData.depth] at dp
  have fin : ∀ h' u tk, (∀ b o, s.heap.get? b = some o → h'.get? b = some o) → EP X pins σ Q (.str (PyData.list ds).shown u) { s with heap := h', toks := tk } := fun h' u tk k => ⟨.str (PyData.list ds).shown, H, I.kept k, ⟨u, rfl⟩, q⟩
  simp only [PyData.shown] at fin
  refine call_repr_slot (by omega) ⟨_, e, rfl⟩ F.slot_list_repr.toG ?_
  cases its with
  | nil =>
    cases rd
    simp only [PyData.shownAll, listText_nil] at fin
    exact call_list_repr_empty ⟨_, e, rfl⟩ e rfl ⟨_, _, rfl, fin s.heap _ _ fun _ _ e => e⟩
  | cons x l =>
    exact call_list_reprK e rfl rfl hna (by simpa using hk.length_eq) (fun i y e => hk.item i y (by simpa using e)) hA (fun b _ => Clear.nil b) (by show X.A.units + 1 + _ < cLine; omega) (fun _ _ e => e) (fun h' u tk hk => ⟨_, _, rfl, fin h' u tk hk⟩) sz'
end
end Bf

set_option linter.all false
set_option maxHeartbeats 4000000
/-! Own rules: exceptions of own classes as values: made, asked by isinstance, written by repr. -/
namespace PySem.W
open PySem PySem.Spec PySem.Calls PyProof.Rows
section
variable {prog : Program} {w : World} {A : Around} {E : Value → Shared → Prop} {s : Shared} {K : Frag} {x D : Addr} {ox : Obj} {od : Option Obj}
theorem bf_findObj_data {C : Addr} {name : Str} {a g : Value} (hc : (clsIn K C).isSome = true) (ha : findIn K (.ref C) name = some (some a)) (hg : specialIn K a "__get__" = some (some g)) (ht : takesIn K a = some true) : findObj K C od name = some (.bind g a) := by
  obtain ⟨cd, hc⟩ := Option.isSome_iff_exists.mp hc
  unfold findObj
  rw [hc, Option.bind_some, ha, Option.bind_some]
  simp [hg, ht]
theorem bf_kin_class {Q : Option Value → Shared → Prop} (hga : findIn K (.ref D) "__getattribute__" = some (some (.builtin "BaseException.__getattribute__"))) (hgt : findIn K (.ref D) "__getattr__" = some none) (hsub : subIn K (.ref D) (.type "BaseException") = some true)
    (hdct : hasDictIn K D = true) (ha : findIn K (.ref D) "__class__" = some (some (.builtin "object.__class__")))
    (hn : specialIn K (.builtin "object.__class__") "__get__" = some (some (.builtin "getset_descriptor.__get__"))) (htk : takesIn K (.builtin "object.__class__") = some true) (hm : mroIn K D (.type "object") = some true)
    (X : K.In s.heap) (I : InstAt s.heap x ox D od) (h : Q (some (.ref D)) { s with toks := s.toks + 1 }) : wpAny (model prog w) A (getAttr? (.ref x) "__class__") Q E s := by
  have hf : findObj K D od "__class__" = some (.bind (.builtin "getset_descriptor.__get__") (.builtin "object.__class__")) := bf_findObj_data (by obtain ⟨cd, hc, _⟩ := any_some hdct; rw [hc]; rfl) ha hn htk
  obtain ⟨hp, g, d, t, os⟩ := s
  have L0 := I.type (M := model prog w)
  have L1 := looks_findIn (M := model prog w) X hga
  have L2 := looks_findIn (M := model prog w) X hgt
  have L3 := looks_find (M := model prog w) X I hf
  have sub : Looks (model prog w) hp (isInstance (.ref x) (.type "BaseException")) true := L0.andThen (looks_subIn X hsub)
  have hx0 : (false && onTheHeap (Value.builtin "BaseException.__getattribute__")) = false := rfl
  have hx2 : (Value.builtin "BaseException.__getattribute__" == Value.builtin "object.__getattribute__") = false := by decide +kernel
  have hx1 : (onTheHeap (Value.ref D) && Value.builtin "BaseException.__getattribute__" == Value.builtin "object.__getattribute__") = false := by rw [hx2]; rfl
  unfold getAttr? getAttrBy? getAttrBy
  refine wpAny_bind (wpAny_mkText (wpAny_bind (wpAny_attempt (wpAny_holding (wpAny_bind (L0.at (wpAny_bind (L1.at ?_))))))))
  show wpAny _ _ (if (onTheHeap (Value.ref D) && Value.builtin "BaseException.__getattribute__" == Value.builtin "object.__getattribute__") = true then _ else _) _ _ _
  rw [hx1, if_neg Bool.false_ne_true]
  unfold getAttrByItsOwn hookBefore
  refine wpAny_bind ?_
  rw [if_pos (show onTheHeap (Value.ref D) = true from rfl)]
  refine L2.at ?_
  refine wpAny_bind (wpAny_attempt (wpAny_holding ?_))
  unfold callGetattribute
  rw [hx0, if_neg Bool.false_ne_true]
  unfold boundAndCalled
  rw [PySem.F.excAttr_ValueError.ga.bind (.ref x)]
  refine wpAny_bind (wpAny_pure ?_)
  show wpAny _ _ (call (.builtin "BaseException.__getattribute__") [.ref x, .str "__class__" t]) _ _ _
  refine wpAny_call (codeAny_call_builtin PySem.F.excAttr_ValueError.ga.plain PySem.F.entry_bexc_ga ?_)
  refine @check_slot (model prog w) _ _ ⟨hp, g, d, t + 1, os⟩ "BaseException.__getattribute__" "BaseException" "__getattribute__" (.ref x) [.str "__class__" t] [] _ (by decide +kernel) (by decide +kernel) sub (PySem.F.args_bexc_ga (.ref x) (.str "__class__" t)) ?_
  unfold Builtin.«object.__getattribute__»
  refine wpAny_bind (wpAny_of_eq (a := ((Value.ref x : Value), [Value.str "__class__" t])) (by first | rfl | (simp only [slotArgs]; rfl)) ?_)
  refine wpAny_bind (wpAny_pure (wpAny_bind (L0.at (wpAny_bind (L3.at ?_)))))
  show wpAny _ _ (holding [Value.builtin "object.__class__"] (call (.builtin "getset_descriptor.__get__") [.builtin "object.__class__", .ref x, .ref D]) >>= ret) _ _ _
  refine wpAny_bind (wpAny_holding (wpAny_call (class_get (s := ⟨hp, g, d, t + 1, os⟩) (ox := ox) (od := od) X I hm ?_)))
  refine wpAny_pure ?_
  show wpAny _ _ (handedOut (.ref D)) _ _ _
  rw [handedOut_of (v := .ref D) rfl]
  first
    | exact wpAny_pure (wpAny_pure h)
    | exact wpAny_pure h
    | exact wpAny_pure (wpAny_bind (wpAny_pure (wpAny_pure h)))
theorem bf_kitx_exc (hga : findIn K (.ref D) "__getattribute__" = some (some (.builtin "BaseException.__getattribute__"))) (hgt : findIn K (.ref D) "__getattr__" = some none) (hsub : subIn K (.ref D) (.type "BaseException") = some true) (hdct : hasDictIn K D = true) (ha : findIn K (.ref D) "__class__" = some (some (.builtin "object.__class__")))
    (hn : specialIn K (.builtin "object.__class__") "__get__" = some (some (.builtin "getset_descriptor.__get__"))) (htk : takesIn K (.builtin "object.__class__") = some true) (hm : mroIn K D (.type "object") = some true) :
    KitX K (.ref x) (.ref D) (fun h => InstAt h x ox D od) where
  ty := fun _ _ _ I => I.type
  it := fun _ _ X _ => by
    obtain ⟨cdD, hcD, _⟩ := any_some hdct
    unfold clsIn at hcD
    split at hcD
    · rename_i c' d' cd' sl' ho
      intro A' Q' E' s' k q
      unfold isType loadHead
      exact wpAny_bind (wpAny_loadPart (k _ _ (X _ _ ho)) (wpAny_pure q))
    · cases hcD
  ne := fun h tp dd its n sl X htp => by
    obtain ⟨cdD, hcD, _⟩ := any_some hdct
    refine Bool.eq_false_iff.mpr fun q => ?_
    have e : D = tp := Value.ref.inj (beq_iff_eq.mp q)
    subst e
    unfold clsIn at hcD
    split at hcD
    · rename_i c' d' cd' sl' ho
      have z := (X _ _ ho).symm.trans htp
      cases z
    · cases hcD
  ca := fun X I k => bf_kin_class hga hgt hsub hdct ha hn htk hm X I k
end
end PySem.W

namespace PySem
open Sem (wp)
open Builtin Builtin.Str Builtin.BaseException Builtin.Exceptions
open PySem.W (Looks Frag findIn subIn clsIn looks_findIn looks_subIn looks_clsIn)
section
variable {prog : Program} {w : World} {A : Around} {E : Value → Shared → Prop} {s : Shared} {K : Frag} {C e t0 : Addr} {cd : ClassData}
theorem bf_typeNameWhole {M : Model} {Q : String → Shared → Prop} (x : ExcC K C e t0 s.heap) (hc : clsIn K C = some cd) (hq : Q cd.name.toString s) : wpAny M A (typeNameOfWhole (.ref e)) Q E s := by
  unfold typeNameOfWhole shownTypeOf
  refine wpAny_bind (wpAny_bind (x.LT.here ?_))
  rw [if_neg (show ¬(Value.ref C == Value.type "builtin_function_or_method") = true from fun z => nomatch (beq_iff_eq.mp z))]
  refine wpAny_pure ?_
  unfold typeNameWhole
  exact wpAny_bind ((looks_clsIn x.1 hc).here (wpAny_pure hq))
/-- what repr writes of an own exception with one text -/
def excTold (cd : ClassData) (m : Str) : Str := Str.ofString ((cd.name.toString.cutAt '.').getLastD "") ++ Str.ofString "(" ++ reprText m ++ Str.ofString ")"
theorem bf_bexcRepr {m : Str} {tk : Tok} {Q : Fin → Shared → Prop} (x : ExcC K C e t0 s.heap) (hc : clsIn K C = some cd) (ht : s.heap.TupAt t0 [.str m tk])
    (hq : Q (.done (.ret (.str (excTold cd m) (s.toks + 1)))) { s with toks := s.toks + 1 + 1 }) (hsz : (excTold cd m).length ≤ sizeLine) : wpAny (model prog w) A (Builtin.«BaseException.__repr__» ⟨[.ref e], []⟩) Q E s := by
  have hsz2 : (Str.ofString ((cd.name.toString.cutAt '.').getLastD "") ++ Str.ofString "(" ++ reprText m ++ Str.ofString ")").length ≤ sizeLine := hsz
  have e1 := hsz2
  have eP : (Str.ofString "(").length = 1 := by rw [ofString_length]; rfl
  rw [strLen_append, strLen_append, strLen_append, eP] at e1
  have hsz1 : (reprText m).length ≤ sizeLine := by omega
  have hpile : 0 + ((Str.ofString ((cd.name.toString.cutAt '.').getLastD "")).length + 1) ≤ sizeLine := by omega
  unfold Builtin.«BaseException.__repr__» Builtin.bexcReprAt
  repeat (first | with_reducible refine bf_typeNameWhole x hc ?_ | with_reducible refine bexcArgs_C x ht ?_ | rw [pyReprUnder_leaf (v := .str m tk) hpile (by intro a; nofun)] | with_reducible refine wpAny_pyRepr_str ?_ | wp_step)
  exact hq
theorem bf_call_bexcRepr {m : Str} {tk : Tok} {Q : Value → Shared → Prop} (x : ExcC K C e t0 s.heap) (hc : clsIn K C = some cd) (hB : subIn K (.ref C) (.type "BaseException") = some true) (ht : s.heap.TupAt t0 [.str m tk])
    (hq : Q (.str (excTold cd m) (s.toks + 1)) { s with toks := s.toks + 1 + 1 }) (hsz : (excTold cd m).length ≤ sizeLine) : wpAny (model prog w) A (call (.builtin "BaseException.__repr__") [.ref e]) Q E s := by
  refine wpAny_call (codeAny_call_builtin F.excStr_Exception.repr.plain F.entry_bexc_repr (@PySem.W.check_slot (model prog w) _ _ s "BaseException.__repr__" "BaseException" "__repr__" (.ref e) [] [] _ (by decide +kernel) (by decide +kernel) (x.LI hB) (F.args_bexc_repr _) ?_))
  exact wpAny_mono (bf_bexcRepr x hc ht (Q := fun fin s' => ∃ v, fin = .done (.ret v) ∧ Q v s') ⟨_, rfl, hq⟩ hsz) (fun fin s' hv => by obtain ⟨v, rfl, q⟩ := hv; exact q) fun _ _ z => z
theorem bf_callSpecialIfBound {v tp : Value} {name : Str} {i : String} {Q : Option Value → Shared → Prop} (hT : Looks (model prog w) s.heap (typeOf v) tp) (hf : Looks (model prog w) s.heap (typeLookup tp name) (some (.builtin i))) (hb : bindSpecial (.builtin i) v = pure (.builtin i, [v]))
    (hc : wpAny (model prog w) A (call (.builtin i) [v]) (fun r => Q (some r)) E s) : wpAny (model prog w) A (callSpecialIfBound? v name) Q E s := by
  simp only [callSpecialIfBound?, bindSpecialIfBound?]
  refine wpAny_holding (wpAny_bind (wpAny_bind ?_))
  unfold specialOf
  refine wpAny_bind (hT.here (hf.here ?_))
  simp only [hb]
  refine wpAny_bind (wpAny_askSetting (wpAny_ite ?_))
  have fin : wpAny (model prog w) A (call (.builtin i) ([v] ++ []) >>= fun v => pure (some v)) Q E s :=
    wpAny_bind (wpAny_mono hc (fun v s' h' => wpAny_pure h') fun _ _ h' => h')
  split
  · exact wpAny_bind (wpAny_pure (wpAny_pure fin))
  · exact wpAny_tryCatch (wpAny_bind (wpAny_pure (wpAny_pure fin)))
theorem bf_call_repr {m : Str} {tk : Tok} {Q : Value → Shared → Prop} (hu : A.units + 1 < cLine) (x : ExcC K C e t0 s.heap) (hc : clsIn K C = some cd) (hB : subIn K (.ref C) (.type "BaseException") = some true)
    (hs : findIn K (.ref C) "__repr__" = some (some (.builtin "BaseException.__repr__"))) (ht : s.heap.TupAt t0 [.str m tk])
    (h : Q (.str (excTold cd m) (s.toks + 1)) { s with toks := s.toks + 1 + 1 }) (hsz : (excTold cd m).length ≤ sizeLine) : wpAny (model prog w) A (call (.builtin "repr") [.ref e]) Q E s := by
  have hf : Looks (model prog w) s.heap (typeLookup (.ref C) "__repr__") (some (.builtin "BaseException.__repr__")) := looks_findIn x.1 hs
  refine Calls.call_function_entry F.kind_repr F.plain_repr F.entry_repr (F.args_repr1 _) ?_
  unfold Builtin.«repr»
  refine wpAny_bind (m := oneArg "repr" _) (wpAny_pure ?_)
  refine wpAny_bind (wpAny_cRoomFor (show A.in1.units < cLine from hu) ?_)
  refine wpAny_bind (show wpAny _ _ (specialOf (.ref e) (Str.ofString "__repr__")) _ _ _ from ?_)
  unfold specialOf
  refine wpAny_bind (x.LT.here (hf.here ?_))
  refine wpAny_bind (m := callSpecialIfBound? (.ref e) (Str.ofString "__repr__")) (bf_callSpecialIfBound x.LT hf (F.excStr_Exception.repr.bind _) (bf_call_bexcRepr x hc hB ht ?_ hsz))
  refine wpAny_bind (wpAny_isInstance (T := "str") (b := true) rfl isSubtype_str_str ?_)
  exact wpAny_pure ⟨_, rfl, h⟩
end
end PySem

set_option linter.all false
set_option maxHeartbeats 4000000
/-! Own rules: exceptions of own classes as values: made. -/
namespace PySem
namespace HandSPX
section
variable {prog : Program} {w : World} {A : Around} {E : Value → Shared → Prop} {R : Result → Shared → Prop} {h : Heap} {g : Array GenState} {d : Drawn} {t : Nat} {os : OsState}
variable {nm q : Str} {C N : Addr} {bs bm bmB : List Value} {hdct : Bool} {sn : List Str} {sub : List Value} {ab : Bool} {col : Option Bool} {dd : Option Addr} {k0 k1 k2 k3 k5 : Option Value} {B newId initId : String}
/-- as init_base, the new args told -/
theorem init_baseT (F : ExcBaseFacts B newId initId bmB) (hT : ∀ X : String, bm.contains (.type X) = bmB.contains (.type X)) {e t0 : Addr} {rest : List Value}
    (hC : h.get? C = some (excClassObj nm q C N bs bm hdct sn sub ab col dd k0 k1 k2 k3 k5 newId)) (he : h.get? e = some (excO C t0)) (hrest : rest.length ≤ sizeLine)
    (hq : ∀ h' t1, (∀ b o, b ≠ e → h.get? b = some o → h'.get? b = some o) → h.objs.size ≤ t1 → t1 ≠ e → h'.get? e = some (excO C t1) → (∃ o n, h'.get? t1 = some o ∧ o.cls = .type "tuple" ∧ o.data = .seq rest.toArray n) → R (.ok (.ret .none)) ⟨h', g, d, t, os⟩) :
    codeAny (model prog w) A (.call (.builtin initId) ⟨.ref e :: rest, []⟩) R ⟨h, g, d, t, os⟩ := by
  refine codeAny_call_builtin F.init.plain F.initEntry (check_init_own F hT hC he rfl ?_)
  wp_walk
  have ne : h.objs.size ≠ e := Nat.ne_of_gt (Heap.lt_size he)
  refine hq _ h.objs.size (fun b o hb ho => ?_) (Nat.le_refl _) ne ?_ ?_
  · rw [Heap.get?_update_other _ _ (Ne.symm hb)]
    exact Heap.get?_push_of_some _ ho
  · rw [Heap.get?_update_self _ (Heap.get?_push_of_some _ he) rfl]
    rfl
  · refine ⟨{ cls := Value.type "tuple", data := Data.seq rest.toArray }, _, ?_, rfl, rfl⟩
    rw [Heap.get?_update_other _ _ (Ne.symm ne)]
    exact Heap.get?_push_size _ rfl
end
end HandSPX
end PySem

namespace Bf
open PySem PySem.Spec PyProof.Rows L2
/-- at e: an exception of the class at C, its dict (none as yet | at d), its args at t -/
def exoT (e C : Addr) (d : Option Addr) (t : Addr) : HO := .ext fun h => h.get? e = some ({ cls := .ref C, dict := d, data := .fields #[.ref t, .none, .none, .none, .bool false, .none] } : Obj)
theorem exoT_own {e C t x : Addr} {d : Option Addr} : exoT e C d t ≠ .own x := fun z => by
  have z' : HO.ext _ = HO.own x := z
  cases z'
theorem exoT_tup {e C t : Addr} {d : Option Addr} {xs : List V} : exoT e C d t ≠ .tup xs := fun z => by
  have z' : HO.ext _ = HO.tup xs := z
  cases z'
theorem exoT_frz {e C t : Addr} {d : Option Addr} {o : Obj} {u : HO} : exoT e C d t ≠ .frz o u := fun z => by
  have z' : HO.ext _ = HO.frz o u := z
  cases z'
theorem exoT_tbl {e C t : Addr} {d : Option Addr} {ps : Array Value} : exoT e C d t ≠ .tbl ps := fun z => by
  have z' : HO.ext _ = HO.tbl ps := z
  cases z'
theorem exoT_ok {P : Program} {w : World} {H : Hp} {h : Heap} {e C t : Addr} {d : Option Addr} (he : h.get? e = some ({ cls := .ref C, dict := d, data := .fields #[.ref t, .none, .none, .none, .bool false, .none] } : Obj)) : ObjOk P w H h e (exoT e C d t) :=
  ⟨he, ⟨_, he⟩, fun h1 h2 z k => k _ z⟩
theorem exoT_at {P : Program} {w : World} {H : Hp} {h : Heap} {e C t : Addr} {d : Option Addr} (hok : HOk P w H h) (he : H e = some (exoT e C d t)) : h.get? e = some ({ cls := .ref C, dict := d, data := .fields #[.ref t, .none, .none, .none, .bool false, .none] } : Obj) := by
  have x : ObjOk P w H h e (.ext fun h => h.get? e = some ({ cls := .ref C, dict := d, data := .fields #[.ref t, .none, .none, .none, .bool false, .none] } : Obj)) := hok e _ he
  exact x.1

section
variable {X : Cx} {pins : List (Addr × Obj)} {σ : L2.St} {H : Hp} {s : Shared} {a C t0 dx : Addr} {f : Str} {y : V} {u : Value} {fs : List (Str × V)} {Q : Unit → Shared → Prop} {E : Value → Shared → Prop} {A : Around}
/-- a new object beside a changed one -/
theorem two_un {h' : Heap} {o1 o2 oa : HO} (hok : HOk X.prog X.w H s.heap) (ea : H a = some oa) (hdn : s.heap.objs.size ≤ dx) (hx : ∃ o, h'.get? a = some o) (k : ∀ b o, b ≠ a → s.heap.get? b = some o → h'.get? b = some o)
    (tu : ∀ xs, oa ≠ .tup xs) (fr : ∀ o u, oa ≠ .frz o u) (tb : ∀ ps, oa ≠ .tbl ps) : Un X.fs [] H (upd (upd H dx o1) a o2) s.heap h' := by
  have hnd : H dx = none := hok.fresh hdn
  have nd : ∀ {b : Addr} {o : Obj}, s.heap.get? b = some o → b ≠ dx := fun {b o} q => Nat.ne_of_lt (Nat.lt_of_lt_of_le (Heap.lt_size q) hdn)
  have na : ∀ {b : Addr}, H b = none → b ≠ a := fun {b} n z => by
    rw [z, ea] at n
    cases n
  exact {
    keep := fun b o q n _ _ => k b o (na n) q
    slot := fun b o q n _ _ => ⟨o.slots, k b o (na n) q⟩
    free := fun b o q n _ => by rw [upd_ne (na n), upd_ne (nd q)]; exact n
    there := fun b o q _ => by
      by_cases hb : b = a
      · rw [hb]; exact hx
      · exact ⟨o, k b o hb q⟩
    tups := fun b xs q => by rw [upd_ne (at_ne ea q (tu xs)), upd_ne (ne_of_none q hnd)]; exact q
    frzs := fun b o v q => by rw [upd_ne (at_ne ea q (fr o v)), upd_ne (ne_of_none q hnd)]; exact q
    tbls := fun b ps q => ⟨#[], by rw [upd_ne (at_ne ea q (tb ps)), upd_ne (ne_of_none q hnd), q]; simp⟩ }
/-- what stands beside stays -/
theorem two_ok {h' : Heap} {o1 o2 oa : HO} (hok : HOk X.prog X.w H s.heap) (ea : H a = some oa) (hdn : s.heap.objs.size ≤ dx) (k : ∀ b o, b ≠ a → s.heap.get? b = some o → h'.get? b = some o)
    (ow : ∀ x, oa ≠ .own x) (tu : ∀ xs, oa ≠ .tup xs) (q1 : ∀ H', ObjOk X.prog X.w H' h' dx o1) (q2 : ∀ H', ObjOk X.prog X.w H' h' a o2) : HOk X.prog X.w (upd (upd H dx o1) a o2) h' := fun b o q => by
  have hnd : H dx = none := hok.fresh hdn
  by_cases hb : b = a
  · subst hb
    rw [upd_same] at q
    cases q
    exact q2 _
  · rw [upd_ne hb] at q
    by_cases hd : b = dx
    · subst hd
      rw [upd_same] at q
      cases q
      exact q1 _
    · rw [upd_ne hd] at q
      exact (hok b o q).stay (fun c v hc z => k c v (by
          rcases hc with hc | hc
          · rw [hc]
            exact hb
          · exact at_ne ea hc (ow _)) z)
        (fun c hc => by rw [upd_ne (at_ne ea hc (ow _)), upd_ne (ne_of_none hc hnd)]; exact hc) (fun c xs hc => by rw [upd_ne (at_ne ea hc (tu xs)), upd_ne (ne_of_none hc hnd)]; exact hc)
/-- self.f = y, the first one -/
theorem ostT_new (T : OexC X.K C) (I : L2.Inv X pins σ H s) (e : H a = some (exoT a C none t0)) (hno : PySem.W.findIn X.K (.ref C) f = some none) (ry : RelV y u)
    (h : ∀ dx s', H dx = none → dx ≠ a → L2.Inv X pins σ (upd (upd H dx (exd dx [(f, y)])) a (exoT a C (some dx) t0)) s' → Q () s') : wpAny (model X.prog X.w) A (setAttr (.ref a) f u) Q E s := by
  obtain ⟨nm, q, N, bs, bm, sn, sub, ab, col, dd, k0, k1, k2, k3, k5, hC, hbm⟩ := T.cls
  have hcl : PySem.W.clsIn X.K C = some { name := nm, bases := bs, mro := .ref C :: bm, ns := N, qualname := q, hasDict := true, slotNames := sn, subclasses := sub, abstract := ab, collection := col, hasDel := false } := by unfold PySem.W.clsIn; rw [hC] <;> rfl
  have ho := exoT_at I.hok e
  obtain ⟨hp, g, d, t, os⟩ := s
  refine PySem.W.set_plain I.kIn (ox := { cls := .ref C, dict := none, data := .fields #[.ref t0, .none, .none, .none, .bool false, .none] }) (od := none) ⟨ho, rfl, rfl, trivial⟩ T.sa ?_
  refine PySem.HandSPX.exc_osa I.kIn ho hcl (show PySem.HandSPX.refsVE (.ref C :: bm) = true from hbm) rfl hno (fun h' tk' dx k dn dne hx hn => ?_)
  exact h dx _ (I.hok.fresh dn) dne (I.un (t' := tk') (two_un I.hok e dn ⟨_, hx⟩ k (fun _ => exoT_tup) (fun _ _ => exoT_frz) fun _ => exoT_tbl)
    (two_ok I.hok e dn k (fun _ => exoT_own) (fun _ => exoT_tup) (fun _ => exd_ok hn (relO_put (fs := []) ry fun g => True.intro)) fun _ => exoT_ok hx))
/-- ValueError.__init__(self, ..): the args are laid anew -/
theorem oinitT {us : List Value} {vs : List V} {Q : Value → Shared → Prop} (T : OexC X.K C) (I : L2.Inv X pins σ H s) (e : H a = some (exoT a C none t0)) (rv : Vals vs us) (hl : us.length ≤ sizeLine)
    (h : ∀ t1 s', H t1 = none → t1 ≠ a → L2.Inv X pins σ (upd (upd H t1 (.tup vs)) a (exoT a C none t1)) s' → Q .none s') : wpAny (model X.prog X.w) A (call (.builtin "ValueError.__init__") (.ref a :: us)) Q E s := by
  obtain ⟨nm, q, N, bs, bm, sn, sub, ab, col, dd, k0, k1, k2, k3, k5, hC, hbm⟩ := T.cls
  have ho := exoT_at I.hok e
  obtain ⟨hp, g, d, t, os⟩ := s
  refine wpAny_call (PySem.HandSPX.init_baseT F.excBase_ValueError (fun Y => PySem.HandSPX.refsVE_contains Y bm hbm) (I.kIn _ _ hC) ho hl fun h' t1 k dn dne hx ht => ?_)
  obtain ⟨o, n, g1, g2, g3⟩ := ht
  exact h t1 _ (I.hok.fresh dn) dne (I.un (t' := t) (two_un I.hok e dn ⟨_, hx⟩ k (fun _ => exoT_tup) (fun _ _ => exoT_frz) fun _ => exoT_tbl)
    (two_ok I.hok e dn k (fun _ => exoT_own) (fun _ => exoT_tup) (fun _ => ⟨by rw [Paired.length rv]; exact hl, us, rv, o, g1, g2, n, g3⟩) fun _ => exoT_ok hx))
end

/-! ### readings and rules -/
/-- ValueError.__init__(self, ..) -/
def tVeIT (K : PySem.W.Frag) (ta : TA) : TE := fun σ H Q => ta σ H fun vs H1 => ∃ (a C t : Addr) (ws : List V), vs = .ref a :: ws ∧ ws.length ≤ 1000 ∧ OexC K C ∧ H1 a = some (exoT a C none t) ∧
  ∀ t1, H1 t1 = none → t1 ≠ a → Q .non (upd (upd H1 t1 (.tup ws)) a (exoT a C none t1))
/-- self.f = e, the first field -/
def tOstT (K : PySem.W.Frag) (f : Str) (to te : TE) : TS := fun D σ H => te σ H fun y H1 => to σ H1 fun x H2 => ∃ a C t : Addr, x = .ref a ∧ OexC K C ∧ PySem.W.findIn K (.ref C) f = some none ∧
  H2 a = some (exoT a C none t) ∧ ∀ dx, H2 dx = none → dx ≠ a → D.nx σ (upd (upd H2 dx (exd dx [(f, y)])) a (exoT a C (some dx) t))
/-- C(e, ..) as a value, C's own __init__ keeping sp -/
def tMkT (C : Addr) (sp : Sp) (ta : TA) : TE := fun σ H Q => ta σ H fun vs H1 => vs.length ≤ 1000 ∧ ∀ a t, H1 a = none → sp (.ref a :: vs) (upd H1 a (exoT a C none t)) (fun v H2 => v = .non ∧ Q (.ref a) H2) (fun _ _ _ => False)
section
variable {X : Cx} {o e : Expr} {es : List Expr} {to te : TE} {ta : TA} {f : Str} {p p' p1 p2 pos : Pos}
theorem pe_veinitT {pl : Sem Bool} (hg : Gl X "ValueError") (hm : X.mg "ValueError" = none) (vV : PySem.W.findCls X.K (.type "ValueError") (.type "type") "__init__" = some (.val (.builtin "ValueError.__init__"))) (ha : PA X (e :: es) ta)
    (hc : eval (.Call (.Attribute (.Name "ValueError" p1) "__init__" p2) (e :: es) [] pos) X.env = (do
      let ov ← eval (.Name "ValueError" p1) X.env
      standAt p2.atName
      let (f, first) ← holding [ov] (getMethod ov "__init__" pl)
      callWith pos f first (backTo pos (starEach (e :: es) X.env)) (backToKw pos (keywordEach [] X.env))) := by rfl)
    (he : starEach (e :: es) X.env = (false, eval e X.env) :: starEach es X.env := by rfl) (hpl : (backTo pos (starEach es X.env)).any (·.1) = false := by rfl) :
    PE X (.Call (.Attribute (.Name "ValueError" p1) "__init__" p2) (e :: es) [] pos) (tVeIT X.K ta) := by
  refine ⟨fun pins s σ H Q I h => ?_⟩
  refine PySem.W.methodCall_KW (ld_blt I hg hm PyProof.Rows.Boot.«ValueError» ?_ (by decide) (by decide)) hc
  obtain ⟨m, fr⟩ := I.fr
  refine PySem.W.method_type fr I.ok.mod.kin PySem.OEX.typ_VE (by decide +kernel) vV (by decide +kernel) ?_
  show wpAny _ _ (callWith pos (Value.builtin "ValueError.__init__") [] (backTo pos (starEach (e :: es) X.env)) []) _ _ _
  refine PyProof.Rows.callWith_method1 (thn (ha.run pos pins _ σ H _ (I.tok _) h) fun us s1 ⟨vs, H1, I1, r1, a, C, t, ws, ev, hl, T, ea, q⟩ => ?_) he hpl
  subst ev
  cases r1 with
  | @cons _ u0 _ ur ra rw' =>
    obtain rfl : u0 = Value.ref a := ra
    have hlen : ur.length ≤ sizeLine := by
      rw [← Paired.length rw', sizeLine_eq]
      omega
    exact oinitT T I1 ea rw' hlen fun t1 s' n ne J => ⟨.non, _, J, rfl, q t1 n ne⟩
theorem ps_ostT (ho : PE X o to) (he : PE X e te) (hs : swapsWith e (some (.Attribute o f p')) pos.line X.env = pure false := by rfl) : PS X (.Assign [.Attribute o f p'] e pos) (tOstT X.K f to te) := by
  refine ⟨fun pins s σ H D I h => ?_⟩
  refine plainObj_wpAny_Assign_Attribute (thn (he.run pins s σ H _ I h) fun v s1 ⟨y, H1, I1, r1, q1⟩ => thn (ho.run pins s1 σ H1 _ I1 q1) fun u s2 ⟨x, H2, I2, r2, a, C, t, ex, T, hno, ea, q⟩ => ?_) hs
  subst ex
  obtain rfl : u = Value.ref a := r2
  exact ostT_new T I2 ea hno r1 fun dx s' n ne J => ⟨σ, _, J, q dx n ne⟩
theorem pe_oexT {CX : CXT} {x : Str} {C fI : Addr} {k : Nat} {fd : FuncData} {ps : List Str} {sp : Sp} (T : OexC X.K C) (iC : PySem.W.findIn X.K (.ref C) "__init__" = some (some (.ref fI))) (tI : PySem.W.typeIn X.K (.ref fI) = some (.type "function"))
    (F1 : FnOk X.prog X.w X.K X.mg X.base CX k fI fd ps sp) (hr : Room (k + 1) X.A) (hb : Binds X.K fd ps []) (hx : Passes CX X (fun _ _ _ => False)) (hg : Gl X x) (hm : X.mg x = some (.ref C)) (ha : PA X (e :: es) ta)
    (hdb : (x == ("__debug__" : Str)) = false := by decide) (he : starEach (e :: es) X.env = (false, eval e X.env) :: starEach es X.env := by rfl) (hpl : (backTo pos (starEach es X.env)).any (·.1) = false := by rfl) :
    PE X (.Call (.Name x p) (e :: es) [] pos) (tMkT C sp ta) := by
  refine ⟨fun pins s σ H Q I h => ?_⟩
  obtain ⟨nm, q, N, bs, bm, sn, sub, ab, col, dd, k0, k1, k2, k3, k5, hC, hbm⟩ := T.cls
  refine wpAny_Call_Name_kw (ld_glob I hg hm ?_ hdb)
  refine PySem.W.callWith_K (h₀ := X.base) I.ok.mod.kin T.kC (thn (ha.run pos pins s σ H _ I h) fun us s1 ⟨vs, H1, I1, r1, hz, q1⟩ => ⟨I1.kIn, ?_⟩) he hpl
  show wpAny _ _ (call (.ref C) us) _ _ _
  obtain ⟨hp, g, dr, tk, os⟩ := s1
  have hsz : hp.objs.size ≤ hp.objs.size + 1 := Nat.le_succ _
  have hn : H1 (hp.objs.size + 1) = none := I1.hok.fresh hsz
  have hq := q1 (hp.objs.size + 1) hp.objs.size hn
  have kk : ∀ b o, hp.get? b = some o → ((hp.push (PySem.W.kdv_tup us)).push (PySem.HandSPX.excO C hp.objs.size)).get? b = some o := fun b o e => Heap.get?_push_of_some _ (Heap.get?_push_of_some _ e)
  have hget : ((hp.push (PySem.W.kdv_tup us)).push (PySem.HandSPX.excO C hp.objs.size)).get? (hp.objs.size + 1) = some (PySem.HandSPX.excO C hp.objs.size) := by heap_get
  have I2 : L2.Inv X pins σ (upd H1 (hp.objs.size + 1) (exoT (hp.objs.size + 1) C none hp.objs.size)) ⟨(hp.push (PySem.W.kdv_tup us)).push (PySem.HandSPX.excO C hp.objs.size), g, dr, tk, os⟩ :=
    I1.laid (t' := tk) (a := hp.objs.size + 1) (o := exoT (hp.objs.size + 1) C none hp.objs.size) (h' := (hp.push (PySem.W.kdv_tup us)).push (PySem.HandSPX.excO C hp.objs.size)) kk hsz (exoT_ok hget)
  have r2 : Vals (V.ref (hp.objs.size + 1) :: vs) (Value.ref (hp.objs.size + 1) :: us) := .cons rfl r1
  have hl : (Value.ref (hp.objs.size + 1) :: us ++ []).length = ps.length := by
    have e := r2.length
    rw [F1.len _ _ _ _ hq] at e
    rw [List.append_nil]
    exact e.symm
  have hus : us.length ≤ sizeLine := by
    rw [← Paired.length r1, sizeLine_eq]
    omega
  have bd : BindsTo ⟨(hp.push (PySem.W.kdv_tup us)).push (PySem.HandSPX.excO C hp.objs.size), g, dr, tk, os⟩ fd ⟨Value.ref (hp.objs.size + 1) :: us, []⟩ (ps.zip (Value.ref (hp.objs.size + 1) :: us)) := by
    have z := hb _ (Value.ref (hp.objs.size + 1) :: us) I2.kIn hl
    rw [List.append_nil] at z
    exact z
  refine wpAny_call (PySem.HandSPX.call_own F.excBase_ValueError (fun Y => PySem.HandSPX.refsVE_contains Y bm hbm) (I1.kIn _ _ hC) (PySem.W.looks_findIn I1.kIn iC) (fun self => PySem.W.bind_fn I1.kIn self tI) hus
    (codeAny_mono (F1.run _ X.stack _ _ ⟨Value.ref (hp.objs.size + 1) :: us, []⟩ (Value.ref (hp.objs.size + 1) :: us) _ _ (fun _ _ _ => False) (hr.make C us []) (I2.env0.make C us []) bd r2 hq) fun r s' hq' => ?_))
  cases r with
  | error er => exact hx pins σ _ _ er s' I2 hq'
  | ok fl =>
    cases fl with
    | ret u =>
      obtain ⟨v, H2, os2, bare2, un2, hok2, rv, ev, q2⟩ := hq'
      subst ev
      exact ⟨rv, L2.Inv.after (Q := fun z H' => Q z H') (u := .ref (hp.objs.size + 1)) I2 ⟨.ref (hp.objs.size + 1), H2, os2, bare2, un2, hok2, rfl, q2⟩⟩
    | next => exact False.elim hq'
    | brk => exact False.elim hq'
    | cont => exact False.elim hq'
end
end Bf

set_option linter.all false
/-! Own rules: own exceptions with one text as values: isinstance and repr. -/
namespace Bf
open PySem PySem.Spec PyProof.Rows L2
/-- at a: an exception of the class at C, made of the text z -/
def ExV (H : Hp) (a C : Addr) (z : Str) : Prop := ∃ (d t : Addr) (fs : List (Str × V)), H a = some (exoT a C (some d) t) ∧ H d = some (exd d fs) ∧ H t = some (.tup [.str z])
theorem ExV.same {H H' : Hp} {a C : Addr} {z : Str} (e : Same H H') (h : ExV H a C z) : ExV H' a C z := by
  obtain ⟨d, t, fs, h1, h2, h3⟩ := h
  exact ⟨d, t, fs, e _ _ h1, e _ _ h2, e _ _ h3⟩
/-- what the class C must say, so that its instances are asked and written rightly -/
structure ExF (K : PySem.W.Frag) (C : Addr) (cd : ClassData) : Prop where
  cl : PySem.W.clsIn K C = some cd
  hg : PySem.W.findIn K (.ref C) "__getattribute__" = some (some (.builtin "BaseException.__getattribute__"))
  hk : PySem.W.findIn K (.ref C) "__getattr__" = some none
  hs : PySem.W.subIn K (.ref C) (.type "BaseException") = some true
  hd : PySem.W.hasDictIn K C = true
  ha : PySem.W.findIn K (.ref C) "__class__" = some (some (.builtin "object.__class__"))
  hn : PySem.W.specialIn K (.builtin "object.__class__") "__get__" = some (some (.builtin "getset_descriptor.__get__"))
  ht : PySem.W.takesIn K (.builtin "object.__class__") = some true
  hm : PySem.W.mroIn K C (.type "object") = some true
  hr : PySem.W.findIn K (.ref C) "__repr__" = some (some (.builtin "BaseException.__repr__"))
/-- isinstance(e, c) -/
def rIsiE (K : PySem.W.Frag) : List V → Hp → VK → Prop := fun xs H Q => ∃ (a C : Addr) (z : Str) (cd : ClassData) (c : V) (u : Value) (b : Bool), xs = [.ref a, c] ∧ ClsV c u ∧ ExV H a C z ∧ ExF K C cd ∧ PySem.W.kitOne K (.ref C) u = some b ∧ Q (.bl b) H
/-- repr(e) -/
def rReprE (K : PySem.W.Frag) : List V → Hp → VK → Prop := fun xs H Q => ∃ (a C : Addr) (z : Str) (cd : ClassData), xs = [.ref a] ∧ ExV H a C z ∧ ExF K C cd ∧ (excTold cd z).length ≤ sizeLine ∧ Q (.str (excTold cd z)) H
section
variable {X : Cx}
theorem call_isiE : CallR X (.builtin "isinstance") (rIsiE X.K) := by
  intro pins s σ H xs us Q I r h
  obtain ⟨a, C, z, cd, c, u, b, rfl, k, ev, F, e, q⟩ := h
  obtain ⟨u1, u2, rfl, r1, r2⟩ := vals2 r
  have e2 := k.eq r2
  subst e2
  cases (show u1 = Value.ref a from r1)
  obtain ⟨d, t, fs, h1, h2, h3⟩ := ev
  have ho := exoT_at I.hok h1
  obtain ⟨mA, hns, _⟩ := exd_at I.hok h2
  obtain ⟨oD, _, _, hoD, _⟩ := hns
  have J : PySem.W.InstAt s.heap a { cls := .ref C, dict := some d, data := .fields #[.ref t, .none, .none, .none, .bool false, .none] } C (some oD) := ⟨ho, rfl, rfl, hoD⟩
  exact PySem.W.kia_one (PySem.W.bf_kitx_exc F.hg F.hk F.hs F.hd F.ha F.hn F.ht F.hm) I.kIn J e (fun z => nomatch z) fun tk => ⟨.bl b, H, I.tok tk, rfl, q⟩
theorem call_reprE (hu : X.A.units + 64 < cLine) : CallR X (.builtin "repr") (rReprE X.K) := by
  intro pins s σ H xs us Q I r h
  obtain ⟨a, C, z, cd, rfl, ev, F, sz, q⟩ := h
  obtain ⟨u, rfl, rx⟩ := vals1 r
  cases (show u = Value.ref a from rx)
  obtain ⟨d, t, fs, h1, h2, h3⟩ := ev
  have ho := exoT_at I.hok h1
  obtain ⟨_, its, rv, o, e1, e2, n, e3⟩ := (show ObjOk X.prog X.w H s.heap t (.tup [.str z]) from I.hok t _ h3)
  obtain ⟨u, rfl, ru⟩ := vals1 rv
  obtain ⟨tk, rfl⟩ := (show ∃ t, u = Value.str z t from ru)
  exact PySem.bf_call_repr (m := z) (tk := tk) (t0 := t) (K := X.K) (C := C) (cd := cd) (by omega) ⟨I.kIn, _, _, ho, rfl, rfl, rfl⟩ F.cl F.hs F.hr ⟨o, n, e1, e2, e3⟩ ⟨.str (excTold cd z), H, I.tok _, ⟨_, rfl⟩, q⟩ sz
/-- isinstance of data, or of an exception -/
theorem call_isi2 {r : List V → Hp → VK → Prop} (h1 : ∀ xs H Q, r xs H Q → rIsi X.K xs H Q ∨ rIsiE X.K xs H Q) : CallR X (.builtin "isinstance") r := fun pins s σ H xs us Q I rv h =>
  (h1 xs H Q h).elim (fun z => call_isi pins s σ H xs us Q I rv z) fun z => call_isiE pins s σ H xs us Q I rv z
end
end Bf

/-! Own rules: d.update(e), both written dicts. -/
namespace Bf
open PySem PySem.Spec PyProof.Rows L2
section
variable {X : Cx} {pins : List (Addr × Obj)} {σ : L2.St} {H : Hp} {s : Shared} {a b : Addr} {kvs more : List (Key × V)} {A : Around} {E : Value → Shared → Prop}
theorem d_update {Q : Value → Shared → Prop} (I : L2.Inv X pins σ H s) (ea : H a = some (.dK kvs)) (eb : H b = some (.dK more)) (ne : a ≠ b) (hl : kvs.length + more.length ≤ 100)
    (h : ∀ s', L2.Inv X pins σ (upd H a (.dK (mergeK kvs more))) s' → Q .none s') : wpAny (model X.prog X.w) A (call (.builtin "dict.update") [.ref a, .ref b]) Q E s := by
  obtain ⟨z, hd, vs, rel, dd⟩ := dk_of I.hok ea
  obtain ⟨z2, hd2, vs2, rel2, dd2⟩ := dk_of I.hok eb
  have l1 := rel.length
  have l2 := rel2.length
  refine call_meetsIn PySem.F.slot_dict_update dd.typeIs PySem.F.entry_dict_update (PySem.F.args_dict_update_2 _ _) (meets_dict_update (mixKind X.prog X.w) a b ne hd2) ⟨vs, vs2, dd, dd2, by rw [← l1, ← l2, sizeLine_eq]; omega, fun h' dd' _ hs => h _ ?_⟩
  have he : ∃ q, h'.get? a = some q := let ⟨q, _, _, hq, _⟩ := dd'; ⟨q, hq⟩
  have hz : (mergeK kvs more).length ≤ sizeLine := by
    have := length_mergeK more kvs
    rw [sizeLine_eq]
    omega
  exact d_write (t' := s.toks) I (by rw [ea]; exact True.intro) hs he (dk_new hz hd (KV.merge rel2 rel) dd')
end
def rDUpd : V → List V → Hp → VK → Prop := fun x vs H Q => ∃ (a b : Addr) (kvs more : List (Key × V)), x = .ref a ∧ vs = [.ref b] ∧ H a = some (.dK kvs) ∧ H b = some (.dK more) ∧ a ≠ b ∧ kvs.length + more.length ≤ 100 ∧ Q .non (upd H a (.dK (mergeK kvs more)))
theorem mtd_update {X : Cx} : MtR X "dict.update" rDUpd := by
  intro pins s σ H x vs v us Q I rx rv h
  obtain ⟨a, b, kvs, more, ex, ev, e, e2, ne, l, q⟩ := h
  subst ex
  subst ev
  obtain rfl : v = Value.ref a := rx
  obtain ⟨u, rfl, ru⟩ := vals1 rv
  obtain rfl : u = Value.ref b := ru
  exact d_update I e e2 ne l fun s' I' => ⟨.non, _, I', rfl, q⟩
end Bf

/-! Own rules: comprehensions over enumerate of a tuple. -/
namespace Bf
open PySem PySem.Spec PyProof.Rows L2
theorem lc_iet {K : PySem.W.Frag} {a : Addr} {xs : List V} {g : TG} {tt : TT} {te : TE} {vs : List Nat} {σ : L2.St} {H1 : Hp} {D : Addr} {Qd : Hp → Prop} (Pv : Nat → Hp → Prop) (h0 : Pv 0 (upd H1 D (.lst []))) (hl : ∀ i H, i ≤ xs.length → Pv i H → SqT K H a xs)
    (hs : ∀ i x H T, xs[i]? = some x → Pv i H → H T = none → g (.ref T) (wipe σ vs) (upd H T (.tup [.int (i : Nat), x])) fun σ2 H2 => wipe σ2 vs = wipe σ vs ∧ tt σ2 H2 fun b H3 =>
      if b = true then te σ2 H3 fun y H4 => ∃ acc, H4 D = some (.lst acc) ∧ acc.length < sizeLine ∧ Pv (i + 1) (upd H4 D (.lst (acc ++ [y]))) else Pv (i + 1) H3) (hd : ∀ H, Pv xs.length H → Qd H) :
    ∃ W : Nat → Nat → Hp → Prop, (∃ m, W 0 m (upd H1 D (.lst []))) ∧ ∀ i m H, W i m H →
      ((Iet K a).stop i H ∧ Qd H) ∨ ((Iet K a).go i H ∧ ∃ Nx : Hp → Prop, (∀ H', Nx H' → ∃ m', m' < m ∧ W (i + 1) m' H') ∧ ∀ x H', (Iet K a).yld i H x H' → g x (wipe σ vs) H' fun σ2 H2 => wipe σ2 vs = wipe σ vs ∧ tt σ2 H2 fun b H3 =>
        if b = true then te σ2 H3 fun y H4 => ∃ acc, H4 D = some (.lst acc) ∧ acc.length < sizeLine ∧ Nx (upd H4 D (.lst (acc ++ [y]))) else Nx H3) := by
  refine ⟨fun i m H => m = xs.length - i ∧ i ≤ xs.length ∧ Pv i H, ⟨xs.length, by simp, Nat.zero_le _, h0⟩, ?_⟩
  rintro i m H ⟨rfl, hi, p⟩
  have q := hl i H hi p
  by_cases hlt : i < xs.length
  · refine .inr ⟨⟨xs, xs[i], q, by simp [hlt]⟩, Pv (i + 1), fun H' p' => ⟨xs.length - (i + 1), by omega, rfl, hlt, p'⟩, fun x H' y => ?_⟩
    obtain ⟨T, z, rfl, nT, rfl, hy⟩ := y
    exact hs i z H T (hy xs q) p nT
  · have e : i = xs.length := by omega
    subst e
    exact .inl ⟨⟨xs, q, rfl⟩, hd H p⟩
end Bf

set_option maxHeartbeats 4000000
/-! Own rules: x in (texts) of any thing; a tuple of any length times a whole number. -/
namespace Bf
open PySem PySem.Spec PyProof.Rows L2
section
variable {X : Cx}
def rInW (K : PySem.W.Frag) : R2 := fun x y H Q => ∃ (p : Addr) (ws : List Str), y = .ref p ∧ SqT K H p (ws.map V.str) ∧ Odd H x ∧ Q (.bl (inV x (ws.map V.str))) H
theorem op_inW (hu : X.A.units + 64 < cLine) : OpR X (compareOp .In) (rInW X.K) := by
  intro pins s σ H x y v u Q I rx ry h
  obtain ⟨p, ws, rfl, hq, od, q⟩ := h
  cases ry
  obtain ⟨its, r, pl, hz⟩ := I.tuple hq
  have fs : (ws.map V.str).all flatV = true := by
    rw [List.all_map, List.all_eq_true]
    intro z _
    rfl
  have each : ∀ {vs : List V} {us : List Value}, Vals vs us → (∀ y ∈ vs, ∃ z, y = V.str z) → ∀ w ∈ us, SeqAt.EqAt X.A.in1 s w v (eqU x w) := by
    intro vs us r
    induction r with
    | nil => exact fun _ _ m => nomatch m
    | cons r1 r2 ih =>
      intro hv w m
      rcases List.mem_cons.mp m with rfl | m
      · obtain ⟨z, rfl⟩ := hv _ List.mem_cons_self
        obtain ⟨t, rfl⟩ := r1
        exact eqAt_odd (by show X.A.units + 1 < cLine; omega) I od rx
      · exact ih (fun y my => hv y (List.mem_cons_of_mem _ my)) w m
  refine SeqAt.in_tupleAt (eqU x) pl (fun w hw => each r (fun y my => by obtain ⟨z, _, rfl⟩ := List.mem_map.mp my; exact ⟨z, rfl⟩) w (by simpa using hw)) ⟨.bl _, H, I, rfl, ?_⟩
  rw [show its.toArray.any (eqU x) = its.any (eqU x) by simp, any_eqU r fs]
  exact q
theorem bf_tuple_mulE (l : Addr) (n : Nat) (dd : Option Addr) (sl : Array (Option Value)) (x : Int) (u : Tok) (c0 : (decide (x < -(2 ^ 63)) || decide (x ≥ 2 ^ 63)) = false) :
    Meets (Builtin.«tuple.__mul__» ⟨[.ref l, .int x u], []⟩) (fun _ R s => s.heap.get? l = some { cls := .type "tuple", dict := dd, data := .seq #[] n, slots := sl } ∧ R (.ok (.ret (Value.ref l))) s) :=
  .of_wp fun prog w A R s h => by
    obtain ⟨hp, g, d, tk, os⟩ := s
    obtain ⟨hl, h⟩ := h
    have f1 := AutoSeq1.idx_int
    have f2 := AutoSeq1.sub_tuple_tuple
    wp_walk using wpAny_loadPart' hl
    repeat (first
      | (refine wpAny_ite_false (decide_eq_false (by rw [c0]; exact Bool.false_ne_true)) ?_; wp_walk using wpAny_loadPart' hl))
    exact ⟨_, rfl, h⟩
/-- t * k -/
def rRepA (K : PySem.W.Frag) : R2 := fun x y H Q => ∃ l k xs, x = .ref l ∧ y = .int k ∧ SqT K H l xs ∧ 2 ≤ k ∧ k ≤ 1000 ∧ xs.length ≤ 1000 ∧ (xs = [] → Q (.ref l) H) ∧ (xs ≠ [] → ∀ p, H p = none → Q (.ref p) (upd H p (.tup (List.replicate k.toNat xs).flatten)))
theorem op_repA : OpR X (binaryOp .Mult) (rRepA X.K) := by
  intro pins s σ H x y v u Q I rx ry h
  obtain ⟨l, k, xs, rfl, rfl, hT, h1, h2, hz, q0, q1⟩ := h
  by_cases e : xs = []
  · subst e
    cases rx
    obtain ⟨t, rfl⟩ := ry
    obtain ⟨its, r, ⟨⟨cls, dd, data, sl⟩, ho, hc, n, hd⟩, hs⟩ := I.tuple hT
    cases r
    simp only at hc hd
    subst hc hd
    have c0 : (decide (k < -(2 ^ 63)) || decide (k ≥ 2 ^ 63)) = false := by
      rw [decide_eq_false (by omega), decide_eq_false (by omega)] <;> rfl
    refine wpAny_binaryOp_repeat_ref (T := "tuple") (U := "int") (by decide) ⟨_, ho, rfl⟩ (fun s' => typeIs_int s' k t) noFill_tuple_mul F.fills_int_mul F.slot_int_rmul repeat_tuple F.slot_int_index.lookup
      (call_meets F.slot_int_rmul (typeIs_int s k t) F.entry_int_rmul (F.args_int_rmul_2 _ _) (int_rmul_tuple k t l [].toArray n dd sl)
        ⟨ho, rfl, ⟨_, ho, rfl⟩, call_meets F.slot_tuple_mul ⟨_, ho, rfl⟩ F.entry_tuple_mul (F.args_tuple_mul_2 _ _) (bf_tuple_mulE l n dd sl k t c0) ⟨ho, ?_⟩⟩)
    exact ⟨.ref l, H, I, rfl, q0 rfl⟩
  · exact op_repT pins s σ H _ _ v u Q I rx ry ⟨l, k, xs, rfl, rfl, hT, e, h1, h2, hz, q1 e⟩
end
end Bf

namespace Bf
open PySem PySem.Spec PyProof.Rows L2

/-! ### things by their types -/
inductive Kn (K : PySem.W.Frag) (H : Hp) : V → String → Prop
  | non : Kn K H .non "NoneType"
  | bl (b : Bool) : Kn K H (.bl b) "bool"
  | int (i : Int) : Kn K H (.int i) "int"
  | str (z : Str) : Kn K H (.str z) "str"
  | lst {a : Addr} (h : TyX K H (.ref a) (.type "list")) : Kn K H (.ref a) "list"
  | tup {a : Addr} (h : TyX K H (.ref a) (.type "tuple")) : Kn K H (.ref a) "tuple"
  | dic {a : Addr} (h : TyX K H (.ref a) (.type "dict")) : Kn K H (.ref a) "dict"
theorem Kn.ty {K : PySem.W.Frag} {H : Hp} {x : V} {n : String} (h : Kn K H x n) : TyX K H x (.type n) := by
  cases h with
  | non => exact .base .non
  | bl b => exact .base (.bl b)
  | int i => exact .base (.int i)
  | str z => exact .base (.str z)
  | lst h => exact h
  | tup h => exact h
  | dic h => exact h
def wholeB (x : V) (lo hi : Int) : Bool := match x with
  | .int i => decide (lo ≤ i) && decide (i ≤ hi)
  | _ => false
theorem wholeB_int {x : V} {lo hi : Int} (h : wholeB x lo hi = true) : ∃ i, x = .int i ∧ lo ≤ i ∧ i ≤ hi := by
  cases x with
  | int i =>
    have z : (decide (lo ≤ i) && decide (i ≤ hi)) = true := h
    obtain ⟨a, b⟩ := Bool.and_eq_true_iff.mp z
    exact ⟨i, rfl, of_decide_eq_true a, of_decide_eq_true b⟩
  | _ => cases h
theorem wholeB_of {i lo hi : Int} (a : lo ≤ i) (b : i ≤ hi) : wholeB (.int i) lo hi = true := by
  show (decide (lo ≤ i) && decide (i ≤ hi)) = true
  rw [decide_eq_true a, decide_eq_true b]; rfl

/-- a def of the text as its callers need it -/
structure Df (K : PySem.W.Frag) (mg : Str → Option Value) (x : Str) (f : Addr) (fd : FuncData) (ps : List Str) : Prop where
  at_ : mg x = some (.ref f)
  kp : PySem.W.keepIn K (.ref f) = true
  bd : Binds K fd ps []
abbrev CXL (P : Program) (w : World) : CXT := L2.CX P w

namespace J
def top (i : Nat) : Stmt := PySem.Challenge.pw_beatflows_k36_what_are_steps.main.body.getD i (.Pass ⟨0, 0, 0, 0⟩)
abbrev sFE : Stmt := inClass (top 1) 0
abbrev sNW : Stmt := inClass (top 2) 0
abbrev sWhole : Stmt := top 6
abbrev sNumber : Stmt := top 7
abbrev sWidth : Stmt := top 8
abbrev sTruth : Stmt := top 9
abbrev sAreI : Stmt := top 12
abbrev sIsI : Stmt := top 13
abbrev sFits : Stmt := top 14
abbrev sReck : Stmt := top 15
abbrev sAreS : Stmt := top 17
abbrev sCell : Stmt := top 19
abbrev sBox : Stmt := top 20
abbrev sTake : Stmt := top 21
abbrev sReg : Stmt := top 22
abbrev sDo : Stmt := top 23
abbrev sStep : Stmt := top 24
abbrev sLWhole : Stmt := top 25
abbrev sIsDo : Stmt := top 26
abbrev sIsStep : Stmt := top 27
abbrev sDue : Stmt := top 28
abbrev sBent : Stmt := top 29
abbrev sRight : Stmt := top 30
abbrev sLaw : Stmt := top 31
section
variable {P : Program} {w : World} {K : PySem.W.Frag} {mg : Str → Option Value} {base : Heap}

/-! ### is_whole and what stands on it -/
def numB (x : V) : Bool := match x with
  | .int _ => true
  | _ => false
def spNum (K : PySem.W.Frag) : Sp := fun vs H Q _ => ∃ (x : V) (n : String), vs = [x] ∧ Kn K H x n ∧ Q (.bl (numB x)) H
theorem scNum : FnScope ["thing"] ["thing"] (defScope sNumber) := ⟨rfl, rfl, rfl, by decide +kernel, rfl, by decide +kernel, by decide +kernel⟩
theorem ok_num {f : Addr} {fd : FuncData} (F : Fun K "is_number" "is_number" sNumber f fd) (mi : mg "isinstance" = none) (mt : mg "int" = none) (mb : mg "bool" = none) :
    FnOk P w K mg base CX0 1 f fd ["thing"] (spNum K) := by
  refine F.ok scNum (fun vs H Q E h => ?_) (fun cdv A outer s H vs Q E hr h => ?_)
  · obtain ⟨x, n, rfl, _⟩ := h
    rfl
  · obtain ⟨x, n, rfl, kn, q⟩ := h
    refine ⟨_, pss_one (ps_ret (pe_and (pe_callB call_isi (by rfl) mi (by decide +kernel) (pa_cons (pv 0) (pa_cons (pe_bltn (v := .ty "int") (by rfl) mt (by decide +kernel) rfl) pa_nil)))
      (pe_one (pe_not (pe_callB call_isi (by rfl) mi (by decide +kernel) (pa_cons (pv 0) (pa_cons (pe_bltn (v := .ty "bool") (by rfl) mb (by decide +kernel) rfl) pa_nil))))))), ?_⟩
    cases kn with
    | int i =>
      refine ⟨_, rfl, _, _, _, _, _, rfl, .ty "int", .base (.int i), kit_ty (by decide +kernel), _, rfl, iteT ?_⟩
      exact ⟨_, rfl, _, _, _, _, false, rfl, .ty "bool", .base (.int i), kit_ty (by decide +kernel), _, rfl, q⟩
    | bl b =>
      refine ⟨_, rfl, _, _, _, _, _, rfl, .ty "int", .base (.bl b), kit_ty (by decide +kernel), _, rfl, iteT ?_⟩
      exact ⟨_, rfl, _, _, _, _, true, rfl, .ty "bool", .base (.bl b), kit_ty (by decide +kernel), _, rfl, q⟩
    | non => exact ⟨_, rfl, _, _, _, _, _, rfl, .ty "int", .base .non, kit_ty (by decide +kernel), _, rfl, iteF q⟩
    | str z => exact ⟨_, rfl, _, _, _, _, _, rfl, .ty "int", .base (.str z), kit_ty (by decide +kernel), _, rfl, iteF q⟩
    | lst t => exact ⟨_, rfl, _, _, _, _, _, rfl, .ty "int", t, kit_ty (by decide +kernel), _, rfl, iteF q⟩
    | tup t => exact ⟨_, rfl, _, _, _, _, _, rfl, .ty "int", t, kit_ty (by decide +kernel), _, rfl, iteF q⟩
    | dic t => exact ⟨_, rfl, _, _, _, _, _, rfl, .ty "int", t, kit_ty (by decide +kernel), _, rfl, iteF q⟩
def spWhole (K : PySem.W.Frag) : Sp := fun vs H Q _ => ∃ (x : V) (n : String) (lo hi : Int), vs = [x, .int lo, .int hi] ∧ Kn K H x n ∧ Q (.bl (wholeB x lo hi)) H
theorem scWhole : FnScope ["thing", "low", "high"] ["thing", "low", "high"] (defScope sWhole) := ⟨rfl, rfl, rfl, by decide +kernel, rfl, by decide +kernel, by decide +kernel⟩
theorem ok_whole {f fn : Addr} {fd fdn : FuncData} (F : Fun K "is_whole" "is_whole" sWhole f fd) (Dn : Df K mg "is_number" fn fdn ["thing"]) (Gn : FnOk P w K mg base CX0 1 fn fdn ["thing"] (spNum K)) :
    FnOk P w K mg base CX0 2 f fd ["thing", "low", "high"] (spWhole K) := by
  refine F.ok scWhole (fun vs H Q E h => ?_) (fun cdv A outer s H vs Q E hr h => ?_)
  · obtain ⟨x, n, lo, hi, rfl, _⟩ := h
    rfl
  · obtain ⟨x, n, lo, hi, rfl, kn, q⟩ := h
    refine ⟨_, pss_one (ps_ret (pe_and (pe_call Gn hr (by rfl) Dn.at_ Dn.kp Dn.bd .nil pass0 (pa_cons (pv 0) pa_nil))
        (pe_one (pe_chain op_le op_le (pv 1) (pv 0) (pv 2))))), ?_⟩
    refine ⟨_, rfl, x, n, rfl, kn, _, rfl, ?_⟩
    cases x with
    | int i =>
      refine iteT ⟨_, rfl, _, rfl, _, _, rfl, rfl, _, rfl, ite2 (fun h1 => ?_) (fun h1 => ?_)⟩
      · refine ⟨_, rfl, _, _, rfl, rfl, ?_⟩
        have e : wholeB (.int i) lo hi = decide (i ≤ hi) := by
          show (decide (lo ≤ i) && decide (i ≤ hi)) = _
          rw [h1]; rfl
        rw [e] at q; exact q
      · have e : wholeB (.int i) lo hi = false := by
          show (decide (lo ≤ i) && decide (i ≤ hi)) = _
          rw [Bool.eq_false_iff.mpr h1]; rfl
        rw [e] at q; exact q
    | _ => exact iteF q

/-- a def of one thing that asks is_whole between two written bounds -/
def spOne (K : PySem.W.Frag) (lo hi : Int) : Sp := fun vs H Q _ => ∃ (x : V) (n : String), vs = [x] ∧ Kn K H x n ∧ Q (.bl (wholeB x lo hi)) H
theorem scWidth : FnScope ["thing"] ["thing"] (defScope sWidth) := ⟨rfl, rfl, rfl, by decide +kernel, rfl, by decide +kernel, by decide +kernel⟩
theorem ok_width {f fw : Addr} {fd fdw : FuncData} (F : Fun K "is_width" "is_width" sWidth f fd) (D : Df K mg "is_whole" fw fdw ["thing", "low", "high"])
    (G : FnOk P w K mg base CX0 2 fw fdw ["thing", "low", "high"] (spWhole K)) : FnOk P w K mg base CX0 3 f fd ["thing"] (spOne K 1 8) := by
  refine F.ok scWidth (fun vs H Q E h => ?_) (fun cdv A outer s H vs Q E hr h => ?_)
  · obtain ⟨x, n, rfl, _⟩ := h
    rfl
  · obtain ⟨x, n, rfl, kn, q⟩ := h
    exact ⟨_, pss_one (ps_ret (pe_call G hr (by rfl) D.at_ D.kp D.bd .nil pass0 (pa_cons (pv 0) (pa_cons pe_int (pa_cons pe_int pa_nil))))), _, rfl, _, n, 1, 8, rfl, kn, q⟩
theorem scTruth : FnScope ["thing"] ["thing"] (defScope sTruth) := ⟨rfl, rfl, rfl, by decide +kernel, rfl, by decide +kernel, by decide +kernel⟩
theorem ok_truth {f fw : Addr} {fd fdw : FuncData} (F : Fun K "is_truth" "is_truth" sTruth f fd) (D : Df K mg "is_whole" fw fdw ["thing", "low", "high"])
    (G : FnOk P w K mg base CX0 2 fw fdw ["thing", "low", "high"] (spWhole K)) : FnOk P w K mg base CX0 3 f fd ["thing"] (spOne K 0 1) := by
  refine F.ok scTruth (fun vs H Q E h => ?_) (fun cdv A outer s H vs Q E hr h => ?_)
  · obtain ⟨x, n, rfl, _⟩ := h
    rfl
  · obtain ⟨x, n, rfl, kn, q⟩ := h
    exact ⟨_, pss_one (ps_ret (pe_call G hr (by rfl) D.at_ D.kp D.bd .nil pass0 (pa_cons (pv 0) (pa_cons pe_int (pa_cons pe_int pa_nil))))), _, rfl, _, n, 0, 1, rfl, kn, q⟩
def topW (z : Int) : Int := 2 ^ z.toNat - 1
def spGreat : Sp := fun vs H Q _ => ∃ z : Int, vs = [.int z] ∧ 0 ≤ z ∧ z ≤ 1000 ∧ Q (.int (topW z)) H
def spWorthOf (K : PySem.W.Frag) : Sp := fun vs H Q _ => ∃ (x : V) (n : String) (z : Int), vs = [x, .int z] ∧ Kn K H x n ∧ 0 ≤ z ∧ z ≤ 1000 ∧ Q (.bl (wholeB x 0 (topW z))) H
theorem same_new {H : Hp} {p : Addr} {o : HO} (h : H p = none) : Same H (upd H p o) := fun b u e => by
  rw [upd_ne (ne_of_none e h)]
  exact e
theorem kn_same {H H' : Hp} {x : V} {n : String} (e : Same H H') (h : Kn K H x n) : Kn K H' x n := by
  have T : ∀ {a : Addr} {t : Value}, TyX K H (.ref a) t → TyX K H' (.ref a) t := fun {a t} h => by
    cases h with
    | base h =>
      cases h with
      | lst q => exact .base (.lst (e _ _ q))
      | frz q => exact .base (.frz (e _ _ q))
      | tup q => exact .base (.tup (e _ _ q))
      | dK q => exact .base (.dK (e _ _ q))
      | dT q => exact .base (.dT (e _ _ q))
      | ins q cl ha hn ht hm => exact .base (.ins (e _ _ q) cl ha hn ht hm)
    | set q => exact .set (e _ _ q)
    | kList q c => exact .kList q c
    | kTuple q c => exact .kTuple q c
    | kDict q c => exact .kDict q c
    | fTuple q => exact .fTuple (e _ _ q)
    | fDict q => exact .fDict (e _ _ q)
  cases h with
  | non => exact .non
  | bl b => exact .bl b
  | int i => exact .int i
  | str z => exact .str z
  | lst h => exact .lst (T h)
  | tup h => exact .tup (T h)
  | dic h => exact .dic (T h)
end
end J
end Bf

namespace Bf
open PySem PySem.Spec PyProof.Rows L2

/-- a loop over enumerate(list) -/
theorem for_ite {K : PySem.W.Frag} {a : Addr} {xs : List V} {g : TG} {tb : TS} {D : Ends} {σ : L2.St} {H : Hp} (Pv : Nat → L2.St → Hp → Prop) (h0 : Pv 0 σ H) (hl : ∀ i σ H, i ≤ xs.length → Pv i σ H → SqL K H a xs)
    (hs : ∀ i x σ H T, xs[i]? = some x → Pv i σ H → H T = none → g (.ref T) σ (upd H T (.tup [.int (i : Nat), x])) fun σ2 H2 => tb { D with nx := Pv (i + 1), ct := Pv (i + 1), bk := D.nx } σ2 H2) (hd : ∀ σ H, Pv xs.length σ H → D.nx σ H) :
    ∃ W : Nat → Nat → L2.St → Hp → Prop, (∃ m, W 0 m σ H) ∧ ∀ i m σ H, W i m σ H →
      ((Ite K a).stop i H ∧ D.nx σ H) ∨ ((Ite K a).go i H ∧ ∃ N : L2.St → Hp → Prop, (∀ σ' H', N σ' H' → ∃ m', m' < m ∧ W (i + 1) m' σ' H') ∧ ∀ x H', (Ite K a).yld i H x H' → g x σ H' fun σ2 H2 => tb { D with nx := N, ct := N, bk := D.nx } σ2 H2) := by
  refine ⟨fun i m σ H => m = xs.length - i ∧ i ≤ xs.length ∧ Pv i σ H, ⟨xs.length, by simp, Nat.zero_le _, h0⟩, ?_⟩
  rintro i m σ H ⟨rfl, hi, p⟩
  have q := hl i σ H hi p
  rcases Nat.lt_or_ge i xs.length with lt | ge
  · refine .inr ⟨⟨xs, xs[i], q, List.getElem?_eq_getElem lt⟩, Pv (i + 1), fun σ' H' p' => ⟨xs.length - (i + 1), by omega, rfl, lt, p'⟩, ?_⟩
    rintro x H' ⟨T, y, rfl, nT, rfl, hy⟩
    exact hs i y σ H T (hy xs q) p nT
  · exact .inl ⟨⟨xs, q, ge⟩, hd σ H (Nat.le_antisymm hi ge ▸ p)⟩

/-- the worth of bits, the lowest first -/
def valB : List Int → Int
  | [] => 0
  | b :: r => b + 2 * valB r
theorem valB_snoc : ∀ (l : List Int) (b : Int), valB (l ++ [b]) = valB l + b * 2 ^ l.length
  | [], b => by simp [valB]
  | a :: l, b => by
    show a + 2 * valB (l ++ [b]) = a + 2 * valB l + b * 2 ^ (l.length + 1)
    rw [valB_snoc l b, Int.pow_succ]
    have e : b * (2 ^ l.length * 2) = 2 * (b * 2 ^ l.length) := by rw [← Int.mul_assoc, Int.mul_comm]
    rw [e]
    omega
theorem same_trans_new {H H1 : Hp} {p : Addr} {o : HO} (s : Same H H1) (h : H1 p = none) : Same H (upd H1 p o) := fun b u e => by
  rw [upd_ne (ne_of_none (s _ _ e) h)]
  exact s _ _ e
theorem Same.sqT {K : PySem.W.Frag} {H H' : Hp} {a : Addr} {xs : List V} (e : Same H H') (h : SqT K H a xs) : SqT K H' a xs := by
  rcases h with (h | ⟨o, h⟩) | h
  · exact .inl (.inl (e _ _ h))
  · exact .inl (.inr ⟨o, e _ _ h⟩)
  · exact .inr h
/-- a list (k = true) or a tuple -/
def SqB (K : PySem.W.Frag) (k : Bool) (H : Hp) (a : Addr) (xs : List V) : Prop := if k = true then SqL K H a xs else SqT K H a xs
theorem SqB.same {K : PySem.W.Frag} {k : Bool} {H H' : Hp} {a : Addr} {xs : List V} (e : Same H H') (h : SqB K k H a xs) : SqB K k H' a xs := by
  cases k with
  | true => exact Same.seq e h
  | false => exact Same.sqT e h

theorem SqB.or {K : PySem.W.Frag} {k : Bool} {H : Hp} {a : Addr} {xs : List V} (h : SqB K k H a xs) : SqL K H a xs ∨ SqT K H a xs := by
  cases k with
  | true => exact .inl h
  | false => exact .inr h
theorem iteB {b : Bool} {A B : Prop} (e : b = true) (h : A) : if b = true then A else B := by
  rw [if_pos e]
  exact h
theorem iteN {b : Bool} {A B : Prop} (e : b = false) (h : B) : if b = true then A else B := by
  rw [if_neg (by rw [e]; exact Bool.false_ne_true)]
  exact h
theorem ix_at {K : PySem.W.Frag} {k : Bool} {H : Hp} {a : Addr} {xs : List V} {i : Nat} {v : V} {Q : VK} (s : SqB K k H a xs) (e : xs[i]? = some v) (q : Q v H) : rIx K (.ref a) (.int (i : Nat)) H Q := by
  cases k with
  | true => exact .inl ⟨a, xs, _, v, rfl, rfl, s, atI_nat e, q⟩
  | false => exact .inr (.inl ⟨a, xs, _, v, rfl, rfl, s, atI_nat e, q⟩)

/-! ### things as data -/
mutual
/-- x stands for the data d; its texts and lists are short -/
inductive Da (H : Hp) : V → PyData → Prop
  | non : Da H .non .none
  | bl (c : Bool) : Da H (.bl c) (.bool c)
  | int (i : Int) : Da H (.int i) (.int i)
  | str (z : Str) (h : z.length ≤ 1000) : Da H (.str z) (.str z)
  | lst {a : Addr} {xs : List V} {ds : List PyData} (h : H a = some (.lst xs)) (l : xs.length ≤ 1000) (r : DaAll H xs ds) : Da H (.ref a) (.list ds)
  | tup {a : Addr} {xs : List V} {ds : List PyData} (h : H a = some (.tup xs)) (l : xs.length ≤ 1000) (r : DaAll H xs ds) : Da H (.ref a) (.tuple ds)
  | emp {a : Addr} (h : H a = some (.dK [])) : Da H (.ref a) (.dict [])
inductive DaAll (H : Hp) : List V → List PyData → Prop
  | nil : DaAll H [] []
  | cons {v : V} {vs : List V} {d : PyData} {ds : List PyData} (h : Da H v d) (r : DaAll H vs ds) : DaAll H (v :: vs) (d :: ds)
end
mutual
theorem Da.same {H H' : Hp} (s : Same H H') : ∀ (d : PyData) (v : V), Da H v d → Da H' v d
  | .none, _, h => by cases h; exact .non
  | .bool _, _, h => by cases h; exact .bl _
  | .int _, _, h => by cases h; exact .int _
  | .str _, _, h => by
    cases h with
    | str _ h => exact .str _ h
  | .list ds, _, h => by
    cases h with
    | lst h l r => exact .lst (s _ _ h) l (DaAll.same s ds _ r)
  | .tuple ds, _, h => by
    cases h with
    | tup h l r => exact .tup (s _ _ h) l (DaAll.same s ds _ r)
  | .dict _, _, h => by
    cases h with
    | emp h => exact .emp (s _ _ h)
theorem DaAll.same {H H' : Hp} (s : Same H H') : ∀ (ds : List PyData) (vs : List V), DaAll H vs ds → DaAll H' vs ds
  | [], _, h => by cases h; exact .nil
  | d :: ds, _, h => by
    cases h with
    | cons h r => exact .cons (Da.same s d _ h) (DaAll.same s ds _ r)
end
theorem DaAll.len {H : Hp} : ∀ {vs : List V} {ds : List PyData}, DaAll H vs ds → vs.length = ds.length
  | _, _, .nil => rfl
  | _, _, .cons _ r => congrArg (· + 1) (DaAll.len r)
theorem DaAll.get {H : Hp} : ∀ {vs : List V} {ds : List PyData}, DaAll H vs ds → ∀ {i : Nat} {v : V}, vs[i]? = some v → ∃ d, ds[i]? = some d ∧ Da H v d
  | _, _, .cons h r, 0, _, e => by cases e; exact ⟨_, rfl, h⟩
  | _, _, .cons h r, i + 1, _, e => DaAll.get r (i := i) e
theorem DaAll.getD {H : Hp} : ∀ {vs : List V} {ds : List PyData}, DaAll H vs ds → ∀ {i : Nat} {d : PyData}, ds[i]? = some d → ∃ v, vs[i]? = some v ∧ Da H v d
  | _, _, .cons h r, 0, _, e => by cases e; exact ⟨_, rfl, h⟩
  | _, _, .cons h r, i + 1, _, e => DaAll.getD r (i := i) e
theorem DaAll.append {H : Hp} : ∀ {vs : List V} {ds : List PyData} {ws : List V} {es : List PyData}, DaAll H vs ds → DaAll H ws es → DaAll H (vs ++ ws) (ds ++ es)
  | _, _, _, _, .nil, r => r
  | _, _, _, _, .cons h t, r => .cons h (DaAll.append t r)
theorem DaAll.drop {H : Hp} : ∀ {vs : List V} {ds : List PyData} (n : Nat), DaAll H vs ds → DaAll H (vs.drop n) (ds.drop n)
  | _, _, 0, r => r
  | _, _, _ + 1, .nil => .nil
  | _, _, n + 1, .cons _ r => DaAll.drop n r
theorem DaAll.snoc {H : Hp} {v : V} {d : PyData} {vs : List V} {ds : List PyData} (r : DaAll H vs ds) (h : Da H v d) : DaAll H (vs ++ [v]) (ds ++ [d]) := r.append (.cons h .nil)
theorem DaAll.rev {H : Hp} : ∀ {vs : List V} {ds : List PyData}, DaAll H vs ds → DaAll H vs.reverse ds.reverse
  | _, _, .nil => .nil
  | _, _, .cons h r => by
    rw [List.reverse_cons, List.reverse_cons]
    exact (DaAll.rev r).snoc h
def tyD : PyData → String
  | .none => "NoneType"
  | .bool _ => "bool"
  | .int _ => "int"
  | .str _ => "str"
  | .list _ => "list"
  | .tuple _ => "tuple"
  | .dict _ => "dict"
theorem Da.kn {K : PySem.W.Frag} {H : Hp} {x : V} {d : PyData} (h : Da H x d) : Kn K H x (tyD d) := by
  cases h with
  | non => exact .non
  | bl c => exact .bl c
  | int i => exact .int i
  | str z _ => exact .str z
  | lst h _ _ => exact .lst (.base (.lst h))
  | tup h _ _ => exact .tup (.base (.tup h))
  | emp h => exact .dic (.base (.dK h))
theorem DaAll.kn {K : PySem.W.Frag} {H : Hp} : ∀ {vs : List V} {ds : List PyData}, DaAll H vs ds → ∀ y ∈ vs, ∃ m, Kn K H y m
  | _, _, .nil, _, m => nomatch m
  | _, _, .cons h r, y, m => (List.mem_cons.mp m).elim (fun e => ⟨_, e ▸ h.kn⟩) (DaAll.kn r y)
/-- is a whole number within, of data -/
def wholeD (d : PyData) (lo hi : Int) : Bool := match d with
  | .int i => decide (lo ≤ i) && decide (i ≤ hi)
  | _ => false
theorem Da.whole {H : Hp} {x : V} {d : PyData} (h : Da H x d) (lo hi : Int) : wholeB x lo hi = wholeD d lo hi := by
  cases h <;> rfl
/-- the built-in types, asked of data -/
theorem kit_of (n : String) (hn : ∀ m ∈ ["NoneType", "bool", "int", "str", "list", "tuple", "dict"], kitB m n = some (m == n || (m == "bool" && n == "int"))) (d : PyData) : kitB (tyD d) n = some (tyD d == n || (tyD d == "bool" && n == "int")) := by
  cases d <;> exact hn _ (by simp [tyD])
theorem kit_str (d : PyData) : kitB (tyD d) "str" = some (tyD d == "str") := by
  rw [kit_of "str" (by decide +kernel) d]
  cases d <;> rfl
theorem kit_tup (d : PyData) : kitB (tyD d) "tuple" = some (tyD d == "tuple") := by
  rw [kit_of "tuple" (by decide +kernel) d]
  cases d <;> rfl
theorem kit_list (d : PyData) : kitB (tyD d) "list" = some (tyD d == "list") := by
  rw [kit_of "list" (by decide +kernel) d]
  cases d <;> rfl
/-- comprehensions over a text -/
theorem lc_its {x : Str} {g : TG} {tt : TT} {te : TE} {vs : List Nat} {σ : L2.St} {H1 : Hp} {D : Addr} {Qd : Hp → Prop} (Pv : Nat → Hp → Prop) (h0 : Pv 0 (upd H1 D (.lst [])))
    (hs : ∀ i c H, x.cps[i]? = some c → Pv i H → g (.str ⟨#[c]⟩) (wipe σ vs) H fun σ2 H2 => wipe σ2 vs = wipe σ vs ∧ tt σ2 H2 fun b H3 =>
      if b = true then te σ2 H3 fun y H4 => ∃ acc, H4 D = some (.lst acc) ∧ acc.length < sizeLine ∧ Pv (i + 1) (upd H4 D (.lst (acc ++ [y]))) else Pv (i + 1) H3) (hd : ∀ H, Pv x.cps.size H → Qd H) :
    ∃ W : Nat → Nat → Hp → Prop, (∃ m, W 0 m (upd H1 D (.lst []))) ∧ ∀ i m H, W i m H →
      ((Its x).stop i H ∧ Qd H) ∨ ((Its x).go i H ∧ ∃ Nx : Hp → Prop, (∀ H', Nx H' → ∃ m', m' < m ∧ W (i + 1) m' H') ∧ ∀ v H', (Its x).yld i H v H' → g v (wipe σ vs) H' fun σ2 H2 => wipe σ2 vs = wipe σ vs ∧ tt σ2 H2 fun b H3 =>
        if b = true then te σ2 H3 fun y H4 => ∃ acc, H4 D = some (.lst acc) ∧ acc.length < sizeLine ∧ Nx (upd H4 D (.lst (acc ++ [y]))) else Nx H3) := by
  refine ⟨fun i m H => m = x.cps.size - i ∧ i ≤ x.cps.size ∧ Pv i H, ⟨x.cps.size, by simp, Nat.zero_le _, h0⟩, ?_⟩
  rintro i m H ⟨rfl, hi, p⟩
  by_cases hlt : i < x.cps.size
  · refine .inr ⟨hlt, Pv (i + 1), fun H' p' => ⟨x.cps.size - (i + 1), by omega, rfl, hlt, p'⟩, fun v H' y => ?_⟩
    obtain ⟨rfl, c, hc, rfl⟩ := y
    exact hs i c _ hc p
  · have e : i = x.cps.size := by omega
    subst e
    exact .inl ⟨Nat.le_refl _, hd H p⟩
end Bf

namespace Bf
open PySem PySem.Spec PyProof.Rows L2
/-- the law's purse: a list of three numbers -/
def Purse (H : Hp) (p : Addr) (n : Int) : Prop := ∃ x y z : Int, H p = some (.lst [.int x, .int y, .int z]) ∧ 0 ≤ y ∧ y < 2147483629 ∧ 0 ≤ z ∧ z ≤ n
theorem Purse.mono {H : Hp} {p : Addr} {n m : Int} (h : Purse H p n) (l : n ≤ m) : Purse H p m := let ⟨x, y, z, a, b, c, d, e⟩ := h; ⟨x, y, z, a, b, c, d, Int.le_trans e l⟩
theorem Purse.of {H H' : Hp} {p : Addr} {n : Int} (h : Purse H p n) (e : H' p = H p) : Purse H' p n := let ⟨x, y, z, a, b⟩ := h; ⟨x, y, z, e.trans a, b⟩
/-- all that was tracked, but at p, is as it was -/
def SameX (p : Addr) (H H' : Hp) : Prop := ∀ b o, b ≠ p → H b = some o → H' b = some o
def spCell (K : PySem.W.Frag) : Sp := fun vs H Q _ => ∃ (a : Addr) (ns : List Int) (i : Int), vs = [.ref a, .int i] ∧ SqL K H a (ns.map V.int) ∧ 0 ≤ i ∧ i ≤ 100 ∧ ∀ z, Q (.int z) H
def spPurse : Sp := fun vs H Q _ => ∃ z : Int, vs = [.int z] ∧ ∀ p H', H p = none → p ≠ sysModules → (∀ b, b ≠ p → H' b = H b) → Purse H' p 0 → Q (.ref p) H'
def spTake : Sp := fun vs H Q _ => ∃ (p : Addr) (m n : Int), vs = [.ref p, .int m] ∧ Purse H p n ∧ n ≤ 100000 ∧ 0 < m ∧ m < 1000000 ∧ ∀ d H', 0 ≤ d → d < m → Purse H' p (n + 1) → (∀ b, b ≠ p → H' b = H b) → Q (.int d) H'

namespace J
section
variable {P : Program} {w : World} {K : PySem.W.Frag} {mg : Str → Option Value} {base : Heap}
theorem scCell : FnScope ["_law_script", "_law_k"] ["_law_script", "_law_k"] (defScope sCell) := ⟨rfl, rfl, rfl, by decide +kernel, rfl, by decide +kernel, by decide +kernel⟩
theorem ok_cell {f : Addr} {fd : FuncData} (F : Fun K "_law_cell" "_law_cell" sCell f fd) (ml : mg "len" = none) : FnOk P w K mg base CX0 1 f fd ["_law_script", "_law_k"] (spCell K) := by
  refine F.ok scCell (fun vs H Q E h => ?_) (fun cdv A outer s H vs Q E hr h => ?_)
  · obtain ⟨a, ns, i, rfl, _⟩ := h
    rfl
  · obtain ⟨a, ns, i, rfl, hS, h0, h1, q⟩ := h
    refine ⟨_, pss_cons (ps_if (pt_cmpR op_lt (pv 1) (pe_callB call_len_seq (by rfl) ml PySem.boot_len (pa_cons (pv 0) pa_nil)) (nomark _)) (pss_one (ps_ret (pe_ix ix_list (pv 0) (pv 1) (fun _ _ => rfl)))) pss_nil)
      (pss_one (ps_ret (pe_op op_add (pe_op op_mul pe_int (pv 1)) pe_int))), ?_⟩
    refine ⟨_, rfl, _, rfl, a, _, rfl, .inl hS, _, _, rfl, rfl, _, rfl, ite2 (fun c => ?_) (fun c => ?_)⟩
    · have lt : i < (((ns.map V.int).length : Nat) : Int) := of_decide_eq_true c
      rw [List.length_map] at lt
      have lt' : i.toNat < ns.length := by omega
      refine ⟨_, rfl, _, rfl, a, _, i, .int ns[i.toNat], rfl, rfl, hS, ?_, q _⟩
      have e : atI (ns.map V.int) ((i.toNat : Nat) : Int) = some (V.int ns[i.toNat]) := atI_nat (by rw [List.getElem?_map, List.getElem?_eq_getElem lt']; rfl)
      rw [← e]
      congr 1
      omega
    · exact ⟨_, rfl, _, _, rfl, rfl, .inl ⟨by decide, by decide⟩, _, _, rfl, rfl, q _⟩
theorem scBox : FnScope ["_law_cell_here"] ["_law_cell_here"] (defScope sBox) := ⟨rfl, rfl, rfl, by decide +kernel, rfl, by decide +kernel, by decide +kernel⟩
theorem ok_box {f : Addr} {fd : FuncData} (F : Fun K "_law_box" "_law_box" sBox f fd) (mx : mg "max" = none) : FnOk P w K mg base CX0 1 f fd ["_law_cell_here"] spPurse := by
  refine F.ok scBox (fun vs H Q E h => ?_) (fun cdv A outer s H vs Q E hr h => ?_)
  · obtain ⟨z, rfl, _⟩ := h
    rfl
  · obtain ⟨z, rfl, q⟩ := h
    refine ⟨_, pss_one (ps_ret (pe_lstN (pa_cons (pe_callB (call_max2 rfl) (by rfl) mx (by decide +kernel) (pa_cons pe_int (pa_cons (pe_op op_sub (pv 0) (pe_op op_pow pe_int pe_int)) pa_nil)))
      (pa_cons (pe_op op_mod (pv 0) pe_int) (pa_cons pe_int pa_nil))))), ?_⟩
    refine ⟨_, rfl, _, _, rfl, rfl, ⟨by decide, by decide, by decide⟩, _, _, rfl, rfl, _, _, rfl, _, rfl, _, _, rfl, rfl, (by show (0 : Int) < 2147483629; decide), by show 3 ≤ 1000; decide, fun p hp np => ?_⟩
    refine q p _ hp np (fun b hb => upd_ne hb) ⟨_, _, _, upd_same, Int.emod_nonneg _ (by decide), Int.emod_lt_of_pos _ (by decide), Int.le_refl _, Int.le_refl _⟩
theorem scTake : FnScope ["_law_box_here", "_law_many", "_law_digit", "_law_number"] ["_law_box_here", "_law_many"] (defScope sTake) := ⟨rfl, rfl, rfl, by decide +kernel, rfl, by decide +kernel, by decide +kernel⟩
theorem ok_take {f : Addr} {fd : FuncData} (F : Fun K "_law_take" "_law_take" sTake f fd) : FnOk P w K mg base CX0 1 f fd ["_law_box_here", "_law_many"] spTake := by
  refine F.ok scTake (fun vs H Q E h => ?_) (fun cdv A outer s H vs Q E hr h => ?_)
  · obtain ⟨p, m, n, rfl, _⟩ := h
    rfl
  · obtain ⟨p, m, n, rfl, ⟨x, y, z, hp, y0, y1, z0, z1⟩, n1, m0, m1, q⟩ := h
    refine ⟨_, pss_cons (ps_if (pt_cmpR op_gt (pe_ix ix_list (pv 0) pe_int (fun _ _ => rfl)) pe_int (nomark _))
        (pss_cons (ps_set (i := 2) scTake.nd rfl (Or.inl rfl) (pe_op op_mod (pe_ix ix_list (pv 0) pe_int (fun _ _ => rfl)) (pv 1)))
        (pss_cons (ps_asg (pe_op op_fdiv (pe_ix ix_list (pv 0) pe_int (fun _ _ => rfl)) (pv 1)) (pg_sub (pv 0) pe_int set_list)) (pss_one (ps_ret (pv 2))))) pss_nil)
      (pss_cons (ps_asg (pe_op op_add (pe_ix ix_list (pv 0) pe_int (fun _ _ => rfl)) pe_int) (pg_sub (pv 0) pe_int set_list))
      (pss_cons (ps_set (i := 3) scTake.nd rfl (Or.inl rfl) (pe_op op_mod (pe_op op_pow (pe_op op_add (pe_op op_add (pe_ix ix_list (pv 0) pe_int (fun _ _ => rfl)) (pe_op op_mul pe_int (pe_ix ix_list (pv 0) pe_int (fun _ _ => rfl)))) pe_int) pe_int) pe_int))
      (pss_cons (ps_set (i := 3) scTake.nd rfl (Or.inl rfl) (pe_op op_mod (pe_op op_pow (pe_op op_add (pe_op op_fdiv (pv 3) pe_int) (pe_op op_mul pe_int (pe_ix ix_list (pv 0) pe_int (fun _ _ => rfl)))) pe_int) pe_int))
      (pss_one (ps_ret (pe_op op_mod (pe_op op_fdiv (pv 3) pe_int) (pv 1))))))), ?_⟩
    have L := SqL.of (K := K) hp
    refine ⟨_, rfl, p, _, 0, _, rfl, rfl, L, rfl, _, _, rfl, rfl, _, rfl, ite2 (fun _ => ?_) (fun _ => ?_)⟩
    · refine ⟨_, rfl, p, _, 0, _, rfl, rfl, L, rfl, _, rfl, _, _, rfl, rfl, m0, ?_⟩
      refine ⟨_, rfl, p, _, 0, _, rfl, rfl, L, rfl, _, rfl, _, _, rfl, rfl, ⟨m0, by omega⟩, _, rfl, p, _, 0, 0, rfl, rfl, hp, rfl, ?_⟩
      exact ⟨_, rfl, q _ _ (Int.emod_nonneg _ (by omega)) (Int.emod_lt_of_pos _ m0) ⟨_, _, _, upd_same, y0, y1, z0, by omega⟩ fun b hb => upd_ne hb⟩
    · refine ⟨_, rfl, p, _, 2, _, rfl, rfl, L, rfl, _, _, rfl, rfl, _, rfl, p, _, 2, 2, rfl, rfl, hp, rfl, ?_⟩
      have L2 : SqL K (upd H p (.lst [.int x, .int y, .int (z + 1)])) p [.int x, .int y, .int (z + 1)] := SqL.of upd_same
      have b1 : (y + 130363 * (z + 1) + 311).natAbs < 2 ^ 64 := by omega
      have b2 : ((y + 130363 * (z + 1) + 311) ^ 5 % 2147483647 / 8 + 104729 * (z + 1)).natAbs < 2 ^ 64 := by
        have h1 := Int.emod_nonneg ((y + 130363 * (z + 1) + 311) ^ 5) (show (2147483647 : Int) ≠ 0 by decide)
        have h2 := Int.emod_lt_of_pos ((y + 130363 * (z + 1) + 311) ^ 5) (show (0 : Int) < 2147483647 by decide)
        generalize (y + 130363 * (z + 1) + 311) ^ 5 % 2147483647 = t at h1 h2
        omega
      refine ⟨_, rfl, p, _, 1, _, rfl, rfl, L2, rfl, _, rfl, p, _, 2, _, rfl, rfl, L2, rfl, _, _, rfl, rfl, .inl ⟨by decide, by decide⟩, _, _, rfl, rfl, _, _, rfl, rfl, _, _, rfl, rfl, ⟨by decide, by decide, b1⟩, _, _, rfl, rfl, (by show (0 : Int) < 2147483647; decide), ?_⟩
      refine ⟨_, rfl, _, _, rfl, rfl, ⟨by decide, by decide⟩, _, rfl, p, _, 2, _, rfl, rfl, L2, rfl, _, _, rfl, rfl, .inl ⟨by decide, by decide⟩, _, _, rfl, rfl, _, _, rfl, rfl, ⟨by decide, by decide, b2⟩, _, _, rfl, rfl, (by show (0 : Int) < 2147483587; decide), ?_⟩
      refine ⟨_, rfl, _, _, rfl, rfl, ⟨by decide, by decide⟩, _, rfl, _, _, rfl, rfl, m0, ?_⟩
      exact q _ _ (Int.emod_nonneg _ (by omega)) (Int.emod_lt_of_pos _ m0) ⟨_, _, _, upd_same, y0, y1, by omega, by omega⟩ fun b hb => upd_ne hb
end
/-! ### data of bounded size -/
def strOk (z : Str) : Bool := (z.cps.toList.all fun c => decide (c < 16 ^ 8)) && decide (z.cps.size ≤ 40)
def intOk (i : Int) : Prop := i.natAbs < 10 ^ 12 ∨ i = 10 ^ 29
/-- nested at most k deep, at most w things each -/
def fit (w : Nat) : Nat → PyData → Prop
  | _, .none => True
  | _, .bool _ => True
  | _, .int i => intOk i
  | _, .str z => strOk z = true
  | k + 1, .list ds => ds.length ≤ w ∧ ∀ d ∈ ds, fit w k d
  | k + 1, .tuple ds => ds.length ≤ w ∧ ∀ d ∈ ds, fit w k d
  | _ + 1, .dict kv => kv = []
  | 0, .list _ => False
  | 0, .tuple _ => False
  | 0, .dict _ => False
theorem fit_tup {w k : Nat} {ds : List PyData} : fit w (k + 1) (.tuple ds) ↔ ds.length ≤ w ∧ ∀ d ∈ ds, fit w k d := by rw [fit]
theorem fit_lst {w k : Nat} {ds : List PyData} : fit w (k + 1) (.list ds) ↔ ds.length ≤ w ∧ ∀ d ∈ ds, fit w k d := by rw [fit]
theorem fit_mono {w w' : Nat} (hw : w ≤ w') : ∀ {k k' : Nat} (d : PyData), k ≤ k' → fit w k d → fit w' k' d
  | k, k', .none, _, _ => by cases k' <;> simp only [fit]
  | k, k', .bool _, _, _ => by cases k' <;> simp only [fit]
  | k, k', .int i, _, h => by
    have h' : intOk i := by cases k <;> simpa only [fit] using h
    cases k' <;> simpa only [fit] using h'
  | k, k', .str z, _, h => by
    have h' : strOk z = true := by cases k <;> simpa only [fit] using h
    cases k' <;> simpa only [fit] using h'
  | 0, _, .list _, _, h => by simp only [fit] at h
  | 0, _, .tuple _, _, h => by simp only [fit] at h
  | 0, _, .dict _, _, h => by simp only [fit] at h
  | k + 1, 0, _, hk, _ => absurd hk (by omega)
  | k + 1, k' + 1, .list ds, hk, h => by
    obtain ⟨a, b⟩ := fit_lst.mp h
    exact fit_lst.mpr ⟨Nat.le_trans a hw, fun d m => fit_mono hw d (Nat.le_of_succ_le_succ hk) (b d m)⟩
  | k + 1, k' + 1, .tuple ds, hk, h => by
    obtain ⟨a, b⟩ := fit_tup.mp h
    exact fit_tup.mpr ⟨Nat.le_trans a hw, fun d m => fit_mono hw d (Nat.le_of_succ_le_succ hk) (b d m)⟩
  | k + 1, k' + 1, .dict kv, hk, h => by
    simp only [fit] at h ⊢
    exact h
theorem fit_int {w k : Nat} {i : Int} : fit w k (.int i) ↔ intOk i := by cases k <;> simp only [fit]
theorem fit_str {w k : Nat} {z : Str} : fit w k (.str z) ↔ strOk z = true := by cases k <;> simp only [fit]
theorem fit_non {w k : Nat} : fit w k .none := by cases k <;> simp only [fit]
theorem fit_bl {w k : Nat} {b : Bool} : fit w k (.bool b) := by cases k <;> simp only [fit]
mutual
/-- no text that repr shows is longer -/
def sl : PyData → Nat
  | .none => 5
  | .bool _ => 6
  | .int i => (PyData.shown (.int i)).length + 1
  | .str z => 10 * z.cps.size + 3
  | .list ds => slA ds + 3
  | .tuple ds => slA ds + 3
  | .dict _ => 4
def slA : List PyData → Nat
  | [] => 0
  | d :: r => sl d + 2 + slA r
end
theorem sl_tup (ds : List PyData) : sl (.tuple ds) = slA ds + 3 := by simp only [sl]
theorem sl_lst (ds : List PyData) : sl (.list ds) = slA ds + 3 := by simp only [sl]
theorem slA_nil : slA [] = 0 := by simp only [slA]
theorem slA_cons (d : PyData) (r : List PyData) : slA (d :: r) = sl d + 2 + slA r := by simp only [slA]
theorem slA_app : ∀ a b : List PyData, slA (a ++ b) = slA a + slA b
  | [], b => by rw [List.nil_append, slA_nil, Nat.zero_add]
  | d :: r, b => by rw [List.cons_append, slA_cons, slA_cons, slA_app r b]; omega
theorem slA_le {n : Nat} : ∀ {l : List PyData}, (∀ d ∈ l, sl d ≤ n) → slA l ≤ (n + 2) * l.length
  | [], _ => by rw [slA_nil]; exact Nat.zero_le _
  | d :: r, h => by
    have h1 := h d List.mem_cons_self
    have h2 := slA_le (n := n) (l := r) fun x m => h x (List.mem_cons_of_mem _ m)
    rw [slA_cons, List.length_cons, Nat.mul_add]
    omega
theorem slA_mem {e : PyData} : ∀ {l : List PyData}, e ∈ l → sl e + 2 ≤ slA l
  | d :: r, m => by
    rw [slA_cons]
    rcases List.mem_cons.mp m with rfl | m
    · omega
    · have := slA_mem m; omega
theorem sl_int {i : Int} (h : i.natAbs < 10 ^ 12) : sl (.int i) ≤ 14 := by
  have := PyData.shown_int_le h
  simp only [sl]
  omega
theorem showAll {w k : Nat} (ih : ∀ d, fit w k d → d.showable = true ∧ d.depth ≤ k ∧ d.shown.length ≤ sl d) : ∀ {ds : List PyData}, (∀ d ∈ ds, fit w k d) →
    PyData.showableAll ds = true ∧ PyData.depthAll ds ≤ k ∧ ((PyData.shownAll ds).map (·.length)).sum + 2 * ds.length ≤ slA ds
  | [], _ => ⟨by simp only [PyData.showableAll], by simp only [PyData.depthAll]; omega, by simp only [PyData.shownAll, List.map_nil, List.sum_nil, List.length_nil, slA]; omega⟩
  | d :: r, h => by
    obtain ⟨a1, a2, a3⟩ := ih d (h d List.mem_cons_self)
    obtain ⟨b1, b2, b3⟩ := showAll ih (ds := r) fun x m => h x (List.mem_cons_of_mem _ m)
    simp only [PyData.showableAll, PyData.depthAll, PyData.shownAll, List.map_cons, List.sum_cons, List.length_cons, slA, a1, b1, Bool.and_self]
    exact ⟨trivial, Nat.max_le.mpr ⟨a2, b2⟩, by omega⟩
theorem fit_shows {w : Nat} : ∀ {k : Nat} (d : PyData), fit w k d → d.showable = true ∧ d.depth ≤ k ∧ d.shown.length ≤ sl d
  | k, .none, _ => ⟨by simp only [PyData.showable], by simp only [PyData.depth]; omega, by show 4 ≤ sl .none; simp only [sl]; omega⟩
  | k, .bool b, _ => ⟨by simp only [PyData.showable], by simp only [PyData.depth]; omega, by
      have e : (PyData.shown (.bool b)).length ≤ 5 := by cases b <;> decide
      simp only [sl]; omega⟩
  | k, .int i, h => by
    refine ⟨?_, by simp only [PyData.depth]; omega, by simp only [sl]; omega⟩
    rcases fit_int.mp h with h | rfl
    · have l : i.natAbs.log2 ≤ 40 := by
        rcases Nat.eq_zero_or_pos i.natAbs with z | z
        · rw [z]; decide
        · exact Nat.le_of_lt_succ ((Nat.log2_lt (by omega)).mpr (Nat.lt_trans h (by decide)))
      simp only [PyData.showable]; exact decide_eq_true (by omega)
    · decide +kernel
  | k, .str z, h => by
    refine ⟨by simp only [PyData.showable], by simp only [PyData.depth]; omega, ?_⟩
    obtain ⟨a, b⟩ := Bool.and_eq_true_iff.mp (fit_str.mp h)
    have hx : ∀ c ∈ z.cps.toList, c < 16 ^ 8 := by simpa only [List.all_eq_true, decide_eq_true_eq] using a
    have e := StrLaws.reprText_len z hx
    have e2 : z.length = z.cps.size := rfl
    simp only [PyData.shown, sl]
    omega
  | 0, .list _, h => by simp only [fit] at h
  | 0, .tuple _, h => by simp only [fit] at h
  | 0, .dict _, h => by simp only [fit] at h
  | k + 1, .list ds, h => by
    obtain ⟨_, hd⟩ := fit_lst.mp h
    obtain ⟨a, b, c⟩ := showAll (fun d hd => fit_shows d hd) hd
    have h2 := listText_len_le (PyData.shownAll ds)
    have h3 := PyData.shownAll_length ds
    refine ⟨by simp only [PyData.showable]; exact a, by simp only [PyData.depth]; omega, ?_⟩
    simp only [PyData.shown, sl]
    omega
  | k + 1, .tuple ds, h => by
    obtain ⟨_, hd⟩ := fit_tup.mp h
    obtain ⟨a, b, c⟩ := showAll (fun d hd => fit_shows d hd) hd
    have h2 := tupleText_len_le (PyData.shownAll ds)
    have h3 := PyData.shownAll_length ds
    refine ⟨by simp only [PyData.showable]; exact a, by simp only [PyData.depth]; omega, ?_⟩
    simp only [PyData.shown, sl]
    omega
  | k + 1, .dict kv, h => by
    have e : kv = [] := by simpa only [fit] using h
    subst e
    refine ⟨?_, ?_, ?_⟩
    · simp only [PyData.showable, PyData.showableKv]
    · simp only [PyData.depth, PyData.depthKv]; omega
    · show (2 : Nat) ≤ sl (.dict []); simp only [sl]; omega
/-- tracked data are data -/
theorem sh_daAll {H : Hp} {P : Addr → Prop} {b : Bool} {w k : Nat} (ih : ∀ d v, fit w k d → Sh H P b v d → Da H v d) : ∀ {ds : List PyData} {vs : List V}, (∀ d ∈ ds, fit w k d) → ShAll H P b vs ds → DaAll H vs ds
  | [], _, _, h => by cases h; exact .nil
  | d :: r, _, hf, h => by
    cases h with
    | cons h1 h2 => exact .cons (ih d _ (hf d List.mem_cons_self) h1) (sh_daAll ih (fun x m => hf x (List.mem_cons_of_mem _ m)) h2)
theorem shAll_len {H : Hp} {P : Addr → Prop} {b : Bool} : ∀ {vs : List V} {ds : List PyData}, ShAll H P b vs ds → vs.length = ds.length
  | _, _, .nil => rfl
  | _, _, .cons _ r => congrArg (· + 1) (shAll_len r)
theorem sh_da {H : Hp} {P : Addr → Prop} {b : Bool} {w : Nat} (hw : w ≤ 1000) : ∀ {k : Nat} (d : PyData) (v : V), fit w k d → Sh H P b v d → Da H v d
  | _, .none, _, _, h => by cases h; exact .non
  | _, .bool _, _, _, h => by cases h; exact .bl _
  | _, .int _, _, _, h => by cases h; exact .int _
  | _, .str z, _, f, h => by
    cases h
    obtain ⟨a, b⟩ := Bool.and_eq_true_iff.mp (fit_str.mp f)
    have b := of_decide_eq_true b
    exact .str _ (by show z.cps.size ≤ 1000; omega)
  | 0, .list _, _, f, _ => by simp only [fit] at f
  | 0, .tuple _, _, f, _ => by simp only [fit] at f
  | 0, .dict _, _, f, _ => by simp only [fit] at f
  | k + 1, .list ds, _, f, h => by
    obtain ⟨l, hd⟩ := fit_lst.mp f
    cases h with
    | lst h _ _ r => exact .lst h (by rw [shAll_len r]; omega) (sh_daAll (fun d v f h => sh_da hw d v f h) hd r)
  | k + 1, .tuple ds, _, f, h => by
    obtain ⟨l, hd⟩ := fit_tup.mp f
    cases h with
    | tup h _ r => exact .tup h (by rw [shAll_len r]; omega) (sh_daAll (fun d v f h => sh_da hw d v f h) hd r)
  | k + 1, .dict kv, _, f, h => by
    cases h with
    | emp _ h _ => exact .emp h
mutual
/-- carried on: P may be sharpened by what is tracked -/
theorem Sh.on {H H' : Hp} {P P' : Addr → Prop} {b : Bool} (hp : ∀ a o, P a → H a = some o → P' a) (k : ∀ a o, P a → H a = some o → H' a = some o) : ∀ (d : PyData) (v : V), Sh H P b v d → Sh H' P' b v d
  | .none, _, h => by cases h; exact .non
  | .bool _, _, h => by cases h; exact .bl _
  | .int _, _, h => by cases h; exact .int _
  | .str _, _, h => by cases h; exact .str _
  | .list ds, _, h => by
    cases h with
    | lst h p q r => exact .lst (k _ _ p h) (hp _ _ p h) q (ShAll.on hp k ds _ r)
  | .tuple ds, _, h => by
    cases h with
    | tup h p r => exact .tup (k _ _ p h) (hp _ _ p h) (ShAll.on hp k ds _ r)
  | .dict _, _, h => by
    cases h with
    | emp q h p => exact .emp q (k _ _ p h) (hp _ _ p h)
theorem ShAll.on {H H' : Hp} {P P' : Addr → Prop} {b : Bool} (hp : ∀ a o, P a → H a = some o → P' a) (k : ∀ a o, P a → H a = some o → H' a = some o) : ∀ (ds : List PyData) (vs : List V), ShAll H P b vs ds → ShAll H' P' b vs ds
  | [], _, h => by cases h; exact .nil
  | d :: ds, _, h => by
    cases h with
    | cons h r => exact .cons (Sh.on hp k d _ h) (ShAll.on hp k ds _ r)
end
/-- all but at p is as it was -/
abbrev Kp (P : Addr → Prop) (H H' : Hp) : Prop := ∀ a o, P a → H a = some o → H' a = some o
abbrev Fr (H : Hp) : Addr → Prop := fun a => H a = none
theorem fr_back {p : Addr} {H G : Hp} {o : HO} (k : Kp (· ≠ p) H G) (hp : G p = some o) {a : Addr} (h : Fr G a) : Fr H a := by
  have na : a ≠ p := fun e => by
    rw [e] at h
    exact absurd (hp.symm.trans h) (fun z => nomatch z)
  cases e : H a with
  | none => exact e
  | some u => exact absurd ((k a u na e).symm.trans h) (fun z => nomatch z)
theorem fr_ne {p : Addr} {H : Hp} {o : HO} (hp : H p = some o) {a : Addr} (h : Fr H a) : a ≠ p := fun e => by
  rw [e] at h
  exact absurd (hp.symm.trans h) (fun z => nomatch z)
theorem Kp.trans {P : Addr → Prop} {H1 H2 H3 : Hp} (a : Kp P H1 H2) (b : Kp P H2 H3) : Kp P H1 H3 := fun x o p e => b x o p (a x o p e)
theorem kp_take {H H' : Hp} {p : Addr} (eq : ∀ b, b ≠ p → H' b = H b) : Kp (· ≠ p) H H' := fun a o n h => (eq a n).trans h
theorem kp_same {P : Addr → Prop} {G G' : Hp} (s : Same G G') : Kp P G G' := fun a o _ h => s a o h
theorem ne_free {H : Hp} {a b : Addr} {o : HO} (h : H a = some o) (n : H b = none) : b ≠ a := fun e => by
  rw [e, h] at n
  cases n
theorem pick {xs : List V} {d : Int} (d0 : 0 ≤ d) (d1 : d < (xs.length : Nat)) : ∃ v, v ∈ xs ∧ atI xs d = some v := by
  have lt : d.toNat < xs.length := by omega
  exact ⟨xs[d.toNat], List.getElem_mem lt, at_of (by omega) (List.getElem?_eq_getElem lt)⟩
end J
end Bf

namespace Bf
open PySem PySem.Spec PyProof.Rows L2
/-- how many registers, cells, ports in and out there are -/
structure Rm where
  r : Int
  c : Int
  i : Int
  o : Int
def Rm.kvs (z : Rm) : List (Key × V) := [(.inr "registers", .int z.r), (.inr "cells", .int z.c), (.inr "ins", .int z.i), (.inr "outs", .int z.o)]
def Rm.get (z : Rm) (slot : Str) : Option Int := if slot = "registers" then some z.r else if slot = "cells" then some z.c else if slot = "ins" then some z.i else if slot = "outs" then some z.o else none
theorem Rm.val (z : Rm) (slot : Str) : valV z.kvs (.inr slot) = (z.get slot).map V.int := by
  have e : ∀ a : Str, decide ((Sum.inr a : Key) = Sum.inr slot) = decide (slot = a) := fun a => by
    by_cases h : slot = a
    · rw [h]; simp
    · rw [decide_eq_false h]; exact decide_eq_false fun z => h (Sum.inr.inj z).symm
  unfold valV Rm.kvs Rm.get
  simp only [List.find?, e]
  by_cases h1 : slot = "registers"
  · subst h1; rfl
  by_cases h2 : slot = "cells"
  · subst h2; rfl
  by_cases h3 : slot = "ins"
  · subst h3; rfl
  by_cases h4 : slot = "outs"
  · subst h4; rfl
  simp only [h1, h2, h3, h4, decide_false, if_false, Option.map_none]
def WO : List Str := ["not", "and", "or", "xor", "add", "sub", "less", "same", "wide", "bit"]
def W1 : List Str := ["not", "wide", "bit"]
def FS : List (Str × List Str) := [("put", ["registers", "worth"]), ("do", ["registers", "word", "width", "args", "more"]), ("pick", ["registers", "registers", "registers", "registers"]), ("read", ["registers", "cells"]), ("write", ["cells", "registers"]), ("in", ["registers", "ins"]), ("out", ["outs", "registers"]), ("go", ["many"]), ("skip", ["registers", "truth", "many"])]
def wordD : PyData → Bool
  | .str z => inV (.str z) (WO.map V.str)
  | _ => false
def slotD (z : Rm) (b : Int) (slot : Str) (d : PyData) : Bool :=
  match z.get slot with
  | some n => wholeD d 0 (n - 1)
  | none =>
    if decide (V.str slot = V.str "worth") = true then wholeD d 0 255 else if decide (V.str slot = V.str "word") = true then wordD d else if decide (V.str slot = V.str "width") = true then wholeD d 1 8 else
    if decide (V.str slot = V.str "truth") = true then wholeD d 0 1 else if decide (V.str slot = V.str "many") = true then wholeD d 1 b else true
namespace J
section
variable {P : Program} {w : World} {K : PySem.W.Frag} {mg : Str → Option Value} {base : Heap}
/-- the tables of the program -/
structure Tbs (K : PySem.W.Frag) (w : World) (mg : Str → Option Value) (aF aW aO : Addr) : Prop where
  gF : mg "FORMS_OF_STEPS" = some (.ref aF)
  gW : mg "WORDS" = some (.ref aW)
  gO : mg "WORDS_OF_ONE" = some (.ref aO)
  tF : ∃ tb, Dct K w aF tb ∧ ∀ z, (lk z FS = none → lk z tb = none) ∧ ∀ ss, lk z FS = some ss → ∃ a, lk z tb = some (.ref a) ∧ ∀ H, SqT K H a (ss.map V.str)
  sW : ∀ H, SqT K H aW (WO.map V.str)
  sO : ∀ H, SqT K H aO (W1.map V.str)
/-- the small defs that are called -/
structure Sml (P : Program) (w : World) (K : PySem.W.Frag) (mg : Str → Option Value) (base : Heap) (fn fh fw ft : Addr) (dn dh dw dt : FuncData) : Prop where
  Dn : Df K mg "is_number" fn dn ["thing"]
  Gn : FnOk P w K mg base CX0 1 fn dn ["thing"] (spNum K)
  Dh : Df K mg "is_whole" fh dh ["thing", "low", "high"]
  Gh : FnOk P w K mg base CX0 2 fh dh ["thing", "low", "high"] (spWhole K)
  Dw : Df K mg "is_width" fw dw ["thing"]
  Gw : FnOk P w K mg base CX0 3 fw dw ["thing"] (spOne K 1 8)
  Dt : Df K mg "is_truth" ft dt ["thing"]
  Gt : FnOk P w K mg base CX0 3 ft dt ["thing"] (spOne K 0 1)
  mi : mg "isinstance" = none
  mt : mg "tuple" = none
  ms : mg "str" = none
  ml : mg "len" = none
  ma : mg "all" = none
  mz : mg "zip" = none
  me : mg "enumerate" = none
variable {aF aW aO fn fh fw ft : Addr} {dn dh dw dt : FuncData}
def spFits : Sp := fun vs H Q _ => ∃ (slot : Str) (x : V) (d : PyData) (rm : Addr) (z : Rm) (b : Int), vs = [.str slot, x, .ref rm, .int b] ∧ Da H x d ∧ H rm = some (.dK z.kvs) ∧ Q (.bl (slotD z b slot d)) H
abbrev nFits : List Str := ["slot", "thing", "room", "behind"]
theorem scFits : FnScope nFits nFits (defScope sFits) := ⟨rfl, rfl, rfl, by decide +kernel, rfl, by decide +kernel, by decide +kernel⟩
theorem ok_fits {f : Addr} {fd : FuncData} (F : Fun K "_fits_slot" "_fits_slot" sFits f fd) (T : Tbs K w mg aF aW aO) (S : Sml P w K mg base fn fh fw ft dn dh dw dt) : FnOk P w K mg base CX0 4 f fd nFits spFits := by
  refine F.ok scFits (fun vs H Q E h => ?_) (fun cdv A outer s H vs Q E hr h => ?_)
  · obtain ⟨slot, x, d, rm, z, b, rfl, _⟩ := h
    rfl
  · obtain ⟨slot, x, d, rm, z, b, rfl, da, hm, q⟩ := h
    have hr2 := hr.mono (by decide : 2 ≤ 3)
    have hr3 := hr.mono (by decide : 3 ≤ 3)
    have hu1 := hr.units
    have hu1 : (A.deeper (envOfC "_fits_slot" (defScope sFits) s.heap.objs.size f cdv)).units + 1 < cLine := by omega
    refine ⟨_, (pss_cons (ps_if (pt_cmp (pc_din hu1 (pv 0) (pv 2)) (by rfl)) (pss_one (ps_ret (pe_call S.Gh hr2 (by rfl) S.Dh.at_ S.Dh.kp S.Dh.bd .nil pass0 (pa_cons (pv 1) (pa_cons pe_int (pa_cons (pe_op op_sub (pe_dget hu1 (pv 2) (pv 0) (fun _ _ => rfl)) pe_int) pa_nil)))))) pss_nil)
        (pss_cons (ps_if (pt_cmpR op_eq (pv 0) pe_str (nomark _)) (pss_one (ps_ret (pe_call S.Gh hr2 (by rfl) S.Dh.at_ S.Dh.kp S.Dh.bd .nil pass0 (pa_cons (pv 1) (pa_cons pe_int (pa_cons pe_int pa_nil)))))) pss_nil)
        (pss_cons (ps_if (pt_cmpR op_eq (pv 0) pe_str (nomark _)) (pss_one (ps_ret (pe_and (pe_callB call_isi (by rfl) S.mi (by decide +kernel) (pa_cons (pv 1) (pa_cons (pe_bltn (v := .ty "str") (by rfl) S.ms (by decide +kernel) rfl) pa_nil))) (pe_one (pe_cmpR op_in_seq (pv 1) (pe_glob (v := .ref aW) (by rfl) T.gW rfl) (by rfl)))))) pss_nil)
        (pss_cons (ps_if (pt_cmpR op_eq (pv 0) pe_str (nomark _)) (pss_one (ps_ret (pe_call S.Gw hr3 (by rfl) S.Dw.at_ S.Dw.kp S.Dw.bd .nil pass0 (pa_cons (pv 1) pa_nil)))) pss_nil)
        (pss_cons (ps_if (pt_cmpR op_eq (pv 0) pe_str (nomark _)) (pss_one (ps_ret (pe_call S.Gt hr3 (by rfl) S.Dt.at_ S.Dt.kp S.Dt.bd .nil pass0 (pa_cons (pv 1) pa_nil)))) pss_nil)
        (pss_cons (ps_if (pt_cmpR op_eq (pv 0) pe_str (nomark _)) (pss_one (ps_ret (pe_call S.Gh hr2 (by rfl) S.Dh.at_ S.Dh.kp S.Dh.bd .nil pass0 (pa_cons (pv 1) (pa_cons pe_int (pa_cons (pv 3) pa_nil)))))) pss_nil)
        (pss_one (ps_ret pe_bl)))))))), ?_⟩
    unfold slotD at q
    have kv := z.val slot
    have dg : DGet H rm (.str slot) ((z.get slot).map V.int) := by rw [← kv]; exact DGet.k (k := .inr slot) hm
    refine ⟨_, rfl, _, rfl, rm, _, rfl, dg, _, rfl, ?_⟩
    cases e : z.get slot with
    | some n =>
      rw [e] at dg q
      have q0 : Q (.bl (wholeD d 0 (n - 1))) H := q
      rw [← da.whole] at q0
      exact iteT ⟨_, rfl, _, rfl, _, rfl, rm, _, rfl, dg, _, _, rfl, rfl, x, _, 0, n - 1, rfl, da.kn, q0⟩
    | none =>
      rw [e] at dg q
      dsimp only at q
      refine iteF ⟨_, rfl, rfl, _, rfl, ite2 (fun h => ?_) (fun h => ?_)⟩
      · rw [if_pos h, ← da.whole] at q
        exact ⟨_, rfl, x, _, 0, 255, rfl, da.kn, q⟩
      rw [if_neg h] at q
      refine ⟨_, rfl, rfl, _, rfl, ite2 (fun h => ?_) (fun h => ?_)⟩
      · rw [if_pos h] at q
        refine ⟨_, rfl, x, .ty "str", _, _, _, rfl, .ty "str", da.kn.ty, kit_ty (kit_str d), _, rfl, ?_⟩
        cases da with
        | str y hy => exact iteT ⟨_, rfl, aW, _, rfl, .inr (T.sW H), rfl, by decide +kernel, q⟩
        | _ => exact iteF q
      rw [if_neg h] at q
      refine ⟨_, rfl, rfl, _, rfl, ite2 (fun h => ?_) (fun h => ?_)⟩
      · rw [if_pos h, ← da.whole] at q
        exact ⟨_, rfl, x, _, rfl, da.kn, q⟩
      rw [if_neg h] at q
      refine ⟨_, rfl, rfl, _, rfl, ite2 (fun h => ?_) (fun h => ?_)⟩
      · rw [if_pos h, ← da.whole] at q
        exact ⟨_, rfl, x, _, rfl, da.kn, q⟩
      rw [if_neg h] at q
      refine ⟨_, rfl, rfl, _, rfl, ite2 (fun h => ?_) (fun h => ?_)⟩
      · rw [if_pos h, ← da.whole] at q
        exact ⟨_, rfl, _, rfl, x, _, 1, b, rfl, da.kn, q⟩
      rw [if_neg h] at q
      exact q
end
end J
end Bf

namespace Bf
open PySem PySem.Spec PyProof.Rows L2
def oneB (w : Str) : Bool := inV (.str w) (W1.map V.str)
def regsD (z : Rm) (ds : List PyData) : Bool := (ds.map fun d => wholeD d 0 (z.r - 1)).all id
def moreD (w : Str) (n : Int) (more : PyData) : Bool := if decide (V.str w = V.str "wide") = true then wholeD more 1 8 else wholeD more 0 (if decide (V.str w = V.str "bit") = true then n - 1 else 0)
def reckD (z : Rm) (w : Str) (n : Int) (args more : PyData) : Bool := match args with
  | .tuple ds => decide (V.int (ds.length : Nat) = V.int (if oneB w = true then 1 else 2)) && (regsD z ds && moreD w n more)
  | _ => false
def reckR (z : Rm) : List PyData → Bool
  | [_, .str w, .int n, args, more] => reckD z w n args more
  | _ => false
def insD (z : Rm) (b : Int) : PyData → Bool
  | .tuple (.str c :: rest) => match lk c FS with
    | some ss => decide (rest.length = ss.length) && (List.zipWith (slotD z b) ss rest).all id && (!decide (V.str c = V.str "do") || reckR z rest)
    | none => false
  | _ => false
theorem ins_eq {z : Rm} {b : Int} {c : Str} {rest : List PyData} {ss : List Str} (e : lk c FS = some ss) : insD z b (.tuple (.str c :: rest)) = (decide (rest.length = ss.length) && (List.zipWith (slotD z b) ss rest).all id && (!decide (V.str c = V.str "do") || reckR z rest)) := by
  show (match lk c FS with | some ss => _ | none => false) = _
  rw [e]
theorem lk_len {α : Type} {c : Str} {v : α} {p : α → Bool} : ∀ {l : List (Str × α)}, l.all (fun x => p x.2) = true → lk c l = some v → p v = true
  | [], _, e => by cases e
  | (k, u) :: r, h, e => by
    obtain ⟨a, b⟩ := Bool.and_eq_true_iff.mp (show (p u && r.all fun x => p x.2) = true from h)
    unfold lk at e
    split at e
    · cases e; exact a
    · exact lk_len b e
theorem fs_len {c : Str} {ss : List Str} (e : lk c FS = some ss) : 1 ≤ ss.length ∧ ss.length ≤ 5 := by
  have z := lk_len (p := fun l : List Str => decide (1 ≤ l.length) && decide (l.length ≤ 5)) (l := FS) (by decide +kernel) e
  obtain ⟨a, b⟩ := Bool.and_eq_true_iff.mp z
  exact ⟨of_decide_eq_true a, of_decide_eq_true b⟩
theorem cut_from {xs : List V} {k : Nat} : cutV xs (some (k : Int)) none = xs.drop k := by
  unfold cutV
  rw [HT.sIx_none, HT.sIx_nat]
  by_cases h : k ≤ xs.length
  · rw [Nat.min_eq_left h]
    have e : xs.length - k = (xs.drop k).length := by rw [List.length_drop]
    rw [e, List.take_length]
  · rw [Nat.min_eq_right (by omega), Nat.sub_self, List.take_zero, List.drop_eq_nil_of_le (by omega)]
theorem not_whole {xs : List V} {k : Nat} (hk : 0 < k) (h : 0 < xs.length) : ¬ (HT.sIx xs.length 0 (some (k : Int)) = 0 ∧ HT.sIx xs.length xs.length none = xs.length) := by
  rw [HT.sIx_nat]
  omega
theorem zw_get {α β γ : Type} (f : α → β → γ) : ∀ {as : List α} {bs : List β} {i : Nat} {a : α} {b : β}, as[i]? = some a → bs[i]? = some b → (List.zipWith f as bs)[i]? = some (f a b)
  | _ :: _, _ :: _, 0, _, _, h, k => by cases h; cases k; rfl
  | _ :: as, _ :: bs, i + 1, _, _, h, k => zw_get f (as := as) (bs := bs) (i := i) h k
theorem if_tC {b : Bool} {v u : V} {σ : L2.St} {H : Hp} {Q : VK} (h : Q (if b = true then v else u) H) : if b = true then tC v σ H Q else tC u σ H Q := by
  cases b <;> exact h
namespace J
section
variable {P : Program} {w : World} {K : PySem.W.Frag} {mg : Str → Option Value} {base : Heap}
variable {aF aW aO fn fh fw ft : Addr} {dn dh dw dt : FuncData}
/-! ### _is_reckoning -/
def spReck : Sp := fun vs H Q _ => ∃ (x : V) (d0 d1 args more : PyData) (y : Str) (n : Int) (rm : Addr) (z : Rm), vs = [x, .ref rm] ∧ Da H x (.tuple [d0, d1, .str y, .int n, args, more]) ∧ H rm = some (.dK z.kvs) ∧ ∀ H', Same H H' → Q (.bl (reckD z y n args more)) H'
abbrev nReck : List Str := ["step", "room", "_", "word", "width", "args", "more", "wanted", "arg"]
theorem scReck : FnScope nReck ["step", "room"] (defScope sReck) := ⟨rfl, rfl, rfl, by decide +kernel, rfl, by decide +kernel, by decide +kernel⟩
theorem ok_reck {f : Addr} {fd : FuncData} (F : Fun K "_is_reckoning" "_is_reckoning" sReck f fd) (T : Tbs K w mg aF aW aO) (S : Sml P w K mg base fn fh fw ft dn dh dw dt) : FnOk P w K mg base CX0 4 f fd ["step", "room"] spReck := by
  refine F.ok scReck (fun vs H Q E h => ?_) (fun cdv A outer s H vs Q E hr h => ?_)
  · obtain ⟨x, d0, d1, args, more, y, n, rm, z, rfl, _⟩ := h
    rfl
  · obtain ⟨x, d0, d1, args, more, y, n, rm, z, rfl, da, hm, q⟩ := h
    have hr2 := hr.mono (by decide : 2 ≤ 3)
    have hr3 := hr.mono (by decide : 3 ≤ 3)
    have hu := hr.units
    have hu1 : (A.deeper (envOfC "_is_reckoning" (defScope sReck) s.heap.objs.size f cdv)).units + 1 < cLine := by omega
    refine ⟨_, (pss_cons (ps_asg (pv 0) (pg_tup rfl (pgs_cons (pg_name (i := 2) scReck.nd rfl (Or.inl rfl)) (pgs_cons (pg_name (i := 2) scReck.nd rfl (Or.inl rfl)) (pgs_cons (pg_name (i := 3) scReck.nd rfl (Or.inl rfl)) (pgs_cons (pg_name (i := 4) scReck.nd rfl (Or.inl rfl)) (pgs_cons (pg_name (i := 5) scReck.nd rfl (Or.inl rfl)) (pgs_cons (pg_name (i := 6) scReck.nd rfl (Or.inl rfl)) pgs_nil))))))))
        (pss_cons (ps_set (i := 7) scReck.nd rfl (Or.inl rfl) (pe_ifExp (pt_cmpR op_in_seq (pv 3) (pe_glob (v := .ref aO) (by rfl) T.gO rfl) (by rfl)) pe_int pe_int))
        (pss_cons (ps_if (PW.pt (pw_or (pt_not (pt_val (pe_callB call_isi (by rfl) S.mi (by decide +kernel) (pa_cons (pv 5) (pa_cons (pe_bltn (v := .ty "tuple") (by rfl) S.mt (by decide +kernel) rfl) pa_nil))))) (pw_or1 (pt_cmpR op_ne (pe_callB call_len_seq (by rfl) S.ml PySem.boot_len (pa_cons (pv 5) pa_nil)) (pv 7) (nomark _))))) (pss_one (ps_ret pe_bl)) pss_nil)
        (pss_cons (ps_if (pt_not (pt_val (pe_callB (cr_all rfl) (by rfl) S.ma (by decide +kernel) (pa_cons (pe_lc (own := [("arg", 8)]) (g := gName 8) (tt := tYes) rfl scReck.nd (pi_tup (pv 5)) (blkOk_by (N := nReck) (sc := defScope sReck) (by decide +kernel)) (fun _ _ _ _ _ => pg_name (i := 8) scReck.nd rfl (Or.inl rfl)) (fun _ _ _ _ _ => pts_nil) (fun _ _ _ _ _ => (pe_call S.Gh hr2 (by rfl) S.Dh.at_ S.Dh.kp S.Dh.bd .nil pass0 (pa_cons (pv 8) (pa_cons pe_int (pa_cons (pe_op op_sub (pe_dget hu1 (pv 1) pe_str (fun _ _ => rfl)) pe_int) pa_nil)))))) pa_nil)))) (pss_one (ps_ret pe_bl)) pss_nil)
        (pss_cons (ps_if (pt_cmpR op_eq (pv 3) pe_str (nomark _)) (pss_one (ps_ret (pe_call S.Gw hr3 (by rfl) S.Dw.at_ S.Dw.kp S.Dw.bd .nil pass0 (pa_cons (pv 6) pa_nil)))) pss_nil)
        (pss_one (ps_ret (pe_call S.Gh hr2 (by rfl) S.Dh.at_ S.Dh.kp S.Dh.bd .nil pass0 (pa_cons (pv 6) (pa_cons pe_int (pa_cons (pe_ifExp (pt_cmpR op_eq (pv 3) pe_str (nomark _)) (pe_op op_sub (pv 4) pe_int) pe_int) pa_nil))))))))))), ?_⟩
    cases da with
    | @tup a xs _ h l r =>
    match r with
    | .cons (v := v0) h0 (.cons (v := v1) h1 (.cons (v := v2) h2 (.cons (v := v3) h3 (.cons (v := v4) h4 (.cons (v := v5) h5 .nil))))) =>
    cases h2 with
    | str _ ly =>
    cases h3 with
    | int _ =>
    have q0 := q H (Same.refl H)
    refine ⟨_, rfl, a, _, rfl, SqT.of h, rfl, _, _, rfl, _, _, rfl, _, _, rfl, _, _, rfl, _, _, rfl, _, _, rfl, rfl, ?_⟩
    refine ⟨_, rfl, aO, _, rfl, .inr (T.sO H), rfl, by decide +kernel, _, rfl, ?_⟩
    rw [show inV (.str y) (W1.map V.str) = oneB y from rfl]
    refine if_tC (b := oneB y) ?_
    refine ⟨_, rfl, v4, .ty "tuple", _, _, _, rfl, .ty "tuple", h4.kn.ty, kit_ty (kit_tup args), _, rfl, ?_⟩
    cases h4 with
    | @tup b ys ds hb lb rb =>
      refine iteF ⟨_, rfl, b, ys, rfl, .inr (SqT.of hb), _, rfl, (by cases oneB y <;> rfl), _, rfl, ?_⟩
      have el := rb.len
      have ev : V.int (if oneB y = true then 1 else 2) = if oneB y = true then V.int 1 else V.int 2 := by cases oneB y <;> rfl
      unfold reckD at q q0
      dsimp only at q q0
      rw [← el, ev] at q q0
      by_cases e : V.int (ys.length : Nat) = if oneB y = true then V.int 1 else V.int 2
      · rw [decide_eq_true e, Bool.true_and] at q q0
        refine iteN (by rw [decide_eq_true e]; rfl) ?_
        refine ⟨_, rfl, b, rfl, ⟨ys, SqT.of hb⟩, fun D hD => lc_tup (K := K) (a := b) (xs := ys) (fun i H' => Same H H' ∧ H' D = some (.lst (((ds.map fun d => wholeD d 0 (z.r - 1)).take i).map V.bl))) ⟨same_new hD, upd_same⟩
            (fun i H' _ pv => SqT.of (pv.1 _ _ hb)) (fun i u H' hu pv => ?_) fun H' pv => ?_⟩
        · obtain ⟨du, hdu, dau⟩ := rb.get hu
          have hi := (List.getElem?_eq_some_iff.mp hu).1
          have hm' := pv.1 _ _ hm
          have dg : DGet H' rm (.str "registers") (some (.int z.r)) := DGet.k (k := .inr "registers") hm'
          refine ⟨rfl, _, rfl, _, rfl, rm, _, rfl, dg, _, _, rfl, rfl, u, _, 0, z.r - 1, rfl, kn_same pv.1 dau.kn, _, pv.2, ?_, fun c o e => ?_, ?_⟩
          · rw [List.length_map, List.length_take]
            exact small1000 (by omega)
          · rw [upd_ne (ne_of_none e hD)]
            exact pv.1 _ _ e
          · rw [upd_same, List.take_add_one, List.getElem?_map, hdu, dau.whole, List.map_append]
            rfl
        · rw [el, show ds.length = (ds.map fun d => wholeD d 0 (z.r - 1)).length from (List.length_map _).symm, List.take_length] at pv
          have s1 := pv.1
          refine ⟨D, _, rfl, SqL.of pv.2, _, rfl, ?_⟩
          by_cases hf : regsD z ds = true
          · rw [hf, Bool.true_and] at q q0
            have q1 := q _ s1
            unfold moreD at q1
            rw [show (ds.map fun d => wholeD d 0 (z.r - 1)).all id = regsD z ds from rfl, hf]
            refine iteF ⟨_, rfl, rfl, _, rfl, ite2 (fun h => ?_) (fun h => ?_)⟩
            · rw [if_pos h, ← h5.whole] at q1
              exact ⟨_, rfl, v5, _, rfl, kn_same s1 h5.kn, q1⟩
            · rw [if_neg h, ← h5.whole] at q1
              refine ⟨_, rfl, _, rfl, rfl, _, rfl, ite2 (fun h' => ?_) (fun h' => ?_)⟩
              · rw [if_pos h'] at q1
                exact ⟨_, rfl, _, _, rfl, rfl, v5, _, 0, n - 1, rfl, kn_same s1 h5.kn, q1⟩
              · rw [if_neg h'] at q1
                exact ⟨v5, _, 0, 0, rfl, kn_same s1 h5.kn, q1⟩
          · have hf' := Bool.eq_false_iff.mpr hf
            rw [hf', Bool.false_and] at q
            rw [show (ds.map fun d => wholeD d 0 (z.r - 1)).all id = regsD z ds from rfl, hf']
            exact iteT (q _ s1)
      · rw [decide_eq_false e, Bool.false_and] at q0
        exact iteB (by rw [decide_eq_false e]; rfl) q0
    | _ => exact iteT q0
end
end J
end Bf

namespace Bf
open PySem PySem.Spec PyProof.Rows L2
namespace J
section
variable {P : Program} {w : World} {K : PySem.W.Frag} {mg : Str → Option Value} {base : Heap}
variable {aF aW aO fn fh fw ft : Addr} {dn dh dw dt : FuncData}
/-! ### _is_instruction -/
def spIsI : Sp := fun vs H Q _ => ∃ (x : V) (d : PyData) (rm : Addr) (z : Rm) (b : Int), vs = [x, .ref rm, .int b] ∧ Da H x d ∧ H rm = some (.dK z.kvs) ∧ ∀ H', Same H H' → Q (.bl (insD z b d)) H'
abbrev nIsI : List Str := ["thing", "room", "behind", "word", "slots", "slot", "held"]
abbrev pIsI : List Str := ["thing", "room", "behind"]
theorem scIsI : FnScope nIsI pIsI (defScope sIsI) := ⟨rfl, rfl, rfl, by decide +kernel, rfl, by decide +kernel, by decide +kernel⟩
set_option maxHeartbeats 1000000 in
theorem ok_isi {f ff fo : Addr} {fd df do_ : FuncData} (F : Fun K "_is_instruction" "_is_instruction" sIsI f fd) (T : Tbs K w mg aF aW aO) (S : Sml P w K mg base fn fh fw ft dn dh dw dt)
    (Df_ : Df K mg "_fits_slot" ff df nFits) (Gf : FnOk P w K mg base CX0 4 ff df nFits spFits) (Do : Df K mg "_is_reckoning" fo do_ ["step", "room"]) (Go : FnOk P w K mg base CX0 4 fo do_ ["step", "room"] spReck) : FnOk P w K mg base CX0 5 f fd pIsI spIsI := by
  obtain ⟨tb, DF, FF⟩ := T.tF
  refine F.ok scIsI (fun vs H Q E h => ?_) (fun cdv A outer s H vs Q E hr h => ?_)
  · obtain ⟨x, d, rm, z, b, rfl, _⟩ := h
    rfl
  · obtain ⟨x, d, rm, z, b, rfl, da, hm, q⟩ := h
    have hr4 := hr.mono (by decide : 4 ≤ 4)
    refine ⟨_, (pss_cons (ps_if (PW.pt (pw_or (pt_not (pt_val (pe_callB call_isi (by rfl) S.mi (by decide +kernel) (pa_cons (pv 0) (pa_cons (pe_bltn (v := .ty "tuple") (by rfl) S.mt (by decide +kernel) rfl) pa_nil))))) (pw_or1 (pt_cmpR op_eq (pe_callB call_len_seq (by rfl) S.ml PySem.boot_len (pa_cons (pv 0) pa_nil)) pe_int (nomark _))))) (pss_one (ps_ret pe_bl)) pss_nil)
        (pss_cons (ps_set (i := 3) scIsI.nd rfl (Or.inl rfl) (pe_ix ix_tup (pv 0) pe_int (fun _ _ => rfl)))
        (pss_cons (ps_if (PW.pt (pw_or (pt_not (pt_val (pe_callB call_isi (by rfl) S.mi (by decide +kernel) (pa_cons (pv 3) (pa_cons (pe_bltn (v := .ty "str") (by rfl) S.ms (by decide +kernel) rfl) pa_nil))))) (pw_or1 (pt_cmpR (op_notIn_dct DF) (pv 3) (pe_glob (v := .ref aF) (by rfl) T.gF rfl) (by rfl))))) (pss_one (ps_ret pe_bl)) pss_nil)
        (pss_cons (ps_set (i := 4) scIsI.nd rfl (Or.inl rfl) (pe_ix (ix_dct DF) (pe_glob (v := .ref aF) (by rfl) T.gF rfl) (pv 3) (fun _ _ => rfl)))
        (pss_cons (ps_if (pt_cmpR op_ne (pe_callB call_len_seq (by rfl) S.ml PySem.boot_len (pa_cons (pv 0) pa_nil)) (pe_op op_add (pe_callB call_len_seq (by rfl) S.ml PySem.boot_len (pa_cons (pv 4) pa_nil)) pe_int) (nomark _)) (pss_one (ps_ret pe_bl)) pss_nil)
        (pss_cons (ps_if (pt_not (pt_val (pe_callB (cr_all rfl) (by rfl) S.ma (by decide +kernel) (pa_cons (pe_lc (own := [("slot", 5), ("held", 6)]) (g := gTup K 2 (gCons (gName 5) (gCons (gName 6) gNil))) (tt := tYes) rfl scIsI.nd (RZ.pi_zipA (by rfl) S.mz (pa_cons (pv 4) (pa_cons (pe_slice sl_tupA (pv 0) (po_some pe_int) po_none) pa_nil)))
          (blkOk_by (N := nIsI) (sc := defScope sIsI) (by decide +kernel)) (fun _ _ _ _ _ => pg_tup rfl (pgs_cons (pg_name (i := 5) scIsI.nd rfl (Or.inl rfl)) (pgs_cons (pg_name (i := 6) scIsI.nd rfl (Or.inl rfl)) pgs_nil))) (fun _ _ _ _ _ => pts_nil)
          (fun _ _ _ _ _ => pe_call Gf hr4 (by rfl) Df_.at_ Df_.kp Df_.bd .nil pass0 (pa_cons (pv 5) (pa_cons (pv 6) (pa_cons (pv 1) (pa_cons (pv 2) pa_nil)))))) pa_nil)))) (pss_one (ps_ret pe_bl)) pss_nil)
        (pss_one (ps_ret (pe_or (pe_cmpR op_ne (pv 3) pe_str (nomark _)) (pe_one (pe_call Go hr4 (by rfl) Do.at_ Do.kp Do.bd .nil pass0 (pa_cons (pv 0) (pa_cons (pv 1) pa_nil))))))))))))), ?_⟩
    refine ⟨_, rfl, x, .ty "tuple", _, _, _, rfl, .ty "tuple", da.kn.ty, kit_ty (kit_tup d), _, rfl, ?_⟩
    have q0 := q H (Same.refl H)
    cases da with
    | @tup a xs ds h l r =>
      refine iteF ⟨_, rfl, a, xs, rfl, .inr (SqT.of h), rfl, _, rfl, ?_⟩
      cases r with
      | nil => exact iteB (by rfl) q0
      | @cons v vs d1 rest hv rv =>
        have nz : ¬ V.int (((v :: vs).length : Nat) : Int) = V.int 0 := fun z => by have := V.int.inj z; rw [List.length_cons] at this; omega
        refine iteN (decide_eq_false nz) ?_
        refine ⟨_, rfl, a, _, ((0 : Nat) : Int), v, rfl, rfl, SqT.of h, atI_nat rfl, ?_⟩
        refine ⟨_, rfl, v, .ty "str", _, _, _, rfl, .ty "str", hv.kn.ty, kit_ty (kit_str d1), _, rfl, ?_⟩
        cases hv with
        | str c hc =>
          refine iteF ⟨_, rfl, c, rfl, rfl, _, rfl, ?_⟩
          cases e : lk c FS with
          | none =>
            refine iteB (by rw [(FF c).1 e]; rfl) ?_
            have e0 : insD z b (.tuple (.str c :: rest)) = false := by
              show (match lk c FS with | some ss => _ | none => false) = _
              rw [e]
            rw [e0] at q0
            exact q0
          | some ss =>
            obtain ⟨g, lb, sb⟩ := (FF c).2 ss e
            rw [ins_eq e] at q q0
            refine iteN (by rw [lb]; rfl) ?_
            refine ⟨_, rfl, c, .ref g, rfl, rfl, lb, ?_⟩
            refine ⟨_, rfl, a, _, rfl, .inr (SqT.of h), _, rfl, g, _, rfl, .inr (sb _), _, _, rfl, rfl, rfl, _, rfl, ?_⟩
            have lv := rv.len
            by_cases hl : rest.length = ss.length
            · rw [decide_eq_true hl, Bool.true_and] at q q0
              refine iteN (by rw [decide_eq_true (show V.int (((V.str c :: vs).length : Nat) : Int) = V.int (((ss.map V.str).length : Nat) + 1) by rw [List.length_cons, List.length_map, lv, hl]; rfl)]; rfl) ?_
              refine ⟨_, rfl, _, rfl, 1, rfl, a, _, rfl, SqT.of h, (fun z => absurd z (not_whole (k := 1) (by decide) (by simp))), fun _ t ht => ?_⟩
              have ec : cutV (V.str c :: vs) (some (1 : Int)) none = vs := cut_from (k := 1)
              rw [ec]
              have s1 : Same H (upd H t (.tup vs)) := same_new ht
              have rv1 := rv.same s1
              refine ⟨g, t, ss.map V.str, vs, rfl, .inr ⟨sb _, SqT.of upd_same, fun D hD => ?_⟩⟩
              refine lc_itzT (K := K) (a := g) (b := t) (xs := ss.map V.str) (ys := vs) (by rw [List.length_map, lv, hl]) (fun i H' => Same (upd H t (.tup vs)) H' ∧ H' D = some (.lst (((List.zipWith (slotD z b) ss rest).take i).map V.bl))) ⟨same_new hD, upd_same⟩
                (fun i H' _ pv => ⟨sb _, SqT.of (pv.1 _ _ upd_same)⟩) (fun i x y H' T' hx hy pv hT => ?_) fun H' pv => ?_
              · rw [List.getElem?_map] at hx
                cases hj : ss[i]? with
                | none => rw [hj] at hx; cases hx
                | some sl =>
                  rw [hj] at hx
                  cases hx
                  obtain ⟨dy, hdy, day⟩ := (rv1.same pv.1).get hy
                  have nTD : T' ≠ D := fun e => by rw [e, pv.2] at hT; cases hT
                  have sT : Same H' (upd H' T' (.tup [.str sl, y])) := same_new hT
                  refine ⟨T', _, rfl, SqT.of upd_same, rfl, _, _, rfl, _, _, rfl, rfl, rfl, _, rfl, _, rfl, _, rfl, _, rfl, sl, y, dy, rm, z, b, rfl, day.same sT, sT _ _ (pv.1 _ _ (s1 _ _ hm)), _, (upd_ne nTD.symm).trans pv.2, ?_, fun c o e => ?_, ?_⟩
                  · rw [List.length_map, List.length_take]
                    have := (fs_len e).2
                    have := (List.getElem?_eq_some_iff.mp hj).1
                    exact small1000 (by omega)
                  · rw [upd_ne (ne_of_none e hD)]
                    exact sT _ _ (pv.1 _ _ e)
                  · rw [upd_same, List.take_add_one, zw_get (slotD z b) hj hdy, List.map_append]
                    rfl
              · have lz : (List.zipWith (slotD z b) ss rest).length = ss.length := by rw [List.length_zipWith, hl, Nat.min_self]
                rw [List.length_map, ← lz, List.take_length] at pv
                have s2 : Same H H' := s1.trans pv.1
                refine ⟨D, _, rfl, SqL.of pv.2, _, rfl, ?_⟩
                by_cases hf : (List.zipWith (slotD z b) ss rest).all id = true
                · rw [hf, Bool.true_and] at q q0
                  rw [hf]
                  refine iteF ⟨_, rfl, rfl, _, rfl, ite2 (fun h1 => ?_) (fun h1 => ?_)⟩
                  · rw [show (!decide (V.str c = V.str "do")) = true from h1, Bool.true_or] at q
                    exact q _ s2
                  · have h1' : (!decide (V.str c = V.str "do")) = false := Bool.eq_false_iff.mpr h1
                    rw [h1', Bool.false_or] at q
                    have cl : c = "do" := by
                      have := of_decide_eq_true (show decide (V.str c = V.str "do") = true by simpa using h1')
                      exact V.str.inj this
                    subst cl
                    have ess : ss = (["registers", "word", "width", "args", "more"] : List Str) := by
                      have e2 : lk "do" FS = some (["registers", "word", "width", "args", "more"] : List Str) := by decide +kernel
                      rw [e2] at e
                      exact (Option.some.inj e).symm
                    subst ess
                    match rest, hl, rv, hf with
                    | [d1, d2, d3, d4, d5], _, rv, hf =>
                      have hd2 : wordD d2 = true := by
                        have := (List.all_eq_true.mp hf) (slotD z b "word" d2) (List.mem_cons_of_mem _ List.mem_cons_self)
                        exact this
                      have hd3 : wholeD d3 1 8 = true := by
                        have := (List.all_eq_true.mp hf) (slotD z b "width" d3) (List.mem_cons_of_mem _ (List.mem_cons_of_mem _ List.mem_cons_self))
                        exact this
                      cases d2 with
                      | str y =>
                        cases d3 with
                        | int n => exact ⟨_, rfl, _, rfl, _, .str "do", d1, d4, d5, y, n, rm, z, rfl, (Da.tup h l (.cons (.str _ hc) rv)).same s2, s2 _ _ hm, fun H'' s'' => q _ (s2.trans s'')⟩
                        | _ => cases hd3
                      | _ => cases hd2
                · have hf' := Bool.eq_false_iff.mpr hf
                  rw [hf', Bool.false_and] at q
                  rw [hf']
                  exact iteT (q _ s2)
            · rw [decide_eq_false hl, Bool.false_and, Bool.false_and] at q0
              refine iteB (by rw [decide_eq_false (fun z => hl (by have := V.int.inj z; rw [List.length_cons, List.length_map] at this; omega))]; rfl) q0
        | _ => exact iteT q0
    | _ => exact iteT q0
end
end J
end Bf

namespace Bf
open PySem PySem.Spec PyProof.Rows L2
theorem lenK {X : Cx} {K : PySem.W.Frag} (h : X.K = K) : CallR X (.builtin "len") (fun xs H Q => ∃ p ys, xs = [.ref p] ∧ (SqL K H p ys ∨ SqT K H p ys) ∧ Q (.int ys.length) H) := by
  subst h
  exact call_len_seq
theorem ixT {X : Cx} {K : PySem.W.Frag} (h : X.K = K) : IxR X (rIxT K) := by
  subst h
  exact ix_tup
theorem ixL {X : Cx} {K : PySem.W.Frag} (h : X.K = K) : IxR X (rIxL K) := by
  subst h
  exact ix_list
theorem call_isiB {X : Cx} : CallR X (.builtin "isinstance") (fun xs H Q => rIsi X.K xs H Q ∨ rIsiE X.K xs H Q) := call_isi2 fun _ _ _ h => h
def stepsL (z : Rm) (ds : List PyData) : List Bool := ds.mapIdx fun i d => insD z ((ds.length : Nat) - (i : Nat) - 1) d
def stepsD (z : Rm) : PyData → Bool
  | .tuple ds => (stepsL z ds).all id
  | _ => false
/-- x is data, or an exception of the class C -/
inductive Th (K : PySem.W.Frag) (C : Addr) (cd : ClassData) (H : Hp) : V → Option PyData → Prop
  | dat {x : V} {d : PyData} (h : Da H x d) : Th K C cd H x (some d)
  | exc {a : Addr} {z : Str} (h : ExV H a C z) (f : ExF K C cd) (k : PySem.W.kitOne K (.ref C) (.type "tuple") = some false) : Th K C cd H (.ref a) none
def stepsO (z : Rm) : Option PyData → Bool
  | some d => stepsD z d
  | none => false
theorem Th.same {K : PySem.W.Frag} {C : Addr} {cd : ClassData} {H H' : Hp} {x : V} {o : Option PyData} (s : Same H H') (h : Th K C cd H x o) : Th K C cd H' x o := by
  cases h with
  | dat h => exact .dat (h.same s)
  | exc h f k => exact .exc (h.same s) f k
/-- isinstance(x, tuple) -/
theorem Th.isT {K : PySem.W.Frag} {C : Addr} {cd : ClassData} {H : Hp} {x : V} {o : Option PyData} {Q : VK} (h : Th K C cd H x o) (q : Q (.bl (match o with | some d => tyD d == "tuple" | none => false)) H) :
    rIsi K [x, .ty "tuple"] H Q ∨ rIsiE K [x, .ty "tuple"] H Q := by
  cases h with
  | @dat x d h => exact .inl ⟨x, .ty "tuple", _, _, _, rfl, .ty "tuple", h.kn.ty, kit_ty (kit_tup d), q⟩
  | @exc a z h f k => exact .inr ⟨a, C, z, cd, .ty "tuple", _, false, rfl, .ty "tuple", h, f, k, q⟩
namespace J
section
variable {P : Program} {w : World} {K : PySem.W.Frag} {mg : Str → Option Value} {base : Heap}
variable {aF aW aO fn fh fw ft C : Addr} {dn dh dw dt : FuncData} {cd : ClassData}
/-! ### are_instructions -/
def spAreI (K : PySem.W.Frag) (C : Addr) (cd : ClassData) : Sp := fun vs H Q _ => ∃ (x : V) (o : Option PyData) (rm : Addr) (z : Rm), vs = [x, .ref rm] ∧ Th K C cd H x o ∧ H rm = some (.dK z.kvs) ∧ ∀ H', Same H H' → Q (.bl (stepsO z o)) H'
abbrev nAreI : List Str := ["thing", "room", "at", "step"]
theorem scAreI : FnScope nAreI ["thing", "room"] (defScope sAreI) := ⟨rfl, rfl, rfl, by decide +kernel, rfl, by decide +kernel, by decide +kernel⟩
theorem ok_arei {f fi : Addr} {fd di : FuncData} (F : Fun K "are_instructions" "are_instructions" sAreI f fd) (S : Sml P w K mg base fn fh fw ft dn dh dw dt)
    (Di : Df K mg "_is_instruction" fi di pIsI) (Gi : FnOk P w K mg base CX0 5 fi di pIsI spIsI) : FnOk P w K mg base CX0 6 f fd ["thing", "room"] (spAreI K C cd) := by
  refine F.ok scAreI (fun vs H Q E h => ?_) (fun cdv A outer s H vs Q E hr h => ?_)
  · obtain ⟨x, o, rm, z, rfl, _⟩ := h
    rfl
  · obtain ⟨x, o, rm, z, rfl, th, hm, q⟩ := h
    have hr5 := hr.mono (by decide : 5 ≤ 5)
    refine ⟨_, (pss_cons (ps_if (pt_not (pt_val (pe_callB call_isiB (by rfl) S.mi (by decide +kernel) (pa_cons (pv 0) (pa_cons (pe_bltn (v := .ty "tuple") (by rfl) S.mt (by decide +kernel) rfl) pa_nil))))) (pss_one (ps_ret pe_bl)) pss_nil)
        (pss_one (ps_ret (pe_callB (cr_all rfl) (by rfl) S.ma (by decide +kernel) (pa_cons (pe_lc (own := [("at", 2), ("step", 3)]) (g := gTup K 2 (gCons (gName 2) (gCons (gName 3) gNil))) (tt := tYes) rfl scAreI.nd (pi_enumT (by rfl) S.me (pa_cons (pv 0) pa_nil))
          (blkOk_by (N := nAreI) (sc := defScope sAreI) (by decide +kernel)) (fun _ _ _ _ _ => pg_tup rfl (pgs_cons (pg_name (i := 2) scAreI.nd rfl (Or.inl rfl)) (pgs_cons (pg_name (i := 3) scAreI.nd rfl (Or.inl rfl)) pgs_nil))) (fun _ _ _ _ _ => pts_nil)
          (fun _ _ _ _ _ => pe_call Gi hr5 (by rfl) Di.at_ Di.kp Di.bd .nil pass0 (pa_cons (pv 3) (pa_cons (pv 1) (pa_cons (pe_op op_sub (pe_op op_sub (pe_callB (lenK (K := K) rfl) (by rfl) S.ml PySem.boot_len (pa_cons (pv 0) pa_nil)) (pv 2)) pe_int) pa_nil))))) pa_nil))))), ?_⟩
    have q0 := q H (Same.refl H)
    refine ⟨_, rfl, th.isT ⟨_, rfl, ?_⟩⟩
    cases th with
    | exc h f k => exact iteT q0
    | dat da =>
      cases da with
      | @tup a xs ds h l r =>
        have el := r.len
        refine iteF ⟨_, rfl, a, xs, rfl, SqT.of h, fun D hD => lc_iet (K := K) (a := a) (xs := xs) (fun i H' => Same H H' ∧ H' D = some (.lst (((stepsL z ds).take i).map V.bl))) ⟨same_new hD, upd_same⟩
            (fun i H' _ pv => SqT.of (pv.1 _ _ h)) (fun i u H' T' hu pv hT => ?_) fun H' pv => ?_⟩
        · obtain ⟨du, hdu, dau⟩ := (r.same pv.1).get hu
          have hi := (List.getElem?_eq_some_iff.mp hu).1
          have sT : Same H' (upd H' T' (.tup [.int (i : Nat), u])) := same_new hT
          have nTD : T' ≠ D := fun e => by rw [e, pv.2] at hT; cases hT
          refine ⟨T', _, rfl, SqT.of upd_same, rfl, _, _, rfl, _, _, rfl, rfl, rfl, _, rfl, _, rfl, _, rfl, a, xs, rfl, .inr (SqT.of (sT _ _ (pv.1 _ _ h))), _, rfl, _, _, rfl, rfl, _, _, rfl, rfl, u, du, rm, z, _, rfl, dau.same sT, sT _ _ (pv.1 _ _ hm), fun H'' s'' => ?_⟩
          refine ⟨_, s'' _ _ ((upd_ne nTD.symm).trans pv.2), ?_, fun c o e => ?_, ?_⟩
          · rw [List.length_map, List.length_take]
            exact small1000 (by omega)
          · rw [upd_ne (ne_of_none e hD)]
            exact s'' _ _ (sT _ _ (pv.1 _ _ e))
          · rw [upd_same, List.take_add_one, List.map_append]
            have e3 : (stepsL z ds)[i]? = some (insD z (((ds.length : Nat) : Int) - (i : Nat) - 1) du) := by
              unfold stepsL
              rw [List.getElem?_mapIdx, hdu]
              rfl
            rw [e3, el]
            rfl
        · have e4 : xs.length = (stepsL z ds).length := by unfold stepsL; rw [List.length_mapIdx, el]
          rw [e4, List.take_length] at pv
          exact ⟨D, _, rfl, SqL.of pv.2, q _ pv.1⟩
      | _ => exact iteT q0
/-! ### are_steps -/
def spAreS (K : PySem.W.Frag) (C : Addr) (cd : ClassData) : Sp := fun vs H Q _ => ∃ (x : V) (o : Option PyData) (z : Rm), vs = [x, .int z.r, .int z.c, .int z.i, .int z.o] ∧ 0 ≤ z.r ∧ 0 ≤ z.c ∧ 0 ≤ z.i ∧ 0 ≤ z.o ∧ Th K C cd H x o ∧ ∀ H', Same H H' → Q (.bl (stepsO z o)) H'
abbrev nAreS : List Str := ["thing", "registers", "cells", "ins", "outs", "room", "slot"]
abbrev pAreS : List Str := ["thing", "registers", "cells", "ins", "outs"]
theorem scAreS : FnScope nAreS pAreS (defScope sAreS) := ⟨rfl, rfl, rfl, by decide +kernel, rfl, by decide +kernel, by decide +kernel⟩
theorem kvs_at {z : Rm} {i : Nat} {k : Key} {v : V} (h : z.kvs[i]? = some (k, v)) (h1 : 0 ≤ z.r) (h2 : 0 ≤ z.c) (h3 : 0 ≤ z.i) (h4 : 0 ≤ z.o) : ∃ n : Int, v = .int n ∧ 0 ≤ n ∧ valV z.kvs k = some (.int n) ∧ ∃ s : Str, k = .inr s := by
  match i, h with
  | 0, h => cases h; exact ⟨_, rfl, h1, rfl, _, rfl⟩
  | 1, h => cases h; exact ⟨_, rfl, h2, rfl, _, rfl⟩
  | 2, h => cases h; exact ⟨_, rfl, h3, rfl, _, rfl⟩
  | 3, h => cases h; exact ⟨_, rfl, h4, rfl, _, rfl⟩
  | n + 4, h => cases h
theorem ok_ares {f fi : Addr} {fd di : FuncData} (F : Fun K "are_steps" "are_steps" sAreS f fd) (S : Sml P w K mg base fn fh fw ft dn dh dw dt)
    (Da_ : Df K mg "are_instructions" fi di ["thing", "room"]) (Ga : FnOk P w K mg base CX0 6 fi di ["thing", "room"] (spAreI K C cd)) : FnOk P w K mg base CX0 7 f fd pAreS (spAreS K C cd) := by
  refine F.ok scAreS (fun vs H Q E h => ?_) (fun cdv A outer s H vs Q E hr h => ?_)
  · obtain ⟨x, o, z, rfl, _⟩ := h
    rfl
  · obtain ⟨x, o, z, rfl, h1, h2, h3, h4, th, q⟩ := h
    have hr6 := hr.mono (by decide : 6 ≤ 6)
    have hr1 := hr.mono (by decide : 1 ≤ 6)
    have hu := hr.units
    have hu1 : (A.deeper (envOfC "are_steps" (defScope sAreS) s.heap.objs.size f cdv)).units + 1 < cLine := by omega
    refine ⟨_, (pss_cons (ps_set (i := 5) scAreS.nd rfl (Or.inr rfl) (pe_disp (pps_cons pe_str (pv 1) (pps_cons pe_str (pv 2) (pps_cons pe_str (pv 3) (pps_cons pe_str (pv 4) pps_nil)))) rfl rfl (by simp) (by decide)))
        (pss_cons (ps_if (pt_not (pt_val (pe_callB (cr_all rfl) (by rfl) S.ma (by decide +kernel) (pa_cons (pe_lock (pe_lc (own := [("slot", 6)]) (g := gName 6) (tt := tYes) rfl scAreS.nd (pi_keys (pv 5))
          (blkOk_by (N := nAreS) (sc := defScope sAreS) (by decide +kernel)) (fun _ _ _ _ _ => pg_name (i := 6) scAreS.nd rfl (Or.inl rfl)) (fun _ _ _ _ _ => pts_nil)
          (fun _ _ _ _ _ => pe_and (pe_call S.Gn hr1 (by rfl) S.Dn.at_ S.Dn.kp S.Dn.bd .nil pass0 (pa_cons (pe_dget hu1 (pv 5) (pv 6) (fun _ _ => rfl)) pa_nil)) (pe_one (pe_cmpR op_ge (pe_dget hu1 (pv 5) (pv 6) (fun _ _ => rfl)) pe_int (nomark _)))))) pa_nil)))) (pss_one (ps_ret pe_bl)) pss_nil)
        (pss_one (ps_ret (pe_call Ga hr6 (by rfl) Da_.at_ Da_.kp Da_.bd .nil pass0 (pa_cons (pv 0) (pa_cons (pv 5) pa_nil))))))), ?_⟩
    refine fun rm hm => ⟨_, rfl, _, rfl, _, rfl, _, rfl, upd_same, z.kvs, rfl, by show 4 ≤ 15; decide, ?_⟩
    rw [show mergeK [] z.kvs = z.kvs from rfl]
    have e1 := same_new (o := .dK z.kvs) hm
    have hH : upd (upd H rm (.dK [])) rm (.dK z.kvs) = upd H rm (.dK z.kvs) := upd_upd
    rw [hH]
    generalize hG : upd H rm (.dK z.kvs) = G at e1
    have gm : G rm = some (.dK z.kvs) := by rw [← hG, upd_same]
    dsimp only [gName]
    refine ⟨rm, _, gm, trivial, fun od => ?_⟩
    have ef : ∀ {b : Addr} {o : HO}, b ≠ rm → G b = some o → (upd G rm (.frz od (.dK z.kvs))) b = some o := fun n e => by rw [upd_ne n]; exact e
    refine ⟨_, rfl, rm, od, rfl, .inl ⟨_, upd_same, fun D hD => lc_it (walk_keys (d := rm) (o := od) (kvs := z.kvs)) (fun i H' => (∀ b o, b ≠ D → (upd G rm (.frz od (.dK z.kvs))) b = some o → H' b = some o) ∧ H' D = some (.lst (List.replicate i (V.bl true)))) ⟨fun b o n e => by rw [upd_ne n]; exact e, upd_same⟩
      (fun i H' _ pv => pv.1 _ _ (fun e => by rw [← e, upd_same] at hD; cases hD) upd_same) (fun i y H1 H' hi pv hy => ?_) fun H' pv => ?_⟩⟩
    · obtain ⟨rfl, k, v, hk, rfl⟩ := hy
      obtain ⟨n, rfl, n0, hv, s', rfl⟩ := kvs_at hk h1 h2 h3 h4
      have nD : rm ≠ D := fun e => by rw [← e, upd_same] at hD; cases hD
      have dg : DGet H' rm (.str s') (some (.int n)) := .inl ⟨z.kvs, .inr s', .inr ⟨od, pv.1 _ _ nD upd_same⟩, rfl, hv.symm⟩
      refine ⟨rfl, _, rfl, _, rfl, rm, _, rfl, dg, _, _, rfl, .int n, _, rfl, iteT ⟨_, rfl, _, rfl, rm, _, rfl, dg, _, _, rfl, rfl, _, pv.2, ?_, fun b o nb e => ?_, ?_⟩⟩
      · rw [List.length_replicate]
        have : i < 4 := hi
        rw [sizeLine_eq]
        omega
      · rw [upd_ne nb]
        exact pv.1 b o nb e
      · have en : decide (0 ≤ n) = true := decide_eq_true n0
        rw [upd_same, List.replicate_succ']
        show some (HO.lst (List.replicate i (V.bl true) ++ [V.bl (decide (0 ≤ n))])) = _
        rw [en]
    · have nD : rm ≠ D := fun e => by rw [← e, upd_same] at hD; cases hD
      have e2 : Same G (upd H' rm (.dK z.kvs)) := fun b o e => by
        by_cases hb : b = rm
        · rw [hb, upd_same, ← gm, ← hb]; exact e
        · rw [upd_ne hb]
          exact pv.1 b o (fun e' => by rw [e', ← upd_ne (H := G) (a := rm) (o := .frz od (.dK z.kvs)) nD.symm, hD] at e; cases e) (ef hb e)
      refine ⟨pv.1 _ _ nD upd_same, D, List.replicate 4 true, rfl, SqL.of ?_, _, rfl, iteF ?_⟩
      · rw [upd_ne nD.symm, pv.2]
        rfl
      have s2 := e1.trans e2
      exact ⟨_, rfl, _, rfl, x, o, rm, z, rfl, th.same s2, upd_same, fun H'' s'' => q _ (s2.trans s'')⟩
end
end J
end Bf

namespace Bf
open PySem PySem.Spec PyProof.Rows L2
/-- the values of a list of data, kept by a test on the data -/
def keepV (p : PyData → Bool) : List V → List PyData → List V
  | v :: vs, d :: ds => if p d = true then keepV p vs ds else v :: keepV p vs ds
  | _, _ => []
theorem keepV_empty {p : PyData → Bool} : ∀ {vs : List V} {ds : List PyData}, vs.length = ds.length → (keepV p vs ds).isEmpty = ds.all p
  | [], [], _ => rfl
  | v :: vs, d :: ds, h => by
    unfold keepV
    rw [List.all_cons]
    cases p d with
    | true => exact keepV_empty (Nat.succ.inj h)
    | false => rfl
theorem keepV_take {p : PyData → Bool} : ∀ {vs : List V} {ds : List PyData} {i : Nat} {v : V} {d : PyData}, vs[i]? = some v → ds[i]? = some d → keepV p (vs.take (i + 1)) (ds.take (i + 1)) = keepV p (vs.take i) (ds.take i) ++ if p d = true then [] else [v]
  | _ :: _, _ :: _, 0, _, _, h1, h2 => by
    cases h1; cases h2
    rename_i v vs d ds
    show keepV p [v] [d] = keepV p [] [] ++ _
    unfold keepV
    cases p d <;> rfl
  | a :: vs, b :: ds, i + 1, v, d, h1, h2 => by
    have ih := keepV_take (p := p) (vs := vs) (ds := ds) (i := i) h1 h2
    show keepV p (a :: vs.take (i + 1)) (b :: ds.take (i + 1)) = keepV p (a :: vs.take i) (b :: ds.take i) ++ _
    unfold keepV
    cases p b with
    | true => exact ih
    | false =>
      show a :: keepV p (vs.take (i + 1)) (ds.take (i + 1)) = a :: keepV p (vs.take i) (ds.take i) ++ _
      rw [ih]; rfl
theorem keepV_len {p : PyData → Bool} : ∀ (vs : List V) (ds : List PyData), (keepV p vs ds).length ≤ vs.length
  | [], _ => by unfold keepV; exact Nat.zero_le _
  | _ :: _, [] => by unfold keepV; exact Nat.zero_le _
  | v :: vs, d :: ds => by
    unfold keepV
    have := keepV_len (p := p) vs ds
    split
    · rw [List.length_cons]; omega
    · rw [List.length_cons, List.length_cons]; omega

def sevB (w : Str) : Bool := inV (.str w) ((["and", "or", "xor", "add", "sub", "less", "same"] : List Str).map V.str)
def intOf : PyData → Int
  | .int n => n
  | _ => 0
/-- the law's look at a reckoning -/
def doD (z : Rm) (d1 d2 d3 d4 d5 : PyData) : Bool := match d2, d4 with
  | .str w, .tuple as => (oneB w || sevB w) && (wholeD d3 1 8 && (decide (V.int (as.length : Nat) = V.int (if oneB w = true then 1 else 2)) && (((d1 :: as).all fun d => wholeD d 0 (z.r - 1)) && moreD w (intOf d3) d5)))
  | _, _ => false
def isDoD (z : Rm) : List PyData → Bool
  | [_, d1, d2, d3, d4, d5] => doD z d1 d2 d3 d4 d5
  | _ => false
theorem isDo_no {z : Rm} {ds : List PyData} (h : ds.length ≠ 6) : isDoD z ds = false := by
  match ds, h with
  | [], _ => rfl
  | [_], _ => rfl
  | [_, _], _ => rfl
  | [_, _, _], _ => rfl
  | [_, _, _, _], _ => rfl
  | [_, _, _, _, _], _ => rfl
  | [_, _, _, _, _, _], h => exact absurd rfl h
  | _ :: _ :: _ :: _ :: _ :: _ :: _ :: _, _ => rfl
def Rm.list (z : Rm) : List V := [.int z.r, .int z.c, .int z.i, .int z.o]
/-- a second look, behind which all goes on in one way -/
theorem two_looks {b k : Bool} {X : Prop} {C : Hp → Prop} {G1 : Hp} (hk : (!b) = false → k = true) (hc : ∀ G, Same G1 G → k = true → C G) (hx : (!b) = true → (∀ G, Same G1 G → k = true → C G) → X) : if (!b) = true then X else C G1 := by
  cases b with
  | true => exact iteF (hc G1 (Same.refl _) (hk rfl))
  | false => exact iteT (hx rfl hc)
theorem cat_two {K : PySem.W.Frag} {H : Hp} {a b : Addr} {x : V} {xs ys : List V} {Q : VK} (hx : SqT K H a (x :: xs)) (hy : SqT K H b ys) (l : (x :: xs).length + ys.length ≤ sizeLine)
    (q : ∀ t G, Same H G → SqT K G t (x :: xs ++ ys) → Q (.ref t) G) : rCatA K (.ref a) (.ref b) H Q := by
  refine ⟨a, b, _, ys, rfl, rfl, hx, hy, l, (fun z => by cases z), (fun _ e => ?_), (fun _ _ p hp => q p _ (fun b u e => ?_) (SqT.of upd_same))⟩
  · subst e
    exact q a H (Same.refl _) (by rw [List.append_nil]; exact hx)
  · rw [upd_ne (ne_of_none e hp)]
    exact e
namespace J
section
variable {P : Program} {w : World} {K : PySem.W.Frag} {mg : Str → Option Value} {base : Heap}
/-- built-ins that the law asks -/
structure Bi (mg : Str → Option Value) : Prop where
  mi : mg "isinstance" = none
  mt : mg "tuple" = none
  ms : mg "str" = none
  mI : mg "int" = none
  mb : mg "bool" = none
  ml : mg "len" = none
  me : mg "enumerate" = none
  mL : mg "list" = none
  mr : mg "range" = none
  mp : mg "repr" = none
abbrev nLWhole : List Str := ["_law_thing", "_law_low", "_law_high"]
theorem scLWhole : FnScope nLWhole nLWhole (defScope sLWhole) := ⟨rfl, rfl, rfl, by decide +kernel, rfl, by decide +kernel, by decide +kernel⟩
theorem ok_lwhole {f : Addr} {fd : FuncData} (F : Fun K "_law_whole" "_law_whole" sLWhole f fd) (L : Bi mg) : FnOk P w K mg base CX0 1 f fd nLWhole (spWhole K) := by
  refine F.ok scLWhole (fun vs H Q E h => ?_) (fun cdv A outer s H vs Q E hr h => ?_)
  · obtain ⟨x, n, lo, hi, rfl, _⟩ := h
    rfl
  · obtain ⟨x, n, lo, hi, rfl, kn, q⟩ := h
    refine ⟨_, (pss_one (ps_ret (pe_and (pe_callB call_isi (by rfl) L.mi (by decide +kernel) (pa_cons (pv 0) (pa_cons (pe_bltn (v := .ty "int") (by rfl) L.mI (by decide +kernel) rfl) pa_nil))) (pe_and (pe_not (pe_callB call_isi (by rfl) L.mi (by decide +kernel) (pa_cons (pv 0) (pa_cons (pe_bltn (v := .ty "bool") (by rfl) L.mb (by decide +kernel) rfl) pa_nil)))) (pe_one (pe_chain op_le op_le (pv 1) (pv 0) (pv 2))))))), ?_⟩
    cases kn with
    | int i =>
      refine ⟨_, rfl, _, _, _, _, _, rfl, .ty "int", .base (.int i), kit_ty (by decide +kernel), _, rfl, iteT ?_⟩
      refine ⟨_, rfl, _, _, _, _, false, rfl, .ty "bool", .base (.int i), kit_ty (by decide +kernel), _, rfl, _, rfl, iteT ?_⟩
      refine ⟨_, rfl, _, rfl, _, _, rfl, rfl, _, rfl, ite2 (fun h1 => ?_) (fun h1 => ?_)⟩
      · refine ⟨_, rfl, _, _, rfl, rfl, ?_⟩
        have e : wholeB (.int i) lo hi = decide (i ≤ hi) := by
          show (decide (lo ≤ i) && decide (i ≤ hi)) = _
          rw [h1]; rfl
        rw [e] at q; exact q
      · have e : wholeB (.int i) lo hi = false := by
          show (decide (lo ≤ i) && decide (i ≤ hi)) = _
          rw [Bool.eq_false_iff.mpr h1]; rfl
        rw [e] at q; exact q
    | bl b =>
      refine ⟨_, rfl, _, _, _, _, _, rfl, .ty "int", .base (.bl b), kit_ty (by decide +kernel), _, rfl, iteT ?_⟩
      exact ⟨_, rfl, _, _, _, _, true, rfl, .ty "bool", .base (.bl b), kit_ty (by decide +kernel), _, rfl, _, rfl, iteF q⟩
    | non => exact ⟨_, rfl, _, _, _, _, _, rfl, .ty "int", .base .non, kit_ty (by decide +kernel), _, rfl, iteF q⟩
    | str z => exact ⟨_, rfl, _, _, _, _, _, rfl, .ty "int", .base (.str z), kit_ty (by decide +kernel), _, rfl, iteF q⟩
    | lst t => exact ⟨_, rfl, _, _, _, _, _, rfl, .ty "int", t, kit_ty (by decide +kernel), _, rfl, iteF q⟩
    | tup t => exact ⟨_, rfl, _, _, _, _, _, rfl, .ty "int", t, kit_ty (by decide +kernel), _, rfl, iteF q⟩
    | dic t => exact ⟨_, rfl, _, _, _, _, _, rfl, .ty "int", t, kit_ty (by decide +kernel), _, rfl, iteF q⟩
/-! ### _law_is_do -/
def spIsDo : Sp := fun vs H Q _ => ∃ (x : V) (ds : List PyData) (sm : Addr) (z : Rm), vs = [x, .ref sm] ∧ Da H x (.tuple ds) ∧ H sm = some (.lst z.list) ∧ ∀ H', Same H H' → Q (.bl (isDoD z ds)) H'
abbrev nIsDo : List Str := ["_law_step_here", "_law_sizes", "_law_single", "_law_one"]
abbrev pIsDo : List Str := ["_law_step_here", "_law_sizes"]
theorem scIsDo : FnScope nIsDo pIsDo (defScope sIsDo) := ⟨rfl, rfl, rfl, by decide +kernel, rfl, by decide +kernel, by decide +kernel⟩
set_option maxHeartbeats 1000000 in
theorem ok_isdo {f fw : Addr} {fd dw : FuncData} (F : Fun K "_law_is_do" "_law_is_do" sIsDo f fd) (L : Bi mg) (Dw : Df K mg "_law_whole" fw dw nLWhole) (Gw : FnOk P w K mg base CX0 1 fw dw nLWhole (spWhole K)) : FnOk P w K mg base CX0 2 f fd pIsDo spIsDo := by
  refine F.ok scIsDo (fun vs H Q E h => ?_) (fun cdv A outer s H vs Q E hr h => ?_)
  · obtain ⟨x, ds, sm, z, rfl, _⟩ := h
    rfl
  · obtain ⟨x, ds, sm, z, rfl, da, hm, q⟩ := h
    have hr1 := hr.mono (by decide : 1 ≤ 1)
    refine ⟨_, (pss_cons (ps_if (PW.pt (pw_or (pt_cmpR op_ne (pe_callB call_len_seq (by rfl) L.ml PySem.boot_len (pa_cons (pv 0) pa_nil)) pe_int (nomark _)) (pw_or (pt_not (pt_val (pe_callB call_isi (by rfl) L.mi (by decide +kernel) (pa_cons (pe_ix ix_tup (pv 0) pe_int (fun _ _ => rfl)) (pa_cons (pe_bltn (v := .ty "str") (by rfl) L.ms (by decide +kernel) rfl) pa_nil))))) (pw_or1 (pt_not (pt_val (pe_callB call_isi (by rfl) L.mi (by decide +kernel) (pa_cons (pe_ix ix_tup (pv 0) pe_int (fun _ _ => rfl)) (pa_cons (pe_bltn (v := .ty "tuple") (by rfl) L.mt (by decide +kernel) rfl) pa_nil))))))))) (pss_one (ps_ret pe_bl)) pss_nil)
        (pss_cons (ps_set (i := 2) scIsDo.nd rfl (Or.inl rfl) (pe_cmpR op_in_seq (pe_ix ix_tup (pv 0) pe_int (fun _ _ => rfl)) (pe_tup (pa_cons pe_str (pa_cons pe_str (pa_cons pe_str pa_nil)))) (by rfl)))
        (Evl.pss_cut (ps_if (PW.pt (pw_and (pt_not (pt_val (pv 2))) (pw_and1 (pt_cmpR op_notIn_seq (pe_ix ix_tup (pv 0) pe_int (fun _ _ => rfl)) (pe_tup (pa_cons pe_str (pa_cons pe_str (pa_cons pe_str (pa_cons pe_str (pa_cons pe_str (pa_cons pe_str (pa_cons pe_str pa_nil)))))))) (by rfl))))) (pss_one (ps_ret pe_bl)) pss_nil)
        (pss_cons (ps_if (PW.pt (pw_or (pt_not (pt_val (pe_call Gw hr1 (by rfl) Dw.at_ Dw.kp Dw.bd .nil pass0 (pa_cons (pe_ix ix_tup (pv 0) pe_int (fun _ _ => rfl)) (pa_cons pe_int (pa_cons pe_int pa_nil)))))) (pw_or1 (pt_cmpR op_ne (pe_callB call_len_seq (by rfl) L.ml PySem.boot_len (pa_cons (pe_ix ix_tup (pv 0) pe_int (fun _ _ => rfl)) pa_nil)) (pe_ifExp (pt_val (pv 2)) pe_int pe_int) (nomark _))))) (pss_one (ps_ret pe_bl)) pss_nil)
        (pss_cons (ps_if (pt_cmpR (op_neNil hr.units) (pe_lc (own := [("_law_one", 3)]) (g := gName 3) (tt := _) rfl scIsDo.nd (pi_tup (pe_op op_catA (pe_tup (pa_cons (pe_ix ix_tup (pv 0) pe_int (fun _ _ => rfl)) pa_nil)) (pe_ix ix_tup (pv 0) pe_int (fun _ _ => rfl)))) (blkOk_by (N := nIsDo) (sc := defScope sIsDo) (by decide +kernel)) (fun _ _ _ _ _ => pg_name (i := 3) scIsDo.nd rfl (Or.inl rfl)) (fun _ _ _ _ _ => (pts_one (pt_not (pt_val (pe_call Gw hr1 (by rfl) Dw.at_ Dw.kp Dw.bd .nil pass0 (pa_cons (pv 3) (pa_cons pe_int (pa_cons (pe_op op_sub (pe_ix (ixL (K := K) rfl) (pv 1) pe_int (fun _ _ => rfl)) pe_int) pa_nil)))))))) (fun _ _ _ _ _ => (pv 3))) (pe_lst pa_nil) (nomark _)) (pss_one (ps_ret pe_bl)) pss_nil)
        (pss_cons (ps_if (pt_cmpR op_eq (pe_ix ix_tup (pv 0) pe_int (fun _ _ => rfl)) pe_str (nomark _)) (pss_one (ps_ret (pe_call Gw hr1 (by rfl) Dw.at_ Dw.kp Dw.bd .nil pass0 (pa_cons (pe_ix ix_tup (pv 0) pe_int (fun _ _ => rfl)) (pa_cons pe_int (pa_cons pe_int pa_nil)))))) pss_nil)
        (pss_one (ps_ret (pe_call Gw hr1 (by rfl) Dw.at_ Dw.kp Dw.bd .nil pass0 (pa_cons (pe_ix ix_tup (pv 0) pe_int (fun _ _ => rfl)) (pa_cons pe_int (pa_cons (pe_ifExp (pt_cmpR op_eq (pe_ix ix_tup (pv 0) pe_int (fun _ _ => rfl)) pe_str (nomark _)) (pe_op op_sub (pe_ix ix_tup (pv 0) pe_int (fun _ _ => rfl)) pe_int) pe_int) pa_nil)))))))))))), ?_⟩
    have q0 := q H (Same.refl H)
    cases da with
    | @tup a xs _ h l r =>
    have el := r.len
    refine ⟨_, rfl, a, xs, rfl, .inr (SqT.of h), rfl, _, rfl, ?_⟩
    by_cases e6 : ¬ ds.length = 6
    · rw [isDo_no e6] at q0
      refine iteB (by rw [decide_eq_false (fun z => e6 (by have := V.int.inj z; omega))]; rfl) q0
    have e6 := Decidable.not_not.mp e6
    refine iteN (by rw [decide_eq_true (show V.int (xs.length : Nat) = V.int 6 by rw [el, e6]; rfl)]; rfl) ?_
    match ds, e6, r with
    | [d0, d1, d2, d3, d4, d5], _, .cons (v := v0) h0 (.cons (v := v1) h1 (.cons (v := v2) h2 (.cons (v := v3) h3 (.cons (v := v4) h4 (.cons (v := v5) h5 .nil))))) =>
    refine ⟨_, rfl, a, _, 2, v2, rfl, rfl, SqT.of h, rfl, v2, .ty "str", _, _, _, rfl, .ty "str", h2.kn.ty, kit_ty (kit_str d2), _, rfl, ?_⟩
    cases h2 with
    | str y ly =>
      refine iteF ⟨_, rfl, a, _, 4, v4, rfl, rfl, SqT.of h, rfl, v4, .ty "tuple", _, _, _, rfl, .ty "tuple", h4.kn.ty, kit_ty (kit_tup d4), _, rfl, ?_⟩
      cases h4 with
      | @tup b ys as hb lb rb =>
        have lb' := rb.len
        have ed : isDoD z [d0, d1, .str y, d3, .tuple as, d5] = ((oneB y || sevB y) && (wholeD d3 1 8 && (decide (V.int (as.length : Nat) = V.int (if oneB y = true then 1 else 2)) && (((d1 :: as).all fun d => wholeD d 0 (z.r - 1)) && moreD y (intOf d3) d5)))) := rfl
        rw [ed] at q q0
        refine iteF ⟨_, rfl, a, _, 2, _, rfl, rfl, SqT.of h, rfl, by show 3 ≤ sizeLine; decide, fun p1 hp1 => ⟨p1, _, rfl, .inr (SqT.of upd_same), rfl, by decide +kernel, ?_⟩⟩
        rw [show (if false = true then !inV (V.str y) [V.str "not", V.str "wide", V.str "bit"] else inV (V.str y) [V.str "not", V.str "wide", V.str "bit"]) = oneB y from rfl]
        have e1 : Same H (upd H p1 (.tup [V.str "not", V.str "wide", V.str "bit"])) := same_new hp1
        generalize upd H p1 (.tup [V.str "not", V.str "wide", V.str "bit"]) = G1 at e1
        dsimp only [gName]
        refine ⟨fun σ' G' => σ' = [some (.ref a), some (.ref sm), some (.bl (oneB y)), none] ∧ Same H G' ∧ (oneB y || sevB y) = true, ?_, ?_⟩
        rotate_left
        · rintro σ' G2 ⟨rfl, e2, hy⟩
          rw [hy, Bool.true_and] at q
          refine ⟨_, rfl, a, _, 3, v3, rfl, rfl, SqT.of (e2 _ _ h), rfl, v3, _, 1, 8, rfl, kn_same e2 h3.kn, _, rfl, ?_⟩
          rw [h3.whole]
          by_cases hw : wholeD d3 1 8 = true
          · rw [hw, Bool.true_and] at q
            rw [hw]
            refine iteF ⟨_, rfl, a, _, 4, _, rfl, rfl, SqT.of (e2 _ _ h), rfl, b, ys, rfl, .inr (SqT.of (e2 _ _ hb)), _, rfl, _, rfl, if_tC (b := oneB y) ⟨(by cases oneB y <;> rfl), _, rfl, ?_⟩⟩
            have ev : V.int (if oneB y = true then 1 else 2) = if oneB y = true then V.int 1 else V.int 2 := by cases oneB y <;> rfl
            rw [← lb', ev] at q
            by_cases e : V.int (ys.length : Nat) = if oneB y = true then V.int 1 else V.int 2
            · rw [decide_eq_true e, Bool.true_and] at q
              refine iteN (by rw [decide_eq_true e]; rfl) ?_
              have ly4 : ys.length ≤ 2 := by
                by_cases hb1 : oneB y = true
                · rw [if_pos hb1] at e; have := V.int.inj e; omega
                · rw [if_neg hb1] at e; have := V.int.inj e; omega
              refine ⟨_, rfl, a, _, 1, v1, rfl, rfl, SqT.of (e2 _ _ h), rfl, by show 1 ≤ sizeLine; decide, fun p3 hp3 => ?_⟩
              have e3 : Same G2 (upd G2 p3 (.tup [v1])) := same_new hp3
              have e23 := e2.trans e3
              refine ⟨_, rfl, a, _, 4, _, rfl, rfl, SqT.of (e23 _ _ h), rfl, cat_two (SqT.of upd_same) (SqT.of (e23 _ _ hb)) (by show 1 + ys.length ≤ sizeLine; rw [sizeLine_eq]; omega) fun t G4 e4' gt => ?_⟩
              have e4 := e23.trans e4'
              have rt : DaAll H (v1 :: ys) (d1 :: as) := .cons h1 rb
              have lt := rt.len
              refine ⟨t, rfl, ⟨_, gt⟩, fun D hD => lc_tup (K := K) (a := t) (xs := v1 :: ys) (fun i H' => Same G4 H' ∧ H' D = some (.lst (keepV (fun d => wholeD d 0 (z.r - 1)) ((v1 :: ys).take i) ((d1 :: as).take i)))) ⟨same_new hD, upd_same⟩
                (fun i H' _ pv => Same.sqT pv.1 gt) (fun i u H' hu pv => ?_) fun H' pv => ?_⟩
              · obtain ⟨du, hdu, dau⟩ := rt.get hu
                have hi := (List.getElem?_eq_some_iff.mp hu).1
                have kt := keepV_take (p := fun d => wholeD d 0 (z.r - 1)) hu hdu
                have s4 := e4.trans pv.1
                refine ⟨rfl, _, rfl, _, rfl, sm, _, 0, _, rfl, rfl, SqL.of (s4 _ _ hm), rfl, _, _, rfl, rfl, u, _, 0, z.r - 1, rfl, kn_same s4 dau.kn, _, rfl, ?_⟩
                rw [dau.whole]
                cases et : wholeD du 0 (z.r - 1) with
                | true => exact iteF ⟨pv.1, by rw [kt, et]; simp; exact pv.2⟩
                | false =>
                  refine iteT ⟨_, rfl, _, pv.2, ?_, fun b o hb => ?_, ?_⟩
                  · exact small1000 (Nat.le_trans (keepV_len _ _) (by rw [List.length_take, List.length_cons]; omega))
                  · rw [upd_ne (ne_of_none hb hD)]; exact pv.1 _ _ hb
                  · rw [upd_same, kt, et]; rfl
              · rw [List.take_length, lt, List.take_length] at pv
                have e5 := e4.trans pv.1
                refine ⟨by show 0 ≤ sizeLine; decide, fun L hL => ⟨D, L, _, rfl, rfl, SqL.of ((same_new hL) _ _ pv.2), SqL.of upd_same, _, rfl, ?_⟩⟩
                have e6' : Same H' (upd H' L (.lst [])) := same_new hL
                generalize upd H' L (.lst []) = G6 at e6'
                have e7 := e5.trans e6'
                rw [keepV_empty lt]
                by_cases hf : ((d1 :: as).all fun d => wholeD d 0 (z.r - 1)) = true
                · rw [hf, Bool.true_and] at q
                  rw [hf]
                  have q1 := q _ e7
                  unfold moreD at q1
                  refine iteF ⟨_, rfl, a, _, 2, _, rfl, rfl, SqT.of (e7 _ _ h), rfl, rfl, _, rfl, ite2 (fun hy' => ?_) (fun hy' => ?_)⟩
                  · rw [if_pos hy', ← h5.whole] at q1
                    exact ⟨_, rfl, a, _, 5, _, rfl, rfl, SqT.of (e7 _ _ h), rfl, v5, _, 1, 8, rfl, kn_same e7 h5.kn, q1⟩
                  · rw [if_neg hy', ← h5.whole] at q1
                    obtain ⟨i3, ei, _⟩ := wholeB_int (show wholeB v3 1 8 = true by rw [h3.whole]; exact hw)
                    subst ei
                    cases h3 with
                    | int _ =>
                    refine ⟨_, rfl, a, _, 5, _, rfl, rfl, SqT.of (e7 _ _ h), rfl, _, rfl, a, _, 2, _, rfl, rfl, SqT.of (e7 _ _ h), rfl, rfl, _, rfl, ite2 (fun h' => ?_) (fun h' => ?_)⟩
                    · rw [if_pos h'] at q1
                      exact ⟨_, rfl, a, _, 3, _, rfl, rfl, SqT.of (e7 _ _ h), rfl, _, _, rfl, rfl, v5, _, 0, i3 - 1, rfl, kn_same e7 h5.kn, q1⟩
                    · rw [if_neg h'] at q1
                      exact ⟨v5, _, 0, 0, rfl, kn_same e7 h5.kn, q1⟩
                · have hf' := Bool.eq_false_iff.mpr hf
                  rw [hf', Bool.false_and] at q
                  rw [hf']
                  exact iteT (q _ e7)
            · rw [decide_eq_false e, Bool.false_and] at q
              exact iteB (by rw [decide_eq_false e]; rfl) (q _ e2)
          · have hw' := Bool.eq_false_iff.mpr hw
            rw [hw', Bool.false_and] at q
            rw [hw']
            exact iteT (q _ e2)
        · refine ⟨_, rfl, _, rfl, ?_⟩
          cases e : oneB y with
          | true => exact iteF (iteF ⟨by rw [← e]; rfl, e1, rfl⟩)
          | false =>
            refine iteT ⟨_, rfl, a, _, 2, _, rfl, rfl, SqT.of (e1 _ _ h), rfl, by show 7 ≤ sizeLine; decide, fun p2 hp2 => ⟨p2, _, rfl, .inr (SqT.of upd_same), rfl, by decide +kernel, _, rfl, ?_⟩⟩
            rw [show (if true = true then !inV (V.str y) [V.str "and", V.str "or", V.str "xor", V.str "add", V.str "sub", V.str "less", V.str "same"] else inV (V.str y) [V.str "and", V.str "or", V.str "xor", V.str "add", V.str "sub", V.str "less", V.str "same"]) = !sevB y from rfl]
            cases es : sevB y with
            | true => exact iteF ⟨by rw [← e]; rfl, e1.trans (same_new hp2), rfl⟩
            | false =>
              rw [e, es] at q
              exact iteT (q _ (e1.trans (same_new hp2)))
      | _ => exact iteT q0
    | _ => exact iteT (iteT q0)
end
end J
end Bf

namespace Bf
open PySem PySem.Spec PyProof.Rows L2
def topsT (z : Rm) : List (Str × List Int) := [("put", [z.r, 256]), ("pick", [z.r, z.r, z.r, z.r]), ("read", [z.r, z.c]), ("write", [z.c, z.r]), ("in", [z.r, z.i]), ("out", [z.o, z.r])]
def topD (t : Int) (d : PyData) : Bool := wholeD d 0 (t - 1)
def goD (b : Int) (rest : List PyData) : Bool := match rest with
  | [d1] => wholeD d1 1 b
  | _ => false
def skipD (z : Rm) (b : Int) (rest : List PyData) : Bool := match rest with
  | [d1, d2, d3] => wholeD d1 0 (z.r - 1) && (wholeD d2 0 1 && wholeD d3 1 b)
  | _ => false
/-- the law's look at an instruction -/
def isStepD (z : Rm) (b : Int) : PyData → Bool
  | .tuple (.str c :: rest) =>
    if decide (V.str c = V.str "do") = true then isDoD z (.str c :: rest) else if decide (V.str c = V.str "go") = true then goD b rest else if decide (V.str c = V.str "skip") = true then skipD z b rest else
    match lk c (topsT z) with
    | some ts => decide (rest.length = ts.length) && (List.zipWith topD ts rest).all id
    | none => false
  | _ => false
theorem valV_lk (c : Str) : ∀ l : List (Str × V), valV (l.map fun p => ((.inr p.1 : Key), p.2)) (.inr c) = lk c l
  | [] => rfl
  | (k, v) :: r => by
    have e : decide ((Sum.inr k : Key) = Sum.inr c) = (k == c) := by
      by_cases h : k = c
      · rw [h]; simp
      · rw [decide_eq_false (fun z => h (Sum.inr.inj z))]; exact (beq_eq_false_iff_ne.mpr h).symm
    have ih := valV_lk c r
    unfold valV at ih ⊢
    unfold lk
    rw [List.map_cons, List.find?_cons]
    dsimp only
    rw [e]
    cases k == c with
    | true => rfl
    | false => exact ih
theorem lk_pair {α β : Type} {R : α → β → Prop} {c : Str} : ∀ {l : List (Str × α)} {m : List (Str × β)}, Paired (fun a b => a.1 = b.1 ∧ R a.2 b.2) l m → (lk c l = none → lk c m = none) ∧ ∀ v, lk c l = some v → ∃ u, lk c m = some u ∧ R v u
  | _, _, .nil => ⟨fun _ => rfl, fun _ h => by cases h⟩
  | (k, v) :: r, (j, u) :: s, .cons h t => by
    obtain ⟨e, hr⟩ := h
    dsimp only at e hr
    subst e
    obtain ⟨i1, i2⟩ := lk_pair (c := c) t
    unfold lk
    split
    · exact ⟨fun h => (nomatch h), fun w hw => ⟨u, rfl, by cases hw; exact hr⟩⟩
    · exact ⟨i1, i2⟩
/-- the law's table of bounds -/
def Tops (G : Hp) (tp : Addr) (z : Rm) : Prop := ∃ tb : List (Str × V), G tp = some (.dK (tb.map fun p => ((.inr p.1 : Key), p.2))) ∧ Paired (fun (a : Str × List Int) (b : Str × V) => a.1 = b.1 ∧ ∃ p, b.2 = .ref p ∧ G p = some (.lst (a.2.map V.int))) (topsT z) tb
theorem Tops.same {G G' : Hp} {tp : Addr} {z : Rm} (s : Same G G') (h : Tops G tp z) : Tops G' tp z := by
  obtain ⟨tb, h1, h2⟩ := h
  exact ⟨tb, s _ _ h1, Paired.mapP h2 fun a b q => ⟨q.1, let ⟨p, e, g⟩ := q.2; ⟨p, e, s _ _ g⟩⟩⟩
theorem Tops.get {G : Hp} {tp : Addr} {z : Rm} (h : Tops G tp z) (c : Str) : (lk c (topsT z) = none → DGet G tp (.str c) none) ∧ ∀ ts, lk c (topsT z) = some ts → ∃ p, DGet G tp (.str c) (some (.ref p)) ∧ G p = some (.lst (ts.map V.int)) := by
  obtain ⟨tb, h1, h2⟩ := h
  obtain ⟨i1, i2⟩ := lk_pair (R := fun (x : List Int) (y : V) => ∃ p, y = .ref p ∧ G p = some (.lst (x.map V.int))) (c := c) h2
  have dg : DGet G tp (.str c) (lk c tb) := by
    rw [← valV_lk]
    exact DGet.k (k := .inr c) h1
  refine ⟨fun e => by rw [i1 e] at dg; exact dg, fun ts e => ?_⟩
  obtain ⟨u, e2, p, e3, g⟩ := i2 ts e
  rw [e2, e3] at dg
  exact ⟨p, dg, g⟩
theorem tops_len {c : Str} {z : Rm} {ts : List Int} (e : lk c (topsT z) = some ts) : 1 ≤ ts.length ∧ ts.length ≤ 5 := by
  have y := lk_len (p := fun l : List Int => decide (1 ≤ l.length) && decide (l.length ≤ 5)) (l := topsT z) rfl e
  obtain ⟨a, b⟩ := Bool.and_eq_true_iff.mp y
  exact ⟨of_decide_eq_true a, of_decide_eq_true b⟩
theorem goD_no {b : Int} {rest : List PyData} (h : rest.length ≠ 1) : goD b rest = false := by
  match rest, h with
  | [], _ => rfl
  | [_], h => exact absurd rfl h
  | _ :: _ :: _, _ => rfl
theorem skipD_no {z : Rm} {b : Int} {rest : List PyData} (h : rest.length ≠ 3) : skipD z b rest = false := by
  match rest, h with
  | [], _ => rfl
  | [_], _ => rfl
  | [_, _], _ => rfl
  | [_, _, _], h => exact absurd rfl h
  | _ :: _ :: _ :: _ :: _, _ => rfl
def boolP : PyData → Bool
  | .bool b => b
  | _ => false
theorem boolP_all : ∀ l : List Bool, (l.map PyData.bool).all boolP = l.all id
  | [] => rfl
  | b :: r => by rw [List.map_cons, List.all_cons, List.all_cons, boolP_all r]; rfl
namespace J
section
variable {P : Program} {w : World} {K : PySem.W.Frag} {mg : Str → Option Value} {base : Heap}
def spIsStep : Sp := fun vs H Q _ => ∃ (x : V) (d : PyData) (sm : Addr) (z : Rm) (b : Int), vs = [x, .ref sm, .int b] ∧ Da H x d ∧ H sm = some (.lst z.list) ∧ ∀ H', Same H H' → Q (.bl (isStepD z b d)) H'
abbrev nIsStep : List Str := ["_law_step_here", "_law_sizes", "_law_left", "_law_regs_many", "_law_stores", "_law_come", "_law_goes", "_law_tops", "_law_good", "_law_k", "_law_top"]
abbrev pIsStep : List Str := ["_law_step_here", "_law_sizes", "_law_left"]
theorem scIsStep : FnScope nIsStep pIsStep (defScope sIsStep) := ⟨rfl, rfl, rfl, by decide +kernel, rfl, by decide +kernel, by decide +kernel⟩
set_option maxHeartbeats 2000000 in
theorem ok_isstep {f fw fd_ : Addr} {fd dw dd : FuncData} (F : Fun K "_law_is_step" "_law_is_step" sIsStep f fd) (L : Bi mg) (Dw : Df K mg "_law_whole" fw dw nLWhole) (Gw : FnOk P w K mg base CX0 1 fw dw nLWhole (spWhole K))
    (Dd : Df K mg "_law_is_do" fd_ dd pIsDo) (Gd : FnOk P w K mg base CX0 2 fd_ dd pIsDo spIsDo) : FnOk P w K mg base CX0 3 f fd pIsStep spIsStep := by
  refine F.ok scIsStep (fun vs H Q E h => ?_) (fun cdv A outer s H vs Q E hr h => ?_)
  · obtain ⟨x, d, sm, z, b, rfl, _⟩ := h
    rfl
  · obtain ⟨x, d, sm, z, b, rfl, da, hm, q⟩ := h
    have hr1 := hr.mono (by decide : 1 ≤ 2)
    have hr2 := hr.mono (by decide : 2 ≤ 2)
    have hu := hr.units
    have hu1 : (A.deeper (envOfC "_law_is_step" (defScope sIsStep) s.heap.objs.size f cdv)).units + 1 < cLine := by omega
    refine ⟨_, (pss_cons (ps_if (PW.pt (pw_or (pt_not (pt_val (pe_callB call_isi (by rfl) L.mi (by decide +kernel) (pa_cons (pv 0) (pa_cons (pe_bltn (v := .ty "tuple") (by rfl) L.mt (by decide +kernel) rfl) pa_nil))))) (pw_or (pt_cmpR (op_eqNilT hr.units) (pv 0) (pe_tup pa_nil) (nomark _)) (pw_or1 (pt_not (pt_val (pe_callB call_isi (by rfl) L.mi (by decide +kernel) (pa_cons (pe_ix ix_tup (pv 0) pe_int (fun _ _ => rfl)) (pa_cons (pe_bltn (v := .ty "str") (by rfl) L.ms (by decide +kernel) rfl) pa_nil))))))))) (pss_one (ps_ret pe_bl)) pss_nil)
        (pss_cons (ps_asg (pv 1) (pg_unl rfl (pgs_cons (pg_name (i := 3) scIsStep.nd rfl (Or.inl rfl)) (pgs_cons (pg_name (i := 4) scIsStep.nd rfl (Or.inl rfl)) (pgs_cons (pg_name (i := 5) scIsStep.nd rfl (Or.inl rfl)) (pgs_cons (pg_name (i := 6) scIsStep.nd rfl (Or.inl rfl)) pgs_nil))))))
        (pss_cons (ps_set (i := 7) scIsStep.nd rfl (Or.inl rfl) (pe_disp (pps_cons pe_str (pe_lst (pa_cons (pv 3) (pa_cons pe_int pa_nil))) (pps_cons pe_str (pe_op op_repN (pe_lst (pa_cons (pv 3) pa_nil)) pe_int) (pps_cons pe_str (pe_lst (pa_cons (pv 3) (pa_cons (pv 4) pa_nil))) (pps_cons pe_str (pe_lst (pa_cons (pv 4) (pa_cons (pv 3) pa_nil))) pps_nil)))) rfl rfl (by simp) (by decide)))
        (Evl.pss_cut (ps_expr (pe_bm PySem.F.plainAttrs_dict PySem.F.slot_dict_update PySem.F.type_dict_update mtd_update (pv 7) (pa_cons (pe_disp (pps_cons pe_str (pe_lst (pa_cons (pv 3) (pa_cons (pv 5) pa_nil))) (pps_cons pe_str (pe_lst (pa_cons (pv 6) (pa_cons (pv 3) pa_nil))) pps_nil)) rfl rfl (by simp) (by decide)) pa_nil)))
        (pss_cons (ps_if (pt_cmpR op_eq (pe_ix ix_tup (pv 0) pe_int (fun _ _ => rfl)) pe_str (nomark _)) (pss_one (ps_ret (pe_call Gd hr2 (by rfl) Dd.at_ Dd.kp Dd.bd .nil pass0 (pa_cons (pv 0) (pa_cons (pv 1) pa_nil))))) pss_nil)
        (pss_cons (ps_if (pt_cmpR op_eq (pe_ix ix_tup (pv 0) pe_int (fun _ _ => rfl)) pe_str (nomark _)) (pss_one (ps_ret (pe_and (pe_cmpR op_eq (pe_callB call_len_seq (by rfl) L.ml PySem.boot_len (pa_cons (pv 0) pa_nil)) pe_int (nomark _)) (pe_one (pe_call Gw hr1 (by rfl) Dw.at_ Dw.kp Dw.bd .nil pass0 (pa_cons (pe_ix ix_tup (pv 0) pe_int (fun _ _ => rfl)) (pa_cons pe_int (pa_cons (pv 2) pa_nil)))))))) pss_nil)
        (pss_cons (ps_if (pt_cmpR op_eq (pe_ix ix_tup (pv 0) pe_int (fun _ _ => rfl)) pe_str (nomark _)) (pss_cons (ps_set (i := 8) scIsStep.nd rfl (Or.inl rfl) (pe_and (pe_cmpR op_eq (pe_callB call_len_seq (by rfl) L.ml PySem.boot_len (pa_cons (pv 0) pa_nil)) pe_int (nomark _)) (pe_one (pe_call Gw hr1 (by rfl) Dw.at_ Dw.kp Dw.bd .nil pass0 (pa_cons (pe_ix ix_tup (pv 0) pe_int (fun _ _ => rfl)) (pa_cons pe_int (pa_cons (pe_op op_sub (pv 3) pe_int) pa_nil)))))))
        (pss_one (ps_ret (pe_and (pv 8) (pe_and (pe_call Gw hr1 (by rfl) Dw.at_ Dw.kp Dw.bd .nil pass0 (pa_cons (pe_ix ix_tup (pv 0) pe_int (fun _ _ => rfl)) (pa_cons pe_int (pa_cons pe_int pa_nil)))) (pe_one (pe_call Gw hr1 (by rfl) Dw.at_ Dw.kp Dw.bd .nil pass0 (pa_cons (pe_ix ix_tup (pv 0) pe_int (fun _ _ => rfl)) (pa_cons pe_int (pa_cons (pv 2) pa_nil)))))))))) pss_nil)
        (pss_cons (ps_if (PW.pt (pw_or (pt_cmp (pc_dnotin hu1 (pe_ix ix_tup (pv 0) pe_int (fun _ _ => rfl)) (pv 7)) (by rfl)) (pw_or1 (pt_cmpR op_ne (pe_callB call_len_seq (by rfl) L.ml PySem.boot_len (pa_cons (pv 0) pa_nil)) (pe_op op_add pe_int (pe_callB call_len_seq (by rfl) L.ml PySem.boot_len (pa_cons (pe_dget hu1 (pv 7) (pe_ix ix_tup (pv 0) pe_int (fun _ _ => rfl)) (fun _ _ => rfl)) pa_nil))) (nomark _))))) (pss_one (ps_ret pe_bl)) pss_nil)
        (pss_one (ps_ret (pe_cmpR (op_eqNil hr.units) (pe_lc (own := [("_law_k", 9), ("_law_top", 10)]) (g := gTup K 2 (gCons (gName 9) (gCons (gName 10) gNil))) (tt := _) rfl scIsStep.nd (pi_enum (by rfl) L.me (pa_cons (pe_dget hu1 (pv 7) (pe_ix ix_tup (pv 0) pe_int (fun _ _ => rfl)) (fun _ _ => rfl)) pa_nil)) (blkOk_by (N := nIsStep) (sc := defScope sIsStep) (by decide +kernel))
          (fun _ _ _ _ _ => pg_tup rfl (pgs_cons (pg_name (i := 9) scIsStep.nd rfl (Or.inl rfl)) (pgs_cons (pg_name (i := 10) scIsStep.nd rfl (Or.inl rfl)) pgs_nil)))
          (fun _ _ _ _ _ => (pts_one (pt_not (pt_val (pe_call Gw hr1 (by rfl) Dw.at_ Dw.kp Dw.bd .nil pass0 (pa_cons (pe_ix (ixT (K := K) rfl) (pv 0) (pe_op op_add (pv 9) pe_int) (fun _ _ => rfl)) (pa_cons pe_int (pa_cons (pe_op op_sub (pv 10) pe_int) pa_nil)))))))) (fun _ _ _ _ _ => (pv 9))) (pe_lst pa_nil) (nomark _)))))))))))), ?_⟩
    refine ⟨_, rfl, x, .ty "tuple", _, _, _, rfl, .ty "tuple", da.kn.ty, kit_ty (kit_tup d), _, rfl, ?_⟩
    have q0 := q H (Same.refl H)
    by_cases ht : (tyD d == "tuple") = true
    · rw [ht]
      obtain ⟨a, xs, ds, rfl, rfl, h, l, r⟩ : ∃ a xs ds, x = .ref a ∧ d = .tuple ds ∧ H a = some (.tup xs) ∧ xs.length ≤ 1000 ∧ DaAll H xs ds := by
        cases da with
        | @tup a xs ds h l r => exact ⟨a, xs, ds, rfl, rfl, h, l, r⟩
        | _ => cases ht
      refine iteF ⟨_, rfl, by show 0 ≤ sizeLine; decide, fun p0 hp0 => ⟨a, p0, xs, rfl, rfl, SqT.of ((same_new hp0) _ _ h), SqT.of upd_same, _, rfl, ?_⟩⟩
      have s0 : Same H (upd H p0 (.tup [])) := same_new hp0
      generalize upd H p0 (.tup []) = G0 at s0
      cases r with
      | nil => exact iteT (q _ s0)
      | @cons v vs d1 rest hv rv =>
      refine iteF ⟨_, rfl, a, _, ((0 : Nat) : Int), v, rfl, rfl, SqT.of (s0 _ _ h), atI_nat rfl, v, .ty "str", _, _, _, rfl, .ty "str", (kn_same s0 hv.kn).ty, kit_ty (kit_str d1), _, rfl, ?_⟩
      cases hv with
      | str c hc =>
        refine iteF ⟨_, rfl, sm, _, rfl, SqL.of (s0 _ _ hm), rfl, _, _, rfl, _, _, rfl, _, _, rfl, _, _, rfl, rfl, ?_⟩
        dsimp only [gName]
        refine fun tp htp => ?_
        have w1 : (upd G0 tp (.dK [])) tp = some (.dK []) := upd_same
        have s1 : Same G0 (upd G0 tp (.dK [])) := same_new htp
        generalize upd G0 tp (.dK []) = G1 at w1 s1
        refine ⟨_, rfl, by show 2 ≤ sizeLine; decide, fun p1 hp1 => ?_⟩
        have f1 : (upd G1 p1 (.lst [.int z.r, .int 256])) p1 = some (.lst [.int z.r, .int 256]) := upd_same
        have s2 : Same G1 (upd G1 p1 (.lst [.int z.r, .int 256])) := same_new hp1
        generalize upd G1 p1 (.lst [.int z.r, .int 256]) = G2 at f1 s2
        have n1 : p1 ≠ tp := fun e => by rw [e, w1] at hp1; cases hp1
        refine ⟨_, rfl, by show 1 ≤ sizeLine; decide, fun l0 hl0 => ⟨l0, 4, _, rfl, rfl, upd_same, by decide, by decide, by show 4 ≤ sizeLine; decide, fun p2 hp2 _ => ?_⟩⟩
        have s3' : Same G2 (upd G2 l0 (.lst [.int z.r])) := same_new hl0
        generalize upd G2 l0 (.lst [.int z.r]) = G3' at s3' hp2
        rw [show (List.replicate (4 : Int).toNat [V.int z.r]).flatten = [.int z.r, .int z.r, .int z.r, .int z.r] from rfl]
        have f2 : (upd G3' p2 (.lst [.int z.r, .int z.r, .int z.r, .int z.r])) p2 = some (.lst [.int z.r, .int z.r, .int z.r, .int z.r]) := upd_same
        have s3 : Same G2 (upd G3' p2 (.lst [.int z.r, .int z.r, .int z.r, .int z.r])) := s3'.trans (same_new hp2)
        generalize upd G3' p2 (.lst [.int z.r, .int z.r, .int z.r, .int z.r]) = G3 at f2 s3
        have n2 : p2 ≠ tp := fun e => by rw [e, s3' _ _ (s2 _ _ w1)] at hp2; cases hp2
        refine ⟨_, rfl, _, rfl, by show 2 ≤ sizeLine; decide, fun p3 hp3 => ?_⟩
        have f3 : (upd G3 p3 (.lst [.int z.r, .int z.c])) p3 = some (.lst [.int z.r, .int z.c]) := upd_same
        have s4 : Same G3 (upd G3 p3 (.lst [.int z.r, .int z.c])) := same_new hp3
        generalize upd G3 p3 (.lst [.int z.r, .int z.c]) = G4 at f3 s4
        have n3 : p3 ≠ tp := fun e => by rw [e, s3 _ _ (s2 _ _ w1)] at hp3; cases hp3
        refine ⟨_, rfl, _, rfl, by show 2 ≤ sizeLine; decide, fun p4 hp4 => ?_⟩
        have f4 : (upd G4 p4 (.lst [.int z.c, .int z.r])) p4 = some (.lst [.int z.c, .int z.r]) := upd_same
        have s5 : Same G4 (upd G4 p4 (.lst [.int z.c, .int z.r])) := same_new hp4
        generalize upd G4 p4 (.lst [.int z.c, .int z.r]) = G5 at f4 s5
        have n4 : p4 ≠ tp := fun e => by rw [e, s4 _ _ (s3 _ _ (s2 _ _ w1))] at hp4; cases hp4
        have s15 : Same G1 G5 := ((s2.trans s3).trans s4).trans s5
        refine ⟨s15 _ _ w1, [(.inr "put", .ref p1), (.inr "pick", .ref p2), (.inr "read", .ref p3), (.inr "write", .ref p4)], rfl, by show 4 ≤ 15; decide, ?_⟩
        dsimp only [gName]
        rw [show mergeK [] [((.inr "put" : Key), V.ref p1), (.inr "pick", .ref p2), (.inr "read", .ref p3), (.inr "write", .ref p4)] = [((.inr "put" : Key), V.ref p1), (.inr "pick", .ref p2), (.inr "read", .ref p3), (.inr "write", .ref p4)] from rfl]
        have k6 : ∀ y o, y ≠ tp → G5 y = some o → (upd G5 tp (.dK [((.inr "put" : Key), V.ref p1), (.inr "pick", .ref p2), (.inr "read", .ref p3), (.inr "write", .ref p4)])) y = some o := fun y o n e => by rw [upd_ne n]; exact e
        have w6 : (upd G5 tp (.dK [((.inr "put" : Key), V.ref p1), (.inr "pick", .ref p2), (.inr "read", .ref p3), (.inr "write", .ref p4)])) tp = some _ := upd_same
        generalize upd G5 tp (.dK [((.inr "put" : Key), V.ref p1), (.inr "pick", .ref p2), (.inr "read", .ref p3), (.inr "write", .ref p4)]) = G6 at k6 w6
        have nt : ∀ y o, G0 y = some o → y ≠ tp := fun y o e z => by rw [z, htp] at e; cases e
        have s06 : Same G0 G6 := fun y o e => k6 y o (nt y o e) (s15 _ _ (s1 _ _ e))
        have g1 := k6 _ _ n1 (s5 _ _ (s4 _ _ (s3 _ _ f1)))
        have g2 := k6 _ _ n2 (s5 _ _ (s4 _ _ f2))
        have g3 := k6 _ _ n3 (s5 _ _ f3)
        have g4 := k6 _ _ n4 f4
        refine ⟨fun σ' G' => σ' = [some (.ref a), some (.ref sm), some (.int b), some (.int z.r), some (.int z.c), some (.int z.i), some (.int z.o), some (.ref tp), none, none, none] ∧ Same G0 G' ∧ Tops G' tp z, ?_, ?_⟩
        · refine ⟨_, rfl, .inr (.inr (.inl ⟨rfl, .inl ⟨_, w6⟩⟩)), fun dp hdp => ?_⟩
          have w7 : (upd G6 dp (.dK [])) dp = some (.dK []) := upd_same
          have s7 : Same G6 (upd G6 dp (.dK [])) := same_new hdp
          generalize upd G6 dp (.dK []) = G7 at w7 s7
          have nd : ∀ y o, G6 y = some o → y ≠ dp := fun y o e z => by rw [z, hdp] at e; cases e
          refine ⟨_, rfl, _, rfl, by show 2 ≤ sizeLine; decide, fun p5 hp5 => ?_⟩
          have f5 : (upd G7 p5 (.lst [.int z.r, .int z.i])) p5 = some (.lst [.int z.r, .int z.i]) := upd_same
          have s8 : Same G7 (upd G7 p5 (.lst [.int z.r, .int z.i])) := same_new hp5
          generalize upd G7 p5 (.lst [.int z.r, .int z.i]) = G8 at f5 s8
          have n5 : p5 ≠ dp := fun e => by rw [e, w7] at hp5; cases hp5
          have n5' : p5 ≠ tp := fun e => by rw [e, s7 _ _ w6] at hp5; cases hp5
          refine ⟨_, rfl, _, rfl, by show 2 ≤ sizeLine; decide, fun p6 hp6 => ?_⟩
          have f6 : (upd G8 p6 (.lst [.int z.o, .int z.r])) p6 = some (.lst [.int z.o, .int z.r]) := upd_same
          have s9 : Same G8 (upd G8 p6 (.lst [.int z.o, .int z.r])) := same_new hp6
          generalize upd G8 p6 (.lst [.int z.o, .int z.r]) = G9 at f6 s9
          have n6 : p6 ≠ dp := fun e => by rw [e, s8 _ _ w7] at hp6; cases hp6
          have n6' : p6 ≠ tp := fun e => by rw [e, s8 _ _ (s7 _ _ w6)] at hp6; cases hp6
          have s79 : Same G7 G9 := s8.trans s9
          refine ⟨s79 _ _ w7, [(.inr "in", .ref p5), (.inr "out", .ref p6)], rfl, by show 2 ≤ 15; decide, ?_⟩
          have k9 : ∀ y o, y ≠ dp → G9 y = some o → (upd G9 dp (.dK (mergeK [] [((.inr "in" : Key), V.ref p5), (.inr "out", .ref p6)]))) y = some o := fun y o n e => by rw [upd_ne n]; exact e
          have w9 : (upd G9 dp (.dK (mergeK [] [((.inr "in" : Key), V.ref p5), (.inr "out", .ref p6)]))) dp = some (.dK [((.inr "in" : Key), V.ref p5), (.inr "out", .ref p6)]) := upd_same
          generalize upd G9 dp (.dK (mergeK [] [((.inr "in" : Key), V.ref p5), (.inr "out", .ref p6)])) = GA at k9 w9
          have s69 : ∀ y o, G6 y = some o → GA y = some o := fun y o e => k9 y o (nd y o e) (s79 _ _ (s7 _ _ e))
          refine ⟨tp, dp, _, _, rfl, rfl, s69 _ _ w6, w9, nd _ _ w6, by show 4 + 2 ≤ 100; decide, rfl, fun y o e => ?_, ?_⟩
          · rw [upd_ne (nt y o e)]
            exact s69 _ _ (s06 _ _ e)
          · refine ⟨[("put", .ref p1), ("pick", .ref p2), ("read", .ref p3), ("write", .ref p4), ("in", .ref p5), ("out", .ref p6)], upd_same, ?_⟩
            refine .cons ⟨rfl, p1, rfl, ?_⟩ (.cons ⟨rfl, p2, rfl, ?_⟩ (.cons ⟨rfl, p3, rfl, ?_⟩ (.cons ⟨rfl, p4, rfl, ?_⟩ (.cons ⟨rfl, p5, rfl, ?_⟩ (.cons ⟨rfl, p6, rfl, ?_⟩ .nil)))))
            · rw [upd_ne n1]; exact s69 _ _ g1
            · rw [upd_ne n2]; exact s69 _ _ g2
            · rw [upd_ne n3]; exact s69 _ _ g3
            · rw [upd_ne n4]; exact s69 _ _ g4
            · rw [upd_ne n5']; exact k9 _ _ n5 (s9 _ _ f5)
            · rw [upd_ne n6']; exact k9 _ _ n6 f6
        · rintro σ' G ⟨rfl, sG0, tG⟩
          have sG := s0.trans sG0
          have hG := sG _ _ h
          have mG := sG _ _ hm
          have lv := rv.len
          have rvG := rv.same sG
          have ed : isStepD z b (.tuple (.str c :: rest)) = (if decide (V.str c = V.str "do") = true then isDoD z (.str c :: rest) else if decide (V.str c = V.str "go") = true then goD b rest else if decide (V.str c = V.str "skip") = true then skipD z b rest else
            match lk c (topsT z) with
            | some ts => decide (rest.length = ts.length) && (List.zipWith topD ts rest).all id
            | none => false) := rfl
          rw [ed] at q
          refine ⟨_, rfl, a, _, ((0 : Nat) : Int), _, rfl, rfl, SqT.of hG, atI_nat rfl, rfl, _, rfl, ite2 (fun h' => ?_) (fun h' => ?_)⟩
          · rw [if_pos h'] at q
            exact ⟨_, rfl, _, rfl, _, .str c :: rest, sm, z, rfl, .tup hG l (.cons (.str c hc) rvG), mG, fun H'' s'' => q _ (sG.trans s'')⟩
          rw [if_neg h'] at q
          refine ⟨_, rfl, a, _, ((0 : Nat) : Int), _, rfl, rfl, SqT.of hG, atI_nat rfl, rfl, _, rfl, ite2 (fun h' => ?_) (fun h' => ?_)⟩
          · rw [if_pos h'] at q
            refine ⟨_, rfl, a, _, rfl, .inr (SqT.of hG), rfl, _, rfl, ?_⟩
            by_cases e2 : ¬ rest.length = 1
            · rw [goD_no e2] at q
              have en : ¬ V.int (((V.str c :: vs).length : Nat) : Int) = V.int 2 := fun z => by have := V.int.inj z; rw [List.length_cons] at this; omega
              rw [decide_eq_false en]
              exact iteF (q _ sG)
            have e2 := Decidable.not_not.mp e2
            match rest, e2, rv, rvG with
            | [d2], _, .cons (v := v2) h2 .nil, rvG =>
              refine iteT ⟨_, rfl, a, _, ((1 : Nat) : Int), v2, rfl, rfl, SqT.of hG, atI_nat rfl, _, rfl, v2, _, 1, b, rfl, kn_same sG h2.kn, ?_⟩
              rw [h2.whole]
              exact q _ sG
          rw [if_neg h'] at q
          refine ⟨_, rfl, a, _, ((0 : Nat) : Int), _, rfl, rfl, SqT.of hG, atI_nat rfl, rfl, _, rfl, ite2 (fun h' => ?_) (fun h' => ?_)⟩
          · rw [if_pos h'] at q
            refine ⟨_, rfl, a, _, rfl, .inr (SqT.of hG), rfl, _, rfl, ?_⟩
            by_cases e2 : ¬ rest.length = 3
            · rw [skipD_no e2] at q
              have en : ¬ V.int (((V.str c :: vs).length : Nat) : Int) = V.int 4 := fun z => by have := V.int.inj z; rw [List.length_cons] at this; omega
              rw [decide_eq_false en]
              exact iteF ⟨_, rfl, _, rfl, iteF (q _ sG)⟩
            have e2 := Decidable.not_not.mp e2
            match rest, e2, rv, rvG with
            | [d2, d3, d4], _, .cons (v := v2) h2 (.cons (v := v3) h3 (.cons (v := v4) h4 .nil)), rvG =>
              have es : skipD z b [d2, d3, d4] = (wholeD d2 0 (z.r - 1) && (wholeD d3 0 1 && wholeD d4 1 b)) := rfl
              rw [es] at q
              refine iteT ⟨_, rfl, a, _, ((1 : Nat) : Int), v2, rfl, rfl, SqT.of hG, atI_nat rfl, _, rfl, _, _, rfl, rfl, v2, _, 0, z.r - 1, rfl, kn_same sG h2.kn, ?_⟩
              rw [h2.whole]
              refine ⟨_, rfl, _, rfl, ?_⟩
              cases et : wholeD d2 0 (z.r - 1) with
              | false => rw [et, Bool.false_and] at q; exact iteF (q _ sG)
              | true =>
                rw [et, Bool.true_and] at q
                refine iteT ⟨_, rfl, a, _, ((2 : Nat) : Int), v3, rfl, rfl, SqT.of hG, atI_nat rfl, v3, _, 0, 1, rfl, kn_same sG h3.kn, _, rfl, ?_⟩
                rw [h3.whole]
                cases eu : wholeD d3 0 1 with
                | false => rw [eu, Bool.false_and] at q; exact iteF (q _ sG)
                | true =>
                  rw [eu, Bool.true_and] at q
                  refine iteT ⟨_, rfl, a, _, ((3 : Nat) : Int), v4, rfl, rfl, SqT.of hG, atI_nat rfl, _, rfl, v4, _, 1, b, rfl, kn_same sG h4.kn, ?_⟩
                  rw [h4.whole]
                  exact q _ sG
          rw [if_neg h'] at q
          obtain ⟨t0, t1⟩ := tG.get c
          cases e : lk c (topsT z) with
          | none =>
            rw [e] at q
            exact ⟨_, rfl, a, _, ((0 : Nat) : Int), _, rfl, rfl, SqT.of hG, atI_nat rfl, _, rfl, tp, none, rfl, t0 e, _, rfl, iteT (q _ sG)⟩
          | some ts =>
            rw [e] at q
            dsimp only at q
            obtain ⟨pt, dg, gp⟩ := t1 ts e
            refine ⟨_, rfl, a, _, ((0 : Nat) : Int), _, rfl, rfl, SqT.of hG, atI_nat rfl, _, rfl, tp, _, rfl, dg, _, rfl, iteF ?_⟩
            refine ⟨_, rfl, a, _, rfl, .inr (SqT.of hG), _, rfl, _, rfl, a, _, ((0 : Nat) : Int), _, rfl, rfl, SqT.of hG, atI_nat rfl, tp, _, rfl, dg, pt, _, rfl, .inl (SqL.of gp), _, _, rfl, rfl, rfl, _, rfl, ?_⟩
            by_cases e2 : ¬ rest.length = ts.length
            · rw [decide_eq_false e2, Bool.false_and] at q
              have en : ¬ V.int (((V.str c :: vs).length : Nat) : Int) = V.int (1 + (((ts.map V.int).length : Nat) : Int)) := fun z => by have := V.int.inj z; rw [List.length_cons, List.length_map] at this; omega
              exact iteB (by rw [decide_eq_false en]; rfl) (q _ sG)
            have e2 := Decidable.not_not.mp e2
            rw [decide_eq_true e2, Bool.true_and] at q
            have ey : V.int (((V.str c :: vs).length : Nat) : Int) = V.int (1 + (((ts.map V.int).length : Nat) : Int)) := by rw [List.length_cons, List.length_map, lv, e2]; congr 1; omega
            refine iteN (by rw [decide_eq_true ey]; rfl) ?_
            have tl := tops_len e
            have zl : (List.zipWith topD ts rest).length = ts.length := by rw [List.length_zipWith, e2, Nat.min_self]
            refine ⟨_, rfl, _, rfl, a, _, ((0 : Nat) : Int), _, rfl, rfl, SqT.of hG, atI_nat rfl, tp, _, rfl, dg, pt, _, rfl, SqL.of gp, fun D hD => lc_ite (K := K) (a := pt) (xs := ts.map V.int)
              (fun i H' => Same G H' ∧ H' D = some (.lst (keepV boolP (((List.range ts.length).map fun k => V.int (k : Nat)).take i) (((List.zipWith topD ts rest).map PyData.bool).take i)))) ⟨same_new hD, upd_same⟩
              (fun i H' _ pv => SqL.of (pv.1 _ _ gp)) (fun i u H' T' hu pv hT => ?_) fun H' pv => ?_⟩
            · rw [List.getElem?_map] at hu
              cases hj : ts[i]? with
              | none => rw [hj] at hu; cases hu
              | some tj =>
                rw [hj] at hu
                cases hu
                have hi := (List.getElem?_eq_some_iff.mp hj).1
                have hi2 : i < rest.length := by omega
                obtain ⟨y, hy, dy⟩ := (rvG.same pv.1).getD (List.getElem?_eq_getElem hi2)
                have sT : Same H' (upd H' T' (.tup [.int (i : Nat), .int tj])) := same_new hT
                have nTD : T' ≠ D := fun e => by rw [e, pv.2] at hT; cases hT
                have zi : ((List.zipWith topD ts rest).map PyData.bool)[i]? = some (.bool (topD tj rest[i])) := by rw [List.getElem?_map, zw_get topD hj (List.getElem?_eq_getElem hi2)]; rfl
                have ri : ((List.range ts.length).map fun k => V.int (k : Nat))[i]? = some (.int (i : Nat)) := by rw [List.getElem?_map, List.getElem?_range hi]; rfl
                have kt := keepV_take (p := boolP) ri zi
                have sH := pv.1.trans sT
                refine ⟨T', _, rfl, SqT.of upd_same, rfl, _, _, rfl, _, _, rfl, rfl, rfl, _, rfl, _, rfl, _, _, rfl, rfl, a, _, _, y, rfl, rfl, SqT.of (sH _ _ hG), (show atI (V.str c :: vs) ((i + 1 : Nat) : Int) = some y from atI_nat hy), _, rfl, _, _, rfl, rfl, y, _, 0, tj - 1, rfl, kn_same sT dy.kn, _, rfl, ?_⟩
                rw [dy.whole]
                cases et : wholeD rest[i] 0 (tj - 1) with
                | true =>
                  refine iteF ⟨sH, ?_⟩
                  rw [kt, show topD tj rest[i] = true from et]
                  simp only [boolP, if_true, List.append_nil]
                  exact sT _ _ pv.2
                | false =>
                  refine iteT ⟨_, rfl, _, sT _ _ pv.2, ?_, fun c o e => ?_, ?_⟩
                  · exact small1000 (Nat.le_trans (keepV_len _ _) (by rw [List.length_take, List.length_map, List.length_range]; omega))
                  · rw [upd_ne (ne_of_none e hD)]
                    exact sH _ _ e
                  · rw [upd_same, kt, show topD tj rest[i] = false from et]
                    rfl
            · have l1 : (ts.map V.int).length = ((List.range ts.length).map fun k => V.int (k : Nat)).length := by rw [List.length_map, List.length_map, List.length_range]
              have l2 : ((List.range ts.length).map fun k => V.int (k : Nat)).length = ((List.zipWith topD ts rest).map PyData.bool).length := by rw [List.length_map, List.length_range, List.length_map, zl]
              rw [l1, List.take_length, l2, List.take_length] at pv
              refine ⟨by show 0 ≤ sizeLine; decide, fun L hL => ⟨D, L, _, rfl, rfl, SqL.of ((same_new hL) _ _ pv.2), SqL.of upd_same, ?_⟩⟩
              rw [keepV_empty l2, boolP_all]
              exact q _ ((sG.trans pv.1).trans (same_new hL))
      | _ => exact iteT (q _ s0)
    · rw [Bool.eq_false_iff.mpr ht]
      have e0 : isStepD z b d = false := by cases da <;> first | rfl | exact absurd rfl ht
      rw [e0] at q0
      exact iteT q0
end
end J
end Bf

namespace Bf
open PySem PySem.Spec PyProof.Rows L2
theorem all_map {α : Type} {f : α → Bool} : ∀ l : List α, (l.map f).all id = l.all f
  | [] => rfl
  | a :: r => by rw [List.map_cons, List.all_cons, List.all_cons, all_map r]; rfl
theorem inV_append (x : V) (a b : List V) : inV x (a ++ b) = (inV x a || inV x b) := by unfold inV; rw [List.any_append]
theorem word_eq (w : Str) : wordD (.str w) = (oneB w || sevB w) := by
  have e : wordD (.str w) = (inV (.str w) [.str "not"] || (inV (.str w) [.str "and", .str "or", .str "xor", .str "add", .str "sub", .str "less", .str "same"] || inV (.str w) [.str "wide", .str "bit"])) := by
    show inV (.str w) ([.str "not"] ++ ([.str "and", .str "or", .str "xor", .str "add", .str "sub", .str "less", .str "same"] ++ [.str "wide", .str "bit"])) = _
    rw [inV_append, inV_append]
  have e2 : oneB w = (inV (.str w) [.str "not"] || inV (.str w) [.str "wide", .str "bit"]) := by
    show inV (.str w) ([.str "not"] ++ [.str "wide", .str "bit"]) = _
    rw [inV_append]
  have e3 : sevB w = inV (.str w) [.str "and", .str "or", .str "xor", .str "add", .str "sub", .str "less", .str "same"] := rfl
  rw [e, e2, e3]
  generalize inV (.str w) [V.str "not"] = a
  generalize inV (.str w) [V.str "wide", V.str "bit"] = b
  generalize inV (.str w) [V.str "and", .str "or", .str "xor", .str "add", .str "sub", .str "less", .str "same"] = c
  cases a <;> cases b <;> cases c <;> rfl
theorem zip_map {α : Type} {f : α → PyData → Bool} : ∀ (ss : List α) (rest : List PyData), List.zipWith f ss rest = List.zipWith (fun (g : PyData → Bool) d => g d) (ss.map f) rest
  | [], _ => rfl
  | _ :: _, [] => rfl
  | s :: ss, d :: rest => by rw [List.zipWith_cons_cons, List.map_cons, List.zipWith_cons_cons, zip_map ss rest]
theorem slot_reg (z : Rm) (b : Int) : slotD z b "registers" = topD z.r := rfl
theorem slot_cel (z : Rm) (b : Int) : slotD z b "cells" = topD z.c := rfl
theorem slot_ins (z : Rm) (b : Int) : slotD z b "ins" = topD z.i := rfl
theorem slot_out (z : Rm) (b : Int) : slotD z b "outs" = topD z.o := rfl
theorem slot_wor (z : Rm) (b : Int) : slotD z b "worth" = topD 256 := rfl
theorem slot_wrd (z : Rm) (b : Int) : slotD z b "word" = wordD := rfl
theorem slot_wid (z : Rm) (b : Int) (d : PyData) : slotD z b "width" d = wholeD d 1 8 := rfl
theorem slot_tru (z : Rm) (b : Int) (d : PyData) : slotD z b "truth" d = wholeD d 0 1 := rfl
theorem slot_man (z : Rm) (b : Int) (d : PyData) : slotD z b "many" d = wholeD d 1 b := rfl
theorem slot_arg (z : Rm) (b : Int) (d : PyData) : slotD z b "args" d = true := rfl
theorem slot_mor (z : Rm) (b : Int) (d : PyData) : slotD z b "more" d = true := rfl
/-- one of the six words of bounds -/
theorem top_eq {z : Rm} {b : Int} {c : Str} {rest : List PyData} {ss : List Str} {ts : List Int} (e : lk c FS = some ss) (e2 : lk c (topsT z) = some ts) (em : ss.map (slotD z b) = ts.map topD) (nd : decide (V.str c = V.str "do") = false) (ng : decide (V.str c = V.str "go") = false) (ns : decide (V.str c = V.str "skip") = false) :
    isStepD z b (.tuple (.str c :: rest)) = insD z b (.tuple (.str c :: rest)) := by
  have el : ss.length = ts.length := by have := congrArg List.length em; rwa [List.length_map, List.length_map] at this
  have h1 : isStepD z b (.tuple (.str c :: rest)) = (decide (rest.length = ts.length) && (List.zipWith topD ts rest).all id) := by
    show (if decide (V.str c = V.str "do") = true then isDoD z (.str c :: rest) else if decide (V.str c = V.str "go") = true then goD b rest else if decide (V.str c = V.str "skip") = true then skipD z b rest else
      match lk c (topsT z) with
      | some ts => decide (rest.length = ts.length) && (List.zipWith topD ts rest).all id
      | none => false) = _
    rw [nd, ng, ns, e2]
    rfl
  rw [h1, ins_eq e, nd, zip_map ts, zip_map ss, em, el]
  simp
theorem do_eq (z : Rm) (b : Int) (rest : List PyData) : isDoD z (.str "do" :: rest) = insD z b (.tuple (.str "do" :: rest)) := by
  rw [ins_eq (show lk "do" FS = some (["registers", "word", "width", "args", "more"] : List Str) from by decide +kernel)]
  by_cases h : ¬ rest.length = 5
  · rw [isDo_no (show (PyData.str "do" :: rest).length ≠ 6 from fun z => h (by rw [List.length_cons] at z; omega))]
    have e5 : decide (rest.length = (["registers", "word", "width", "args", "more"] : List Str).length) = false := decide_eq_false h
    rw [e5]
    rfl
  have h := Decidable.not_not.mp h
  match rest, h with
  | [d1, d2, d3, d4, d5], _ =>
    show doD z d1 d2 d3 d4 d5 = ((decide ((5 : Nat) = 5) && (slotD z b "registers" d1 && (slotD z b "word" d2 && (slotD z b "width" d3 && (slotD z b "args" d4 && (slotD z b "more" d5 && true)))))) && (false || reckR z [d1, d2, d3, d4, d5]))
    rw [slot_reg, slot_wrd, slot_wid, slot_arg, slot_mor]
    cases d2 with
    | str w =>
      cases d3 with
      | int n =>
        cases d4 with
        | tuple as =>
          have e1 : doD z d1 (.str w) (.int n) (.tuple as) d5 = ((oneB w || sevB w) && (wholeD (.int n) 1 8 && (decide (V.int (as.length : Nat) = V.int (if oneB w = true then 1 else 2)) && (((d1 :: as).all fun d => wholeD d 0 (z.r - 1)) && moreD w n d5)))) := rfl
          have e2 : reckR z [d1, .str w, .int n, .tuple as, d5] = (decide (V.int (as.length : Nat) = V.int (if oneB w = true then 1 else 2)) && (regsD z as && moreD w n d5)) := rfl
          rw [e1, e2, word_eq, List.all_cons]
          unfold regsD
          rw [all_map]
          show _ = ((true && (wholeD d1 0 (z.r - 1) && _)) && _)
          generalize wholeD d1 0 (z.r - 1) = p
          generalize (oneB w || sevB w) = q
          generalize wholeD (.int n) 1 8 = r
          generalize decide (V.int (as.length : Nat) = V.int (if oneB w = true then 1 else 2)) = s
          generalize (as.all fun d => wholeD d 0 (z.r - 1)) = t
          generalize moreD w n d5 = u
          cases p <;> cases q <;> cases r <;> cases s <;> cases t <;> cases u <;> rfl
        | _ =>
          show false = _
          have e2 : ∀ y, (∀ as, y ≠ PyData.tuple as) → reckR z [d1, .str w, .int n, y, d5] = false := fun y hy => by
            cases y with
            | tuple as => exact absurd rfl (hy as)
            | _ => rfl
          rw [e2 _ (fun as h => by cases h)]
          simp
      | _ =>
        have e1 : ∀ y, (∀ n, y ≠ PyData.int n) → doD z d1 (.str w) y d4 d5 = false := fun y hy => by
          have ew : wholeD y 1 8 = false := by
            cases y with
            | int n => exact absurd rfl (hy n)
            | _ => rfl
          cases d4 with
          | tuple as =>
            show ((oneB w || sevB w) && (wholeD y 1 8 && _)) = false
            rw [ew, Bool.false_and, Bool.and_false]
          | _ => rfl
        have e2 : ∀ y, (∀ n, y ≠ PyData.int n) → reckR z [d1, .str w, y, d4, d5] = false := fun y hy => by
          cases y with
          | int n => exact absurd rfl (hy n)
          | _ => rfl
        rw [e1 _ (fun n h => by cases h), e2 _ (fun n h => by cases h)]
        simp
    | _ =>
      have e1 : ∀ y, (∀ n, y ≠ PyData.str n) → doD z d1 y d3 d4 d5 = false := fun y hy => by
        cases y with
        | str n => exact absurd rfl (hy n)
        | _ => rfl
      have e2 : ∀ y, (∀ n, y ≠ PyData.str n) → wordD y = false := fun y hy => by
        cases y with
        | str n => exact absurd rfl (hy n)
        | _ => rfl
      rw [e1 _ (fun n h => by cases h), e2 _ (fun n h => by cases h)]
      simp
theorem go_eq (z : Rm) (b : Int) (rest : List PyData) : goD b rest = insD z b (.tuple (.str "go" :: rest)) := by
  rw [ins_eq (show lk "go" FS = some (["many"] : List Str) from by decide +kernel)]
  by_cases h : ¬ rest.length = 1
  · rw [goD_no h]
    have e5 : decide (rest.length = (["many"] : List Str).length) = false := decide_eq_false h
    rw [e5]
    rfl
  have h := Decidable.not_not.mp h
  match rest, h with
  | [d1], _ =>
    show wholeD d1 1 b = ((true && (wholeD d1 1 b && true)) && (true || _))
    cases wholeD d1 1 b <;> rfl
theorem skip_eq (z : Rm) (b : Int) (rest : List PyData) : skipD z b rest = insD z b (.tuple (.str "skip" :: rest)) := by
  rw [ins_eq (show lk "skip" FS = some (["registers", "truth", "many"] : List Str) from by decide +kernel)]
  by_cases h : ¬ rest.length = 3
  · rw [skipD_no h]
    have e5 : decide (rest.length = (["registers", "truth", "many"] : List Str).length) = false := decide_eq_false h
    rw [e5]
    rfl
  have h := Decidable.not_not.mp h
  match rest, h with
  | [d1, d2, d3], _ =>
    show (wholeD d1 0 (z.r - 1) && (wholeD d2 0 1 && wholeD d3 1 b)) = ((true && (wholeD d1 0 (z.r - 1) && (wholeD d2 0 1 && (wholeD d3 1 b && true)))) && (true || _))
    cases wholeD d1 0 (z.r - 1) <;> cases wholeD d2 0 1 <;> cases wholeD d3 1 b <;> rfl
theorem lk_cons {α : Type} {k : Str} {v : α} {r : List (Str × α)} {c : Str} : lk c ((k, v) :: r) = if (k == c) = true then some v else lk c r := by
  rw [lk]
theorem step_eq (z : Rm) (b : Int) (d : PyData) : isStepD z b d = insD z b d := by
  cases d with
  | tuple ds =>
    cases ds with
    | nil => rfl
    | cons d1 rest =>
      cases d1 with
      | str c =>
        by_cases h1 : c = "do"
        · subst h1; exact do_eq z b rest
        by_cases h2 : c = "go"
        · subst h2; exact go_eq z b rest
        by_cases h3 : c = "skip"
        · subst h3; exact skip_eq z b rest
        by_cases h4 : c = "put"
        · subst h4; exact top_eq (ss := ["registers", "worth"]) (ts := [z.r, 256]) (by decide +kernel) rfl rfl rfl rfl rfl
        by_cases h5 : c = "pick"
        · subst h5; exact top_eq (ss := ["registers", "registers", "registers", "registers"]) (ts := [z.r, z.r, z.r, z.r]) (by decide +kernel) rfl rfl rfl rfl rfl
        by_cases h6 : c = "read"
        · subst h6; exact top_eq (ss := ["registers", "cells"]) (ts := [z.r, z.c]) (by decide +kernel) rfl rfl rfl rfl rfl
        by_cases h7 : c = "write"
        · subst h7; exact top_eq (ss := ["cells", "registers"]) (ts := [z.c, z.r]) (by decide +kernel) rfl rfl rfl rfl rfl
        by_cases h8 : c = "in"
        · subst h8; exact top_eq (ss := ["registers", "ins"]) (ts := [z.r, z.i]) (by decide +kernel) rfl rfl rfl rfl rfl
        by_cases h9 : c = "out"
        · subst h9; exact top_eq (ss := ["outs", "registers"]) (ts := [z.o, z.r]) (by decide +kernel) rfl rfl rfl rfl rfl
        have ne : ∀ k : Str, c ≠ k → (k == c) = false := fun k h => beq_eq_false_iff_ne.mpr fun e => h e.symm
        have nv : ∀ k : Str, c ≠ k → decide (V.str c = V.str k) = false := fun k h => decide_eq_false fun e => h (V.str.inj e)
        have e1 : lk c FS = none := by
          unfold FS
          simp only [lk_cons, ne _ h1, ne _ h2, ne _ h3, ne _ h4, ne _ h5, ne _ h6, ne _ h7, ne _ h8, ne _ h9, Bool.false_eq_true, if_false]
          rfl
        have e2 : lk c (topsT z) = none := by
          unfold topsT
          simp only [lk_cons, ne _ h4, ne _ h5, ne _ h6, ne _ h7, ne _ h8, ne _ h9, Bool.false_eq_true, if_false]
          rfl
        have l1 : insD z b (.tuple (.str c :: rest)) = false := by
          show (match lk c FS with | some ss => _ | none => false) = _
          rw [e1]
        rw [l1]
        show (if decide (V.str c = V.str "do") = true then isDoD z (.str c :: rest) else if decide (V.str c = V.str "go") = true then goD b rest else if decide (V.str c = V.str "skip") = true then skipD z b rest else
          match lk c (topsT z) with
          | some ts => decide (rest.length = ts.length) && (List.zipWith topD ts rest).all id
          | none => false) = _
        rw [nv _ h1, nv _ h2, nv _ h3, e2]
        rfl
      | _ => rfl
  | _ => rfl
def dueL (z : Rm) (ds : List PyData) : List Bool := ds.mapIdx fun i d => isStepD z ((ds.length : Nat) - 1 - (i : Nat)) d
theorem due_eq (z : Rm) (ds : List PyData) : dueL z ds = stepsL z ds := by
  unfold dueL stepsL
  congr 1
  funext i d
  rw [step_eq]
  congr 1
  omega
end Bf

namespace Bf
open PySem PySem.Spec PyProof.Rows L2
namespace J
section
variable {P : Program} {w : World} {K : PySem.W.Frag} {mg : Str → Option Value} {base : Heap} {C : Addr} {cd : ClassData}
def spDue (K : PySem.W.Frag) (C : Addr) (cd : ClassData) : Sp := fun vs H Q _ => ∃ (x : V) (o : Option PyData) (sm : Addr) (z : Rm), vs = [x, .ref sm] ∧ Th K C cd H x o ∧ H sm = some (.lst z.list) ∧ ∀ H', Same H H' → Q (.bl (stepsO z o)) H'
abbrev nDue : List Str := ["_law_thing", "_law_sizes", "_law_k", "_law_step_here"]
abbrev pDue : List Str := ["_law_thing", "_law_sizes"]
theorem scDue : FnScope nDue pDue (defScope sDue) := ⟨rfl, rfl, rfl, by decide +kernel, rfl, by decide +kernel, by decide +kernel⟩
theorem ok_due {f fs : Addr} {fd ds_ : FuncData} (F : Fun K "_law_due" "_law_due" sDue f fd) (L : Bi mg) (Ds : Df K mg "_law_is_step" fs ds_ pIsStep) (Gs : FnOk P w K mg base CX0 3 fs ds_ pIsStep spIsStep) : FnOk P w K mg base CX0 4 f fd pDue (spDue K C cd) := by
  refine F.ok scDue (fun vs H Q E h => ?_) (fun cdv A outer s H vs Q E hr h => ?_)
  · obtain ⟨x, o, sm, z, rfl, _⟩ := h
    rfl
  · obtain ⟨x, o, sm, z, rfl, th, hm, q⟩ := h
    have hr3 := hr.mono (by decide : 3 ≤ 3)
    refine ⟨_, (pss_cons (ps_if (pt_not (pt_val (pe_callB call_isiB (by rfl) L.mi (by decide +kernel) (pa_cons (pv 0) (pa_cons (pe_bltn (v := .ty "tuple") (by rfl) L.mt (by decide +kernel) rfl) pa_nil))))) (pss_one (ps_ret pe_bl)) pss_nil)
        (pss_one (ps_ret (pe_cmpR (op_eqNil hr.units) (pe_lc (own := [("_law_k", 2), ("_law_step_here", 3)]) (g := gTup K 2 (gCons (gName 2) (gCons (gName 3) gNil))) (tt := _) rfl scDue.nd (pi_enumT (by rfl) L.me (pa_cons (pv 0) pa_nil)) (blkOk_by (N := nDue) (sc := defScope sDue) (by decide +kernel))
          (fun _ _ _ _ _ => pg_tup rfl (pgs_cons (pg_name (i := 2) scDue.nd rfl (Or.inl rfl)) (pgs_cons (pg_name (i := 3) scDue.nd rfl (Or.inl rfl)) pgs_nil)))
          (fun _ _ _ _ _ => (pts_one (pt_not (pt_val (pe_call Gs hr3 (by rfl) Ds.at_ Ds.kp Ds.bd .nil pass0 (pa_cons (pv 3) (pa_cons (pv 1) (pa_cons (pe_op op_sub (pe_op op_sub (pe_callB (lenK (K := K) rfl) (by rfl) L.ml PySem.boot_len (pa_cons (pv 0) pa_nil)) pe_int) (pv 2)) pa_nil)))))))) (fun _ _ _ _ _ => (pv 2))) (pe_lst pa_nil) (nomark _))))), ?_⟩
    have q0 := q H (Same.refl H)
    refine ⟨_, rfl, th.isT ⟨_, rfl, ?_⟩⟩
    cases th with
    | exc h f k => exact iteT q0
    | dat da =>
      cases da with
      | @tup a xs ds h l r =>
        have el := r.len
        have lb : (dueL z ds).length = ds.length := by unfold dueL; rw [List.length_mapIdx]
        refine iteF ⟨_, rfl, a, xs, rfl, SqT.of h, fun D hD => lc_iet (K := K) (a := a) (xs := xs)
            (fun i H' => Same H H' ∧ H' D = some (.lst (keepV boolP (((List.range ds.length).map fun k => V.int (k : Nat)).take i) (((dueL z ds).map PyData.bool).take i)))) ⟨same_new hD, upd_same⟩
            (fun i H' _ pv => SqT.of (pv.1 _ _ h)) (fun i u H' T' hu pv hT => ?_) fun H' pv => ?_⟩
        · obtain ⟨du, hdu, dau⟩ := (r.same pv.1).get hu
          have hi := (List.getElem?_eq_some_iff.mp hdu).1
          have sT : Same H' (upd H' T' (.tup [.int (i : Nat), u])) := same_new hT
          have nTD : T' ≠ D := fun e => by rw [e, pv.2] at hT; cases hT
          have zi : ((dueL z ds).map PyData.bool)[i]? = some (.bool (isStepD z ((ds.length : Nat) - 1 - (i : Nat)) du)) := by
            rw [List.getElem?_map]
            unfold dueL
            rw [List.getElem?_mapIdx, hdu]
            rfl
          have ri : ((List.range ds.length).map fun k => V.int (k : Nat))[i]? = some (.int (i : Nat)) := by rw [List.getElem?_map, List.getElem?_range hi]; rfl
          have kt := keepV_take (p := boolP) ri zi
          have sH := pv.1.trans sT
          refine ⟨T', _, rfl, SqT.of upd_same, rfl, _, _, rfl, _, _, rfl, rfl, rfl, _, rfl, _, rfl, _, rfl, a, xs, rfl, .inr (SqT.of (sH _ _ h)), _, _, rfl, rfl, _, rfl, _, _, rfl, rfl, u, du, sm, z, _, rfl, dau.same sT, sH _ _ hm, fun H'' s'' => ⟨_, rfl, ?_⟩⟩
          rw [el]
          have sH'' := sH.trans s''
          cases et : isStepD z ((ds.length : Nat) - 1 - (i : Nat)) du with
          | true =>
            refine iteF ⟨sH'', ?_⟩
            rw [kt, et]
            simp only [boolP, if_true, List.append_nil]
            exact s'' _ _ (sT _ _ pv.2)
          | false =>
            refine iteT ⟨_, rfl, _, s'' _ _ (sT _ _ pv.2), ?_, fun c o e => ?_, ?_⟩
            · exact small1000 (Nat.le_trans (keepV_len _ _) (by rw [List.length_take, List.length_map, List.length_range]; omega))
            · rw [upd_ne (ne_of_none e hD)]
              exact sH'' _ _ e
            · rw [upd_same, kt, et]
              rfl
        · have l1 : xs.length = ((List.range ds.length).map fun k => V.int (k : Nat)).length := by rw [List.length_map, List.length_range, el]
          have l2 : ((List.range ds.length).map fun k => V.int (k : Nat)).length = ((dueL z ds).map PyData.bool).length := by rw [List.length_map, List.length_range, List.length_map, lb]
          rw [l1, List.take_length, l2, List.take_length] at pv
          refine ⟨by show 0 ≤ sizeLine; decide, fun L hL => ⟨D, L, _, rfl, rfl, SqL.of ((same_new hL) _ _ pv.2), SqL.of upd_same, ?_⟩⟩
          rw [keepV_empty l2, boolP_all, due_eq]
          exact q _ (pv.1.trans (same_new hL))
      | _ => exact iteT q0
end
end J
end Bf

namespace Bf
open PySem PySem.Spec PyProof.Rows L2
namespace J
abbrev pTake : List Str := ["_law_box_here", "_law_many"]
/-- a digit is taken -/
theorem take_ok {σ : L2.St} {i : Nat} {p : Addr} {N n : Int} {E : XK} {H : Hp} {Q : VK} (hσ : σ[i]? = some (some (.ref p))) (pu : Purse H p n) (hn : n ≤ 100000) (h0 : 0 < N) (h1 : N < 1000000)
    (q : ∀ d G, 0 ≤ d → d < N → Kp (· ≠ p) H G → Purse G p (n + 1) → Q (.int d) G) : tCall spTake [] E (tCons (tVar i) (tCons (tC (.int N)) tNil)) σ H Q :=
  ⟨_, hσ, p, N, n, rfl, pu, hn, h0, h1, fun d G d0 d1 pu eq => q d G d0 d1 (kp_take eq) pu⟩
theorem _root_.Bf.Purse.ne {H : Hp} {p a : Addr} {n : Int} (pu : Purse H p n) (h : H a = none) : a ≠ p := let ⟨_, _, _, e, _⟩ := pu; ne_free e h
theorem _root_.Bf.Purse.same {H G : Hp} {p : Addr} {n : Int} (pu : Purse H p n) (s : Same H G) : Purse G p n := let ⟨x, y, z, e, r⟩ := pu; ⟨x, y, z, s _ _ e, r⟩
theorem _root_.Bf.Purse.back {H G : Hp} {p a : Addr} {n : Int} (pu : Purse G p n) (k : Kp (· ≠ p) H G) (h : G a = none) : H a = none := let ⟨_, _, _, e, _⟩ := pu; fr_back k e h
/-- one of a display's things, picked by a digit -/
theorem disp_take {K : PySem.W.Frag} {σ : L2.St} {i : Nat} {p : Addr} {N n : Int} {E : XK} {H : Hp} {Q : VK} {xs : List V} (hσ : σ[i]? = some (some (.ref p))) (pu : Purse H p n) (hn : n ≤ 100000) (hN : ((xs.length : Nat) : Int) = N) (h0 : 0 < N) (h1 : N < 1000)
    (q : ∀ v G, v ∈ xs → Kp (· ≠ p) H G → Purse G p (n + 1) → Q v G) : xs.length ≤ sizeLine ∧ ∀ L, H L = none → tCall spTake [] E (tCons (tVar i) (tCons (tC (.int N)) tNil)) σ (upd H L (.lst xs)) fun y H2 => rIxL K (.ref L) y H2 Q := by
  refine ⟨by rw [sizeLine_eq]; omega, fun L hL => ?_⟩
  have nL := pu.ne hL
  refine take_ok hσ (pu.of (upd_ne nL.symm)) hn h0 (by omega) (fun e H2 e0 e1 k2 pu2 => ?_)
  obtain ⟨v, mv, ev⟩ := pick (xs := xs) e0 (by omega)
  refine ⟨L, _, e, v, rfl, rfl, SqL.of (k2 _ _ nL upd_same), ev, q v H2 mv (fun a o na h => k2 a o na (by rw [upd_ne (ne_of_none h hL)]; exact h)) pu2⟩
theorem sz_ne {H : Hp} {sm p : Addr} {z : Rm} {n : Int} (h : H sm = some (.lst z.list)) (pu : Purse H p n) : sm ≠ p := fun e => by
  obtain ⟨_, _, _, g, _⟩ := pu
  rw [e, g] at h
  cases h
theorem sh_kp {p : Addr} {G G' : Hp} {b : Bool} {v : V} {d : PyData} (k : Kp (· ≠ p) G G') (h : Sh G (· ≠ p) b v d) : Sh G' (· ≠ p) b v d := Sh.on (fun _ _ f _ => f) (fun a o f e => k a o f e) d v h
theorem shA_kp {p : Addr} {G G' : Hp} {b : Bool} {vs : List V} {ds : List PyData} (k : Kp (· ≠ p) G G') (h : ShAll G (· ≠ p) b vs ds) : ShAll G' (· ≠ p) b vs ds := ShAll.on (fun _ _ f _ => f) (fun a o f e => k a o f e) ds vs h
theorem shAll_ints {G : Hp} {P : Addr → Prop} {b : Bool} : ∀ ns : List Int, ShAll G P b (ns.map V.int) (ns.map PyData.int)
  | [] => .nil
  | n :: r => .cons (.int n) (shAll_ints r)
theorem slS {z : Str} {n : Nat} (h : z.cps.size ≤ n) : sl (.str z) ≤ 10 * n + 3 := by
  simp only [sl]; omega
theorem fitA_nil {w k : Nat} : ∀ d ∈ ([] : List PyData), fit w k d := fun _ m => nomatch m
theorem fitA_cons {w k : Nat} {d : PyData} {r : List PyData} (h : fit w k d) (t : ∀ d ∈ r, fit w k d) : ∀ e ∈ d :: r, fit w k e := fun e m => (List.mem_cons.mp m).elim (fun z => z ▸ h) (t e)
theorem int_fit {w k : Nat} {i : Int} (a : -1000 ≤ i) (b : i ≤ 1000) : fit w k (.int i) := fit_int.mpr (.inl (by omega))
theorem sl_small {i : Int} (a : -1000 ≤ i) (b : i ≤ 1000) : sl (.int i) ≤ 14 := sl_int (by omega)
theorem whole_of {i lo hi : Int} (a : lo ≤ i) (b : i ≤ hi) : wholeD (.int i) lo hi = true := by
  show (decide (lo ≤ i) && decide (i ≤ hi)) = true
  rw [decide_eq_true a, decide_eq_true b]; rfl
mutual
/-- no list, no dict in it -/
def noL : PyData → Bool
  | .list _ => false
  | .dict _ => false
  | .tuple ds => noLA ds
  | _ => true
def noLA : List PyData → Bool
  | [] => true
  | d :: r => noL d && noLA r
end
theorem noLA_ints : ∀ js : List Int, noLA (js.map PyData.int) = true
  | [] => by rw [List.map_nil]; simp only [noLA]
  | j :: r => by rw [List.map_cons]; simp only [noLA, noL, noLA_ints r, Bool.and_self]
mutual
theorem sh_off {G : Hp} {P : Addr → Prop} {D : Addr} {ys : List V} (hD : G D = some (.lst ys)) : ∀ (d : PyData) (v : V), noL d = true → Sh G P false v d → Sh G (fun b => P b ∧ b ≠ D) false v d
  | .none, _, _, h => by cases h; exact .non
  | .bool _, _, _, h => by cases h; exact .bl _
  | .int _, _, _, h => by cases h; exact .int _
  | .str _, _, _, h => by cases h; exact .str _
  | .list _, _, n, _ => by simp only [noL, Bool.false_eq_true] at n
  | .dict _, _, n, _ => by simp only [noL, Bool.false_eq_true] at n
  | .tuple ds, _, n, h => by
    cases h with
    | @tup a xs ds e p r => exact .tup e ⟨p, fun z => by rw [z, hD] at e; cases e⟩ (shA_off hD ds xs (by simp only [noL] at n; exact n) r)
theorem shA_off {G : Hp} {P : Addr → Prop} {D : Addr} {ys : List V} (hD : G D = some (.lst ys)) : ∀ (ds : List PyData) (vs : List V), noLA ds = true → ShAll G P false vs ds → ShAll G (fun b => P b ∧ b ≠ D) false vs ds
  | [], _, _, h => by cases h; exact .nil
  | d :: ds, _, n, h => by
    have n' : (noL d && noLA ds) = true := by simp only [noLA] at n; exact n
    obtain ⟨n1, n2⟩ := Bool.and_eq_true_iff.mp n'
    cases h with
    | cons h r => exact .cons (sh_off hD d _ n1 h) (shA_off hD ds _ n2 r)
end
/-- an instruction as drawn: a tuple of a word, numbers, perhaps a tuple of numbers -/
structure Drawn_ (p : Addr) (G : Hp) (z : Rm) (b : Int) (v : V) (d : PyData) : Prop where
  sh : Sh G (· ≠ p) false v d
  ft : fit 12 2 d
  sl_ : sl d ≤ 300
  ok : insD z b d = true
  tp : noL d = true
section
variable {P : Program} {w : World} {K : PySem.W.Frag} {mg : Str → Option Value} {base : Heap}
/-! ### _law_register -/
def spReg : Sp := fun vs H Q _ => ∃ (p sm : Addr) (n : Int) (z : Rm), vs = [.ref p, .ref sm] ∧ Purse H p n ∧ n ≤ 99900 ∧ H sm = some (.lst z.list) ∧ 1 ≤ z.r ∧ z.r ≤ 900 ∧ ∀ j G, 0 ≤ j → j ≤ z.r - 1 → Kp (· ≠ p) H G → Purse G p (n + 2) → Q (.int j) G
abbrev pReg : List Str := ["_law_box_here", "_law_sizes"]
theorem scReg : FnScope pReg pReg (defScope sReg) := ⟨rfl, rfl, rfl, by decide +kernel, rfl, by decide +kernel, by decide +kernel⟩
theorem ok_reg {f ft : Addr} {fd dt : FuncData} (F : Fun K "_law_register" "_law_register" sReg f fd) (DT : Df K mg "_law_take" ft dt pTake) (GT : FnOk P w K mg base CX0 1 ft dt pTake spTake) : FnOk P w K mg base CX0 2 f fd pReg spReg := by
  refine F.ok scReg (fun vs H Q E h => ?_) (fun cdv A outer s H vs Q E hr h => ?_)
  · obtain ⟨p, sm, n, z, rfl, _⟩ := h
    rfl
  · obtain ⟨p, sm, n, z, rfl, pu, hn, hm, r1, r2, q⟩ := h
    have hr1 := hr.mono (by decide : 1 ≤ 1)
    refine ⟨_, (pss_one (ps_ret (pe_ix ix_list (pe_lst (pa_cons pe_int (pa_cons (pe_op op_sub (pe_ix ix_list (pv 1) pe_int (fun _ _ => rfl)) pe_int) (pa_cons (pe_call GT hr1 (by rfl) DT.at_ DT.kp DT.bd .nil pass0 (pa_cons (pv 0) (pa_cons (pe_ix ix_list (pv 1) pe_int (fun _ _ => rfl)) pa_nil))) pa_nil)))) (pe_call GT hr1 (by rfl) DT.at_ DT.kp DT.bd .nil pass0 (pa_cons (pv 0) (pa_cons pe_int pa_nil))) (fun _ _ => rfl)))), ?_⟩
    refine ⟨_, rfl, sm, _, 0, _, rfl, rfl, SqL.of hm, rfl, _, _, rfl, rfl, _, rfl, _, rfl, sm, _, 0, _, rfl, rfl, SqL.of hm, rfl, p, z.r, n, rfl, pu, by omega, by omega, by omega, fun d G d0 d1 pu1 eq => ?_⟩
    refine disp_take (i := 0) rfl pu1 (by omega) rfl (by decide) (by decide) fun v G2 mv k2 pu2 => ?_
    have k02 : Kp (· ≠ p) H G2 := fun a o na h => k2 a o na ((eq a na).trans h)
    have pu2' := pu2.mono (m := n + 2) (by omega)
    simp only [List.mem_cons, List.not_mem_nil, or_false] at mv
    rcases mv with rfl | rfl | rfl
    · exact q _ _ (by omega) (by omega) k02 pu2'
    · exact q _ _ (by omega) (by omega) k02 pu2'
    · exact q _ _ (by omega) (by omega) k02 pu2'
end
end J
end Bf

namespace Bf
open PySem PySem.Spec PyProof.Rows L2
namespace J
section
variable {P : Program} {w : World} {K : PySem.W.Frag} {mg : Str → Option Value} {base : Heap}
/-! ### _law_do -/
def spLDo : Sp := fun vs H Q _ => ∃ (p sm : Addr) (n : Int) (z : Rm), vs = [.ref p, .ref sm] ∧ Purse H p n ∧ n ≤ 99800 ∧ H sm = some (.lst z.list) ∧ 1 ≤ z.r ∧ z.r ≤ 900 ∧ ∀ v d G, (∀ b, Drawn_ p G z b v d) → Kp (· ≠ p) H G → Purse G p (n + 20) → Q v G
abbrev nDo : List Str := ["_law_box_here", "_law_sizes", "_law_word", "_law_width", "_law_args", "_law_more", "_law_k"]
theorem scDo : FnScope nDo pReg (defScope sDo) := ⟨rfl, rfl, rfl, by decide +kernel, rfl, by decide +kernel, by decide +kernel⟩
theorem kp_none {p a : Addr} {H G : Hp} {o : HO} (k : Kp (· ≠ p) H G) (na : a ≠ p) (hG : G a = none) (h : H a = some o) : False := by
  rw [k a o na h] at hG
  cases hG
theorem wo_all : ∀ y ∈ WO, wordD (.str y) = true ∧ strOk y = true ∧ y.cps.size ≤ 4 := by decide +kernel
theorem do_ok {z : Rm} {b j n m : Int} {y : Str} {js : List Int} (hj : 0 ≤ j ∧ j ≤ z.r - 1) (hn : 1 ≤ n ∧ n ≤ 8) (hy : y ∈ WO) (hjs : ∀ i ∈ js, 0 ≤ i ∧ i ≤ z.r - 1) (hl : ((js.length : Nat) : Int) = if oneB y = true then 1 else 2) (hm : moreD y n (.int m) = true) :
    insD z b (.tuple [.str "do", .int j, .str y, .int n, .tuple (js.map PyData.int), .int m]) = true := by
  rw [← do_eq]
  show doD z (.int j) (.str y) (.int n) (.tuple (js.map PyData.int)) (.int m) = true
  have e : doD z (.int j) (.str y) (.int n) (.tuple (js.map PyData.int)) (.int m) = ((oneB y || sevB y) && (wholeD (.int n) 1 8 && (decide (V.int ((js.map PyData.int).length : Nat) = V.int (if oneB y = true then 1 else 2)) && (((.int j :: js.map PyData.int).all fun d => wholeD d 0 (z.r - 1)) && moreD y n (.int m))))) := rfl
  have e2 : (PyData.int j :: js.map PyData.int).all (fun d => wholeD d 0 (z.r - 1)) = true := by
    rw [List.all_cons, whole_of hj.1 hj.2, Bool.true_and, List.all_eq_true]
    intro d hd
    obtain ⟨i, mi, rfl⟩ := List.mem_map.mp hd
    exact whole_of (hjs i mi).1 (hjs i mi).2
  rw [e, ← word_eq, (wo_all y hy).1, whole_of hn.1 hn.2, e2, hm, List.length_map, hl, decide_eq_true (rfl : V.int (if oneB y = true then 1 else 2) = _)]
  rfl
set_option maxHeartbeats 1000000 in
theorem ok_ldo {f ft fr : Addr} {fd dt dr : FuncData} (F : Fun K "_law_do" "_law_do" sDo f fd) (L : Bi mg) (DT : Df K mg "_law_take" ft dt pTake) (GT : FnOk P w K mg base CX0 1 ft dt pTake spTake)
    (DR : Df K mg "_law_register" fr dr pReg) (GR : FnOk P w K mg base CX0 2 fr dr pReg spReg) : FnOk P w K mg base CX0 3 f fd pReg spLDo := by
  refine F.ok scDo (fun vs H Q E h => ?_) (fun cdv A outer s H vs Q E hr h => ?_)
  · obtain ⟨p, sm, n, z, rfl, _⟩ := h
    rfl
  · obtain ⟨p, sm, n, z, rfl, pu, hn, hm, r1, r2, q⟩ := h
    have hr1 := hr.mono (by decide : 1 ≤ 2)
    have hr2 := hr.mono (by decide : 2 ≤ 2)
    refine ⟨_, (pss_cons (ps_set (i := 2) scDo.nd rfl (Or.inl rfl) (pe_ix ix_list (pe_lst (pa_cons pe_str (pa_cons pe_str (pa_cons pe_str (pa_cons pe_str (pa_cons pe_str (pa_cons pe_str (pa_cons pe_str (pa_cons pe_str (pa_cons pe_str (pa_cons pe_str pa_nil))))))))))) (pe_call GT hr1 (by rfl) DT.at_ DT.kp DT.bd .nil pass0 (pa_cons (pv 0) (pa_cons pe_int pa_nil))) (fun _ _ => rfl)))
        (pss_cons (ps_set (i := 3) scDo.nd rfl (Or.inl rfl) (pe_ix ix_list (pe_lst (pa_cons pe_int (pa_cons pe_int (pa_cons (pe_op op_add pe_int (pe_call GT hr1 (by rfl) DT.at_ DT.kp DT.bd .nil pass0 (pa_cons (pv 0) (pa_cons pe_int pa_nil)))) pa_nil)))) (pe_call GT hr1 (by rfl) DT.at_ DT.kp DT.bd .nil pass0 (pa_cons (pv 0) (pa_cons pe_int pa_nil))) (fun _ _ => rfl)))
        (pss_cons (ps_set (i := 4) scDo.nd rfl (Or.inl rfl) (pe_callTy call_tuple_of (by rfl) L.mt (by decide +kernel) (pa_cons (pe_lc (own := [("_law_k", 6)]) (g := gName 6) (tt := tYes) rfl scDo.nd (pi_range1 (by rfl) L.mr (pa_cons (pe_ifExp (pt_cmpR op_in_seq (pv 2) (pe_tup (pa_cons pe_str (pa_cons pe_str (pa_cons pe_str pa_nil)))) (by rfl)) pe_int pe_int) pa_nil)) (blkOk_by (N := nDo) (sc := defScope sDo) (by decide +kernel)) (fun _ _ _ _ _ => pg_name (i := 6) scDo.nd rfl (Or.inl rfl)) (fun _ _ _ _ _ => pts_nil) (fun _ _ _ _ _ => (pe_call GR hr2 (by rfl) DR.at_ DR.kp DR.bd .nil pass0 (pa_cons (pv 0) (pa_cons (pv 1) pa_nil))))) pa_nil)))
        (pss_cons (ps_set (i := 5) scDo.nd rfl (Or.inl rfl) pe_int)
        (Evl.pss_cut (ps_if (pt_cmpR op_eq (pv 2) pe_str (nomark _)) (pss_one (ps_set (i := 5) scDo.nd rfl (Or.inl rfl) (pe_ix ix_list (pe_lst (pa_cons pe_int (pa_cons pe_int (pa_cons (pe_op op_add pe_int (pe_call GT hr1 (by rfl) DT.at_ DT.kp DT.bd .nil pass0 (pa_cons (pv 0) (pa_cons pe_int pa_nil)))) pa_nil)))) (pe_call GT hr1 (by rfl) DT.at_ DT.kp DT.bd .nil pass0 (pa_cons (pv 0) (pa_cons pe_int pa_nil))) (fun _ _ => rfl)))) pss_nil)
        (Evl.pss_cut (ps_if (pt_cmpR op_eq (pv 2) pe_str (nomark _)) (pss_one (ps_set (i := 5) scDo.nd rfl (Or.inl rfl) (pe_ix ix_list (pe_lst (pa_cons pe_int (pa_cons (pe_op op_sub (pv 3) pe_int) (pa_cons (pe_call GT hr1 (by rfl) DT.at_ DT.kp DT.bd .nil pass0 (pa_cons (pv 0) (pa_cons (pv 3) pa_nil))) pa_nil)))) (pe_call GT hr1 (by rfl) DT.at_ DT.kp DT.bd .nil pass0 (pa_cons (pv 0) (pa_cons pe_int pa_nil))) (fun _ _ => rfl)))) pss_nil)
        (pss_one (ps_ret (pe_tup (pa_cons pe_str (pa_cons (pe_call GR hr2 (by rfl) DR.at_ DR.kp DR.bd .nil pass0 (pa_cons (pv 0) (pa_cons (pv 1) pa_nil))) (pa_cons (pv 2) (pa_cons (pv 3) (pa_cons (pv 4) (pa_cons (pv 5) pa_nil))))))))))))))), ?_⟩
    dsimp only [gName]
    have nsm := sz_ne hm pu
    refine disp_take (xs := [V.str "not", .str "and", .str "or", .str "xor", .str "add", .str "sub", .str "less", .str "same", .str "wide", .str "bit"]) (i := 0) rfl pu (by omega) rfl (by decide) (by decide) fun v G1 mv k1 pu1 => ?_
    obtain ⟨y, rfl, hy⟩ : ∃ y : Str, v = .str y ∧ y ∈ WO := by
      have mv' : v ∈ WO.map V.str := mv
      obtain ⟨y, my, e⟩ := List.mem_map.mp mv'
      exact ⟨y, e.symm, my⟩
    clear mv
    refine take_ok (i := 0) rfl pu1 (by omega) (by decide) (by decide) (fun d1 G2 d10 d11 k2 pu2 => ⟨_, _, rfl, rfl, ?_⟩)
    refine disp_take (xs := [.int 1, .int 8, .int (1 + d1)]) (i := 0) rfl pu2 (by omega) rfl (by decide) (by decide) fun v G3 mv k3 pu3 => ?_
    obtain ⟨u, rfl, u1, u8⟩ : ∃ u : Int, v = .int u ∧ 1 ≤ u ∧ u ≤ 8 := by
      simp only [List.mem_cons, List.not_mem_nil, or_false] at mv
      rcases mv with rfl | rfl | rfl
      · exact ⟨_, rfl, by decide, by decide⟩
      · exact ⟨_, rfl, by decide, by decide⟩
      · exact ⟨_, rfl, by omega, by omega⟩
    clear mv
    have k03 : Kp (· ≠ p) H G3 := (k1.trans k2).trans k3
    refine ⟨_, rfl, by show 3 ≤ sizeLine; decide, fun p1 hp1 => ⟨p1, _, rfl, .inr (SqT.of upd_same), rfl, by decide +kernel, _, rfl, if_tC (b := oneB y) ?_⟩⟩
    have n1 := pu3.ne hp1
    have k3' : Kp (· ≠ p) G3 (upd G3 p1 (.tup [V.str "not", V.str "wide", V.str "bit"])) := kp_same (same_new hp1)
    have pu3' := pu3.of (H' := upd G3 p1 (.tup [V.str "not", V.str "wide", V.str "bit"])) (upd_ne n1.symm)
    generalize upd G3 p1 (.tup [V.str "not", V.str "wide", V.str "bit"]) = G4 at k3' pu3'
    have k04 := k03.trans k3'
    rw [show (if oneB y = true then V.int 1 else V.int 2) = V.int (if oneB y = true then 1 else 2) from by cases oneB y <;> rfl]
    obtain ⟨c, hc, c1, c2⟩ : ∃ c : Int, (if oneB y = true then (1 : Int) else 2) = c ∧ 1 ≤ c ∧ c ≤ 2 := by
      cases oneB y
      · exact ⟨2, rfl, by decide, by decide⟩
      · exact ⟨1, rfl, by decide, by decide⟩
    rw [hc]
    refine ⟨c, rfl, by omega, by omega, fun D hD => ?_⟩
    have nD := pu3'.ne hD
    refine lc_range (lo := 0) (n := c.toNat) (fun k G => ∃ js : List Int, js.length = k ∧ (∀ j ∈ js, 0 ≤ j ∧ j ≤ z.r - 1) ∧ G D = some (.lst (js.map V.int)) ∧ Kp (· ≠ p) H G ∧ Purse G p (n + 3 + 2 * (k : Int)))
      ⟨[], rfl, (fun _ m => nomatch m), upd_same, k04.trans (kp_same (same_new hD)), by rw [show n + 3 + 2 * ((0 : Nat) : Int) = n + 1 + 1 + 1 by omega]; exact pu3'.of (upd_ne nD.symm)⟩ (fun k G hk pv => ?_) fun G pv => ?_
    · obtain ⟨js, lj, hj, gD, kG, pG⟩ := pv
      refine ⟨rfl, _, rfl, _, rfl, p, sm, _, z, rfl, pG, by omega, kG _ _ nsm hm, r1, r2, fun i G2 i0 i1 k2 pu2 => ?_⟩
      refine ⟨_, k2 _ _ nD gD, by rw [List.length_map, lj]; exact small1000 (by omega), js ++ [i], by rw [List.length_append, lj]; rfl, fun x mx => ?_, ?_, fun a o na h => ?_, ?_⟩
      · rcases List.mem_append.mp mx with mx | mx
        · exact hj x mx
        · rw [List.mem_singleton.mp mx]; exact ⟨i0, i1⟩
      · rw [upd_same, List.map_append]; rfl
      · by_cases hb : a = D
        · exact (kp_none k04 nD hD (by rw [← hb]; exact h)).elim
        · rw [upd_ne hb]
          exact k2 a o na (kG a o na h)
      · rw [show n + 3 + 2 * ((k + 1 : Nat) : Int) = n + 3 + 2 * (k : Int) + 2 by omega]
        exact pu2.of (upd_ne nD.symm)
    obtain ⟨js, lj, hj, gD, kG, pG⟩ := pv
    refine ⟨D, _, rfl, .inl ⟨SqL.of gD, fun ta hta => ?_⟩⟩
    have nta := pG.ne hta
    have kt : Kp (· ≠ p) G (upd G ta (.tup (js.map V.int))) := kp_same (same_new hta)
    have put := pG.of (H' := upd G ta (.tup (js.map V.int))) (upd_ne nta.symm)
    have gta : (upd G ta (.tup (js.map V.int))) ta = some (.tup (js.map V.int)) := upd_same
    generalize upd G ta (.tup (js.map V.int)) = G5 at kt put gta
    have k05 := kG.trans kt
    have put := put.mono (m := n + 7) (by omega)
    dsimp only [gName]
    have ljc : ((js.length : Nat) : Int) = if oneB y = true then 1 else 2 := by rw [hc, lj]; omega
    refine ⟨fun σ' G' => ∃ m : Int, σ' = [some (.ref p), some (.ref sm), some (.str y), some (.int u), some (.ref ta), some (.int m), none] ∧ Kp (· ≠ p) H G' ∧ Purse G' p (n + 9) ∧ G' ta = some (.tup (js.map V.int)) ∧ 0 ≤ m ∧ m ≤ 8 ∧ (y = "wide" → 1 ≤ m) ∧ (y ≠ "wide" → m = 0), ?_, ?_⟩
    · refine ⟨_, rfl, rfl, _, rfl, ite2 (fun h' => ?_) (fun h' => ?_)⟩
      · have ey : y = "wide" := V.str.inj (of_decide_eq_true h')
        refine take_ok (i := 0) rfl put (by omega) (by decide) (by decide) (fun d1 G6 d10 d11 k2 pu2 => ⟨_, _, rfl, rfl, ?_⟩)
        refine disp_take (xs := [.int 1, .int 8, .int (1 + d1)]) (i := 0) rfl pu2 (by omega) rfl (by decide) (by decide) fun v G7 mv k3 pu3 => ?_
        obtain ⟨m, rfl, u1, u8⟩ : ∃ u : Int, v = .int u ∧ 1 ≤ u ∧ u ≤ 8 := by
          simp only [List.mem_cons, List.not_mem_nil, or_false] at mv
          rcases mv with rfl | rfl | rfl
          · exact ⟨_, rfl, by decide, by decide⟩
          · exact ⟨_, rfl, by decide, by decide⟩
          · exact ⟨_, rfl, by omega, by omega⟩
        exact ⟨m, rfl, (k05.trans k2).trans k3, pu3.mono (by omega), k3 _ _ nta (k2 _ _ nta gta), by omega, by omega, fun _ => u1, fun h => absurd ey h⟩
      · have ey : y ≠ "wide" := fun e => h' (decide_eq_true (congrArg V.str e))
        exact ⟨0, rfl, k05, put.mono (by omega), gta, by decide, by decide, fun h => absurd h ey, fun _ => rfl⟩
    rintro σ' G6 ⟨m, rfl, k06, pu6, gta6, m0, m8, mw, mn⟩
    refine ⟨fun σ' G' => ∃ m : Int, σ' = [some (.ref p), some (.ref sm), some (.str y), some (.int u), some (.ref ta), some (.int m), none] ∧ Kp (· ≠ p) H G' ∧ Purse G' p (n + 11) ∧ G' ta = some (.tup (js.map V.int)) ∧ 0 ≤ m ∧ m ≤ 8 ∧ moreD y u (.int m) = true, ?_, ?_⟩
    · refine ⟨_, rfl, rfl, _, rfl, ite2 (fun h' => ?_) (fun h' => ?_)⟩
      · have ey : y = "bit" := V.str.inj (of_decide_eq_true h')
        subst ey
        refine ⟨_, rfl, _, _, rfl, rfl, _, rfl, _, rfl, p, u, n + 9, rfl, pu6, by omega, by omega, by omega, fun d G7 d0 d1 pu7 eq => ?_⟩
        refine disp_take (i := 0) rfl pu7 (by omega) rfl (by decide) (by decide) fun v G8 mv k8 pu8 => ?_
        obtain ⟨m, rfl, u1, u8⟩ : ∃ i : Int, v = .int i ∧ 0 ≤ i ∧ i ≤ u - 1 := by
          simp only [List.mem_cons, List.not_mem_nil, or_false] at mv
          rcases mv with rfl | rfl | rfl
          · exact ⟨_, rfl, by decide, by omega⟩
          · exact ⟨_, rfl, by omega, by omega⟩
          · exact ⟨_, rfl, by omega, by omega⟩
        have k7 : Kp (· ≠ p) G6 G7 := kp_take eq
        exact ⟨m, rfl, (k06.trans k7).trans k8, pu8.mono (by omega), k8 _ _ nta (k7 _ _ nta gta6), by omega, by omega, (show wholeD (.int m) 0 (u - 1) = true from whole_of u1 u8)⟩
      · have nb : ¬ decide (V.str y = V.str "bit") = true := h'
        refine ⟨m, rfl, k06, pu6.mono (by omega), gta6, m0, m8, ?_⟩
        unfold moreD
        by_cases ew : y = "wide"
        · rw [if_pos (decide_eq_true (congrArg V.str ew))]
          exact whole_of (mw ew) m8
        · rw [if_neg (fun z => ew (V.str.inj (of_decide_eq_true z))), if_neg nb, mn ew]
          rfl
    rintro σ' G7 ⟨m, rfl, k07, pu7, gta7, m0, m8, md⟩
    refine ⟨_, rfl, _, rfl, p, sm, _, z, rfl, pu7, by omega, k07 _ _ nsm hm, r1, r2, fun j G8 j0 j1 k8 pu8 => ?_⟩
    refine ⟨_, rfl, _, rfl, _, rfl, _, rfl, by show 6 ≤ sizeLine; decide, fun t ht => ?_⟩
    have nt := pu8.ne ht
    have s9 : Same G8 (upd G8 t (.tup [.str "do", .int j, .str y, .int u, .ref ta, .int m])) := same_new ht
    obtain ⟨w1, w2, w3⟩ := wo_all y ‹_›
    have sA : ShAll (upd G8 t (.tup [.str "do", .int j, .str y, .int u, .ref ta, .int m])) (· ≠ p) false [.str "do", .int j, .str y, .int u, .ref ta, .int m] [.str "do", .int j, .str y, .int u, .tuple (js.map PyData.int), .int m] :=
      .cons (.str _) (.cons (.int _) (.cons (.str _) (.cons (.int _) (.cons (.tup (s9 _ _ (k8 _ _ nta gta7)) nta (shAll_ints js)) (.cons (.int _) .nil)))))
    have lj2 : js.length ≤ 2 := by omega
    have fj : ∀ d ∈ js.map PyData.int, fit 12 0 d := fun d hd => by
      obtain ⟨i, mi, rfl⟩ := List.mem_map.mp hd
      have := hj i mi
      exact int_fit (by omega) (by omega)
    have slj : slA (js.map PyData.int) ≤ 32 := by
      have a := slA_le (n := 14) (l := js.map PyData.int) fun d m => by
        obtain ⟨i, mi, rfl⟩ := List.mem_map.mp m
        have := hj i mi
        exact sl_small (by omega) (by omega)
      rw [List.length_map] at a
      omega
    refine q (.ref t) _ _ (fun b => ⟨.tup upd_same nt sA, ?_, ?_, do_ok ⟨j0, j1⟩ ⟨u1, u8⟩ ‹_› hj ljc md, by simp only [noL, noLA, noLA_ints, Bool.and_self]⟩) (fun a o na h => s9 _ _ (k8 a o na (k07 a o na h))) ((pu8.of (upd_ne nt.symm)).mono (by omega))
    · refine fit_tup.mpr ⟨by show 6 ≤ 12; decide, fitA_cons (fit_str.mpr (by decide +kernel)) (fitA_cons (int_fit (by omega) (by omega)) (fitA_cons (fit_str.mpr w2) (fitA_cons (int_fit (by omega) (by omega)) (fitA_cons (fit_tup.mpr ⟨by rw [List.length_map]; omega, fj⟩) (fitA_cons (int_fit (by omega) (by omega)) fitA_nil)))))⟩
    · have a1 := sl_small (i := j) (by omega) (by omega)
      have a2 := slS w3
      have a3 := sl_small (i := u) (by omega) (by omega)
      have a4 := sl_small (i := m) (by omega) (by omega)
      have a5 : sl (.str "do") ≤ 10 * 2 + 3 := slS (by decide)
      simp only [sl_tup, slA_cons, slA_nil]
      omega
end
end J
end Bf

namespace Bf
open PySem PySem.Spec PyProof.Rows L2
namespace J
theorem ints_drawn {p t : Addr} {G : Hp} {y : Str} {js : List Int} {z : Rm} {b : Int} (nt : t ≠ p) (gt : G t = some (.tup (.str y :: js.map V.int))) (hy : strOk y = true ∧ y.cps.size ≤ 5) (hj : ∀ j ∈ js, -1000 ≤ j ∧ j ≤ 1000) (l : js.length ≤ 5)
    (ok : insD z b (.tuple (.str y :: js.map PyData.int)) = true) : Drawn_ p G z b (.ref t) (.tuple (.str y :: js.map PyData.int)) := by
  refine ⟨.tup gt nt (.cons (.str _) (shAll_ints js)), fit_tup.mpr ⟨by rw [List.length_cons, List.length_map]; omega, fitA_cons (fit_str.mpr hy.1) fun d hd => ?_⟩, ?_, ok, by simp only [noL, noLA, noLA_ints, Bool.and_self]⟩
  · obtain ⟨i, mi, rfl⟩ := List.mem_map.mp hd
    exact int_fit (hj i mi).1 (hj i mi).2
  · have a := slA_le (n := 14) (l := js.map PyData.int) fun d m => by
      obtain ⟨i, mi, rfl⟩ := List.mem_map.mp m
      exact sl_small (hj i mi).1 (hj i mi).2
    rw [List.length_map] at a
    have a5 := slS hy.2
    rw [sl_tup, slA_cons]
    omega
section
variable {z : Rm} {b : Int}
theorem ok_put {j k : Int} (h1 : 0 ≤ j ∧ j ≤ z.r - 1) (h2 : 0 ≤ k ∧ k ≤ 255) : insD z b (.tuple (.str "put" :: [j, k].map PyData.int)) = true := by
  rw [ins_eq (show lk "put" FS = some (["registers", "worth"] : List Str) from by decide +kernel)]
  show ((true && (wholeD (.int j) 0 (z.r - 1) && (wholeD (.int k) 0 255 && true))) && (true || _)) = true
  rw [whole_of h1.1 h1.2, whole_of h2.1 h2.2]; rfl
theorem ok_read {j k : Int} (h1 : 0 ≤ j ∧ j ≤ z.r - 1) (h2 : 0 ≤ k ∧ k ≤ z.c - 1) : insD z b (.tuple (.str "read" :: [j, k].map PyData.int)) = true := by
  rw [ins_eq (show lk "read" FS = some (["registers", "cells"] : List Str) from by decide +kernel)]
  show ((true && (wholeD (.int j) 0 (z.r - 1) && (wholeD (.int k) 0 (z.c - 1) && true))) && (true || _)) = true
  rw [whole_of h1.1 h1.2, whole_of h2.1 h2.2]; rfl
theorem ok_write {j k : Int} (h1 : 0 ≤ j ∧ j ≤ z.r - 1) (h2 : 0 ≤ k ∧ k ≤ z.c - 1) : insD z b (.tuple (.str "write" :: [k, j].map PyData.int)) = true := by
  rw [ins_eq (show lk "write" FS = some (["cells", "registers"] : List Str) from by decide +kernel)]
  show ((true && (wholeD (.int k) 0 (z.c - 1) && (wholeD (.int j) 0 (z.r - 1) && true))) && (true || _)) = true
  rw [whole_of h1.1 h1.2, whole_of h2.1 h2.2]; rfl
theorem ok_in {j k : Int} (h1 : 0 ≤ j ∧ j ≤ z.r - 1) (h2 : 0 ≤ k ∧ k ≤ z.i - 1) : insD z b (.tuple (.str "in" :: [j, k].map PyData.int)) = true := by
  rw [ins_eq (show lk "in" FS = some (["registers", "ins"] : List Str) from by decide +kernel)]
  show ((true && (wholeD (.int j) 0 (z.r - 1) && (wholeD (.int k) 0 (z.i - 1) && true))) && (true || _)) = true
  rw [whole_of h1.1 h1.2, whole_of h2.1 h2.2]; rfl
theorem ok_out {j k : Int} (h1 : 0 ≤ j ∧ j ≤ z.r - 1) (h2 : 0 ≤ k ∧ k ≤ z.o - 1) : insD z b (.tuple (.str "out" :: [k, j].map PyData.int)) = true := by
  rw [ins_eq (show lk "out" FS = some (["outs", "registers"] : List Str) from by decide +kernel)]
  show ((true && (wholeD (.int k) 0 (z.o - 1) && (wholeD (.int j) 0 (z.r - 1) && true))) && (true || _)) = true
  rw [whole_of h1.1 h1.2, whole_of h2.1 h2.2]; rfl
theorem ok_pick {j k l m : Int} (h1 : 0 ≤ j ∧ j ≤ z.r - 1) (h2 : 0 ≤ k ∧ k ≤ z.r - 1) (h3 : 0 ≤ l ∧ l ≤ z.r - 1) (h4 : 0 ≤ m ∧ m ≤ z.r - 1) : insD z b (.tuple (.str "pick" :: [j, k, l, m].map PyData.int)) = true := by
  rw [ins_eq (show lk "pick" FS = some (["registers", "registers", "registers", "registers"] : List Str) from by decide +kernel)]
  show ((true && (wholeD (.int j) 0 (z.r - 1) && (wholeD (.int k) 0 (z.r - 1) && (wholeD (.int l) 0 (z.r - 1) && (wholeD (.int m) 0 (z.r - 1) && true))))) && (true || _)) = true
  rw [whole_of h1.1 h1.2, whole_of h2.1 h2.2, whole_of h3.1 h3.2, whole_of h4.1 h4.2]; rfl
theorem ok_go {k : Int} (h2 : 1 ≤ k ∧ k ≤ b) : insD z b (.tuple (.str "go" :: [k].map PyData.int)) = true := by
  rw [← go_eq]
  exact whole_of h2.1 h2.2
theorem ok_skip {j t k : Int} (h1 : 0 ≤ j ∧ j ≤ z.r - 1) (h2 : 0 ≤ t ∧ t ≤ 1) (h3 : 1 ≤ k ∧ k ≤ b) : insD z b (.tuple (.str "skip" :: [j, t, k].map PyData.int)) = true := by
  rw [← skip_eq]
  show (wholeD (.int j) 0 (z.r - 1) && (wholeD (.int t) 0 1 && wholeD (.int k) 1 b)) = true
  rw [whole_of h1.1 h1.2, whole_of h2.1 h2.2, whole_of h3.1 h3.2]; rfl
end
section
variable {P : Program} {w : World} {K : PySem.W.Frag} {mg : Str → Option Value} {base : Heap}
def Zok (z : Rm) : Prop := (1 ≤ z.r ∧ z.r ≤ 900) ∧ (0 ≤ z.c ∧ z.c ≤ 900) ∧ (0 ≤ z.i ∧ z.i ≤ 900) ∧ (0 ≤ z.o ∧ z.o ≤ 900)
def spStep : Sp := fun vs H Q _ => ∃ (p sm : Addr) (n : Int) (z : Rm) (b : Int), vs = [.ref p, .ref sm, .int b] ∧ Purse H p n ∧ n ≤ 99700 ∧ H sm = some (.lst z.list) ∧ Zok z ∧ b ≤ 900 ∧ ∀ v d G, Drawn_ p G z b v d → Kp (· ≠ p) H G → Purse G p (n + 30) → Q v G
abbrev nStep : List Str := ["_law_box_here", "_law_sizes", "_law_left", "_law_way", "_law_one", "_law_two"]
abbrev pStep : List Str := ["_law_box_here", "_law_sizes", "_law_left"]
theorem scStep : FnScope nStep pStep (defScope sStep) := ⟨rfl, rfl, rfl, by decide +kernel, rfl, by decide +kernel, by decide +kernel⟩
theorem bd1 {a : Int} (h1 : 0 ≤ a ∧ a ≤ 900) : ∀ j ∈ [a], -1000 ≤ j ∧ j ≤ 1000 := fun j m => by
  rw [List.mem_singleton] at m
  subst m; omega
theorem bdc {a : Int} {l : List Int} (h1 : 0 ≤ a ∧ a ≤ 900) (h : ∀ j ∈ l, -1000 ≤ j ∧ j ≤ 1000) : ∀ j ∈ a :: l, -1000 ≤ j ∧ j ≤ 1000 := fun j m => by
  rcases List.mem_cons.mp m with rfl | m
  · omega
  · exact h j m
set_option maxHeartbeats 2000000 in
theorem ok_lstep {f ft fr fo : Addr} {fd dt dr do_ : FuncData} (F : Fun K "_law_step" "_law_step" sStep f fd) (DT : Df K mg "_law_take" ft dt pTake) (GT : FnOk P w K mg base CX0 1 ft dt pTake spTake)
    (DR : Df K mg "_law_register" fr dr pReg) (GR : FnOk P w K mg base CX0 2 fr dr pReg spReg) (DD : Df K mg "_law_do" fo do_ pReg) (GD : FnOk P w K mg base CX0 3 fo do_ pReg spLDo) : FnOk P w K mg base CX0 4 f fd pStep spStep := by
  refine F.ok scStep (fun vs H Q E h => ?_) (fun cdv A outer s H vs Q E hr h => ?_)
  · obtain ⟨p, sm, n, z, b, rfl, _⟩ := h
    rfl
  · obtain ⟨p, sm, n, z, b, rfl, pu, hn, hm, ⟨⟨r1, r2⟩, ⟨c1, c2⟩, ⟨i1, i2⟩, ⟨o1, o2⟩⟩, b9, q⟩ := h
    have hr1 := hr.mono (by decide : 1 ≤ 3)
    have hr2 := hr.mono (by decide : 2 ≤ 3)
    have hr3 := hr.mono (by decide : 3 ≤ 3)
    refine ⟨_, (pss_cons (ps_set (i := 3) scStep.nd rfl (Or.inl rfl) (pe_call GT hr1 (by rfl) DT.at_ DT.kp DT.bd .nil pass0 (pa_cons (pv 0) (pa_cons pe_int pa_nil))))
        (pss_cons (ps_par (i := 4) (j := 5) rfl scStep.nd rfl rfl (by decide) rfl rfl (pa_cons (pe_call GR hr2 (by rfl) DR.at_ DR.kp DR.bd .nil pass0 (pa_cons (pv 0) (pa_cons (pv 1) pa_nil))) (pa_cons (pe_call GR hr2 (by rfl) DR.at_ DR.kp DR.bd .nil pass0 (pa_cons (pv 0) (pa_cons (pv 1) pa_nil))) pa_nil)) rfl)
        (Evl.pss_cut (ps_if (PW.pt (pw_and (pt_cmpR op_eq (pv 3) pe_int (nomark _)) (pw_and1 (pt_cmpR op_gt (pe_ix ix_list (pv 1) pe_int (fun _ _ => rfl)) pe_int (nomark _))))) (pss_one (ps_ret (pe_tup (pa_cons pe_str (pa_cons (pv 4) (pa_cons (pe_call GT hr1 (by rfl) DT.at_ DT.kp DT.bd .nil pass0 (pa_cons (pv 0) (pa_cons (pe_ix ix_list (pv 1) pe_int (fun _ _ => rfl)) pa_nil))) pa_nil)))))) pss_nil)
        (Evl.pss_cut (ps_if (PW.pt (pw_and (pt_cmpR op_eq (pv 3) pe_int (nomark _)) (pw_and1 (pt_cmpR op_gt (pe_ix ix_list (pv 1) pe_int (fun _ _ => rfl)) pe_int (nomark _))))) (pss_one (ps_ret (pe_tup (pa_cons pe_str (pa_cons (pe_call GT hr1 (by rfl) DT.at_ DT.kp DT.bd .nil pass0 (pa_cons (pv 0) (pa_cons (pe_ix ix_list (pv 1) pe_int (fun _ _ => rfl)) pa_nil))) (pa_cons (pv 4) pa_nil)))))) pss_nil)
        (Evl.pss_cut (ps_if (PW.pt (pw_and (pt_cmpR op_eq (pv 3) pe_int (nomark _)) (pw_and1 (pt_cmpR op_gt (pe_ix ix_list (pv 1) pe_int (fun _ _ => rfl)) pe_int (nomark _))))) (pss_one (ps_ret (pe_tup (pa_cons pe_str (pa_cons (pv 4) (pa_cons (pe_call GT hr1 (by rfl) DT.at_ DT.kp DT.bd .nil pass0 (pa_cons (pv 0) (pa_cons (pe_ix ix_list (pv 1) pe_int (fun _ _ => rfl)) pa_nil))) pa_nil)))))) pss_nil)
        (Evl.pss_cut (ps_if (PW.pt (pw_and (pt_cmpR op_eq (pv 3) pe_int (nomark _)) (pw_and1 (pt_cmpR op_gt (pe_ix ix_list (pv 1) pe_int (fun _ _ => rfl)) pe_int (nomark _))))) (pss_one (ps_ret (pe_tup (pa_cons pe_str (pa_cons (pe_call GT hr1 (by rfl) DT.at_ DT.kp DT.bd .nil pass0 (pa_cons (pv 0) (pa_cons (pe_ix ix_list (pv 1) pe_int (fun _ _ => rfl)) pa_nil))) (pa_cons (pv 4) pa_nil)))))) pss_nil)
        (Evl.pss_cut (ps_if (PW.pt (pw_and (pt_cmpR op_eq (pv 3) pe_int (nomark _)) (pw_and1 (pt_cmpR op_gt (pv 2) pe_int (nomark _))))) (pss_one (ps_ret (pe_tup (pa_cons pe_str (pa_cons (pe_ix ix_list (pe_lst (pa_cons (pv 2) (pa_cons (pe_op op_add pe_int (pe_call GT hr1 (by rfl) DT.at_ DT.kp DT.bd .nil pass0 (pa_cons (pv 0) (pa_cons (pv 2) pa_nil)))) pa_nil))) (pe_call GT hr1 (by rfl) DT.at_ DT.kp DT.bd .nil pass0 (pa_cons (pv 0) (pa_cons pe_int pa_nil))) (fun _ _ => rfl)) pa_nil))))) pss_nil)
        (Evl.pss_cut (ps_if (PW.pt (pw_and (pt_cmpR op_eq (pv 3) pe_int (nomark _)) (pw_and1 (pt_cmpR op_gt (pv 2) pe_int (nomark _))))) (pss_one (ps_ret (pe_tup (pa_cons pe_str (pa_cons (pv 4) (pa_cons (pe_call GT hr1 (by rfl) DT.at_ DT.kp DT.bd .nil pass0 (pa_cons (pv 0) (pa_cons pe_int pa_nil))) (pa_cons (pe_ix ix_list (pe_lst (pa_cons (pv 2) (pa_cons (pe_op op_add pe_int (pe_call GT hr1 (by rfl) DT.at_ DT.kp DT.bd .nil pass0 (pa_cons (pv 0) (pa_cons (pv 2) pa_nil)))) pa_nil))) (pe_call GT hr1 (by rfl) DT.at_ DT.kp DT.bd .nil pass0 (pa_cons (pv 0) (pa_cons pe_int pa_nil))) (fun _ _ => rfl)) pa_nil))))))) pss_nil)
        (pss_cons (ps_if (pt_cmpR op_eq (pv 3) pe_int (nomark _)) (pss_one (ps_ret (pe_tup (pa_cons pe_str (pa_cons (pv 4) (pa_cons (pv 5) (pa_cons (pe_call GR hr2 (by rfl) DR.at_ DR.kp DR.bd .nil pass0 (pa_cons (pv 0) (pa_cons (pv 1) pa_nil))) (pa_cons (pe_call GR hr2 (by rfl) DR.at_ DR.kp DR.bd .nil pass0 (pa_cons (pv 0) (pa_cons (pv 1) pa_nil))) pa_nil)))))))) pss_nil)
        (pss_cons (ps_if (pt_cmpR op_eq (pv 3) pe_int (nomark _)) (pss_one (ps_ret (pe_tup (pa_cons pe_str (pa_cons (pv 4) (pa_cons (pe_ix ix_list (pe_lst (pa_cons pe_int (pa_cons pe_int (pa_cons (pe_call GT hr1 (by rfl) DT.at_ DT.kp DT.bd .nil pass0 (pa_cons (pv 0) (pa_cons pe_int pa_nil))) pa_nil)))) (pe_call GT hr1 (by rfl) DT.at_ DT.kp DT.bd .nil pass0 (pa_cons (pv 0) (pa_cons pe_int pa_nil))) (fun _ _ => rfl)) pa_nil)))))) pss_nil)
        (pss_one (ps_ret (pe_call GD hr3 (by rfl) DD.at_ DD.kp DD.bd .nil pass0 (pa_cons (pv 0) (pa_cons (pv 1) pa_nil))))))))))))))), ?_⟩
    have nsm := sz_ne hm pu
    refine take_ok (i := 0) rfl pu (by omega) (by decide) (by decide) (fun d G1 d0 d1 k1 pu1 => ?_)
    dsimp only [gName]
    refine ⟨_, rfl, _, rfl, p, sm, _, z, rfl, pu1, by omega, k1 _ _ nsm hm, r1, r2, fun j1 G2 j10 j11 k2 pu2 => ?_⟩
    refine ⟨_, rfl, _, rfl, p, sm, _, z, rfl, pu2, by omega, k2 _ _ nsm (k1 _ _ nsm hm), r1, r2, fun j2 G3 j20 j21 k3 pu3 => ?_⟩
    have k03 : Kp (· ≠ p) H G3 := (k1.trans k2).trans k3
    have hm3 := k03 _ _ nsm hm
    have pu3 := pu3.mono (m := n + 6) (by omega)
    clear k1 k2 k3 pu1 pu2
    refine ⟨_, _, rfl, ?_⟩
    refine ⟨fun σ' G' => σ' = [some (.ref p), some (.ref sm), some (.int b), some (.int d), some (.int j1), some (.int j2)] ∧ G3 = G', ?_, ?_⟩
    · refine ⟨_, rfl, rfl, _, rfl, ite2 (fun _ => ⟨_, rfl, sm, _, 1, _, rfl, rfl, SqL.of hm3, rfl, _, _, rfl, rfl, _, rfl, ite2 (fun h2 => ?_) (fun _ => ⟨rfl, rfl⟩)⟩) (fun _ => iteF ⟨rfl, rfl⟩)⟩
      have h2' : 0 < z.c := of_decide_eq_true h2
      refine ⟨_, rfl, _, rfl, _, rfl, sm, _, 1, _, rfl, rfl, SqL.of hm3, rfl, p, z.c, _, rfl, pu3, by omega, h2', by omega, fun e G4 e0 e1 pu4 eq => ⟨by show 3 ≤ sizeLine; decide, fun t ht => ?_⟩⟩
      have nt := pu4.ne ht
      exact q _ _ _ (ints_drawn (y := "read") (js := [j1, e]) nt upd_same (by decide +kernel) (bdc (by omega) (bd1 (by omega))) (by show 2 ≤ 5; decide) (ok_read (by omega) (by omega))) (fun a o na h => same_new ht _ _ ((eq a na).trans (k03 a o na h))) ((pu4.of (upd_ne nt.symm)).mono (by omega))
    rintro σ' G' ⟨rfl, rfl⟩
    refine ⟨fun σ' G' => σ' = [some (.ref p), some (.ref sm), some (.int b), some (.int d), some (.int j1), some (.int j2)] ∧ G3 = G', ?_, ?_⟩
    · refine ⟨_, rfl, rfl, _, rfl, ite2 (fun _ => ⟨_, rfl, sm, _, 1, _, rfl, rfl, SqL.of hm3, rfl, _, _, rfl, rfl, _, rfl, ite2 (fun h2 => ?_) (fun _ => ⟨rfl, rfl⟩)⟩) (fun _ => iteF ⟨rfl, rfl⟩)⟩
      have h2' : 0 < z.c := of_decide_eq_true h2
      refine ⟨_, rfl, _, rfl, sm, _, 1, _, rfl, rfl, SqL.of hm3, rfl, p, z.c, _, rfl, pu3, by omega, h2', by omega, fun e G4 e0 e1 pu4 eq => ⟨_, rfl, by show 3 ≤ sizeLine; decide, fun t ht => ?_⟩⟩
      have nt := pu4.ne ht
      exact q _ _ _ (ints_drawn (y := "write") (js := [e, j1]) nt upd_same (by decide +kernel) (bdc (by omega) (bd1 (by omega))) (by show 2 ≤ 5; decide) (ok_write (by omega) (by omega))) (fun a o na h => same_new ht _ _ ((eq a na).trans (k03 a o na h))) ((pu4.of (upd_ne nt.symm)).mono (by omega))
    rintro σ' G' ⟨rfl, rfl⟩
    refine ⟨fun σ' G' => σ' = [some (.ref p), some (.ref sm), some (.int b), some (.int d), some (.int j1), some (.int j2)] ∧ G3 = G', ?_, ?_⟩
    · refine ⟨_, rfl, rfl, _, rfl, ite2 (fun _ => ⟨_, rfl, sm, _, 2, _, rfl, rfl, SqL.of hm3, rfl, _, _, rfl, rfl, _, rfl, ite2 (fun h2 => ?_) (fun _ => ⟨rfl, rfl⟩)⟩) (fun _ => iteF ⟨rfl, rfl⟩)⟩
      have h2' : 0 < z.i := of_decide_eq_true h2
      refine ⟨_, rfl, _, rfl, _, rfl, sm, _, 2, _, rfl, rfl, SqL.of hm3, rfl, p, z.i, _, rfl, pu3, by omega, h2', by omega, fun e G4 e0 e1 pu4 eq => ⟨by show 3 ≤ sizeLine; decide, fun t ht => ?_⟩⟩
      have nt := pu4.ne ht
      exact q _ _ _ (ints_drawn (y := "in") (js := [j1, e]) nt upd_same (by decide +kernel) (bdc (by omega) (bd1 (by omega))) (by show 2 ≤ 5; decide) (ok_in (by omega) (by omega))) (fun a o na h => same_new ht _ _ ((eq a na).trans (k03 a o na h))) ((pu4.of (upd_ne nt.symm)).mono (by omega))
    rintro σ' G' ⟨rfl, rfl⟩
    refine ⟨fun σ' G' => σ' = [some (.ref p), some (.ref sm), some (.int b), some (.int d), some (.int j1), some (.int j2)] ∧ G3 = G', ?_, ?_⟩
    · refine ⟨_, rfl, rfl, _, rfl, ite2 (fun _ => ⟨_, rfl, sm, _, 3, _, rfl, rfl, SqL.of hm3, rfl, _, _, rfl, rfl, _, rfl, ite2 (fun h2 => ?_) (fun _ => ⟨rfl, rfl⟩)⟩) (fun _ => iteF ⟨rfl, rfl⟩)⟩
      have h2' : 0 < z.o := of_decide_eq_true h2
      refine ⟨_, rfl, _, rfl, sm, _, 3, _, rfl, rfl, SqL.of hm3, rfl, p, z.o, _, rfl, pu3, by omega, h2', by omega, fun e G4 e0 e1 pu4 eq => ⟨_, rfl, by show 3 ≤ sizeLine; decide, fun t ht => ?_⟩⟩
      have nt := pu4.ne ht
      exact q _ _ _ (ints_drawn (y := "out") (js := [e, j1]) nt upd_same (by decide +kernel) (bdc (by omega) (bd1 (by omega))) (by show 2 ≤ 5; decide) (ok_out (by omega) (by omega))) (fun a o na h => same_new ht _ _ ((eq a na).trans (k03 a o na h))) ((pu4.of (upd_ne nt.symm)).mono (by omega))
    rintro σ' G' ⟨rfl, rfl⟩
    refine ⟨fun σ' G' => σ' = [some (.ref p), some (.ref sm), some (.int b), some (.int d), some (.int j1), some (.int j2)] ∧ G3 = G', ?_, ?_⟩
    · refine ⟨_, rfl, rfl, _, rfl, ite2 (fun _ => ⟨_, rfl, _, _, rfl, rfl, _, rfl, ite2 (fun h2 => ?_) (fun _ => ⟨rfl, rfl⟩)⟩) (fun _ => iteF ⟨rfl, rfl⟩)⟩
      have h2' : 0 < b := of_decide_eq_true h2
      refine ⟨_, rfl, _, rfl, _, rfl, p, b, _, rfl, pu3, by omega, h2', by omega, fun e G4 e0 e1 pu4 eq => ⟨_, _, rfl, rfl, ?_⟩⟩
      refine disp_take (i := 0) rfl pu4 (by omega) rfl (by decide) (by decide) fun v G5 mv k5 pu5 => ?_
      obtain ⟨m, rfl, u1, u8⟩ : ∃ i : Int, v = .int i ∧ 1 ≤ i ∧ i ≤ b := by
        simp only [List.mem_cons, List.not_mem_nil, or_false] at mv
        rcases mv with rfl | rfl
        · exact ⟨_, rfl, by omega, by omega⟩
        · exact ⟨_, rfl, by omega, by omega⟩
      refine ⟨by show 2 ≤ sizeLine; decide, fun t ht => ?_⟩
      have nt := pu5.ne ht
      exact q _ _ _ (ints_drawn (y := "go") (js := [m]) nt upd_same (by decide +kernel) (bd1 (by omega)) (by show 1 ≤ 5; decide) (ok_go (by omega))) (fun a o na h => same_new ht _ _ (k5 a o na ((eq a na).trans (k03 a o na h)))) ((pu5.of (upd_ne nt.symm)).mono (by omega))
    rintro σ' G' ⟨rfl, rfl⟩
    refine ⟨fun σ' G' => σ' = [some (.ref p), some (.ref sm), some (.int b), some (.int d), some (.int j1), some (.int j2)] ∧ G3 = G', ?_, ?_⟩
    · refine ⟨_, rfl, rfl, _, rfl, ite2 (fun _ => ⟨_, rfl, _, _, rfl, rfl, _, rfl, ite2 (fun h2 => ?_) (fun _ => ⟨rfl, rfl⟩)⟩) (fun _ => iteF ⟨rfl, rfl⟩)⟩
      have h2' : 0 < b := of_decide_eq_true h2
      refine ⟨_, rfl, take_ok (i := 0) rfl pu3 (by omega) (by decide) (by decide) (fun tr G4 t0 t1 k4 pu4 => ?_)⟩
      refine ⟨_, rfl, _, rfl, _, rfl, p, b, _, rfl, pu4, by omega, h2', by omega, fun e G5 e0 e1 pu5 eq => ⟨_, _, rfl, rfl, ?_⟩⟩
      refine disp_take (i := 0) rfl pu5 (by omega) rfl (by decide) (by decide) fun v G6 mv k6 pu6 => ?_
      obtain ⟨m, rfl, u1, u8⟩ : ∃ i : Int, v = .int i ∧ 1 ≤ i ∧ i ≤ b := by
        simp only [List.mem_cons, List.not_mem_nil, or_false] at mv
        rcases mv with rfl | rfl
        · exact ⟨_, rfl, by omega, by omega⟩
        · exact ⟨_, rfl, by omega, by omega⟩
      refine ⟨by show 4 ≤ sizeLine; decide, fun t ht => ?_⟩
      have nt := pu6.ne ht
      exact q _ _ _ (ints_drawn (y := "skip") (js := [j1, tr, m]) nt upd_same (by decide +kernel) (bdc (by omega) (bdc (by omega) (bd1 (by omega)))) (by show 3 ≤ 5; decide) (ok_skip (by omega) (by omega) (by omega))) (fun a o na h => same_new ht _ _ (k6 a o na ((eq a na).trans (k4 a o na (k03 a o na h))))) ((pu6.of (upd_ne nt.symm)).mono (by omega))
    rintro σ' G' ⟨rfl, rfl⟩
    refine ⟨_, rfl, rfl, _, rfl, ite2 (fun _ => ?_) (fun _ => ?_)⟩
    · refine ⟨_, rfl, _, rfl, _, rfl, _, rfl, p, sm, _, z, rfl, pu3, by omega, hm3, r1, r2, fun j3 G4 j30 j31 k4 pu4 => ?_⟩
      refine ⟨_, rfl, _, rfl, p, sm, _, z, rfl, pu4, by omega, k4 _ _ nsm hm3, r1, r2, fun j4 G5 j40 j41 k5 pu5 => ⟨by show 5 ≤ sizeLine; decide, fun t ht => ?_⟩⟩
      have nt := pu5.ne ht
      exact q _ _ _ (ints_drawn (y := "pick") (js := [j1, j2, j3, j4]) nt upd_same (by decide +kernel) (bdc (by omega) (bdc (by omega) (bdc (by omega) (bd1 (by omega))))) (by show 4 ≤ 5; decide) (ok_pick (by omega) (by omega) (by omega) (by omega))) (fun a o na h => same_new ht _ _ (k5 a o na (k4 a o na (k03 a o na h)))) ((pu5.of (upd_ne nt.symm)).mono (by omega))
    refine ⟨_, rfl, rfl, _, rfl, ite2 (fun _ => ?_) (fun _ => ?_)⟩
    · refine ⟨_, rfl, take_ok (i := 0) rfl pu3 (by omega) (by decide) (by decide) (fun e G4 e0 e1 k4 pu4 => ?_)⟩
      refine disp_take (i := 0) rfl pu4 (by omega) rfl (by decide) (by decide) fun v G5 mv k5 pu5 => ?_
      obtain ⟨m, rfl, u1, u8⟩ : ∃ i : Int, v = .int i ∧ 0 ≤ i ∧ i ≤ 255 := by
        simp only [List.mem_cons, List.not_mem_nil, or_false] at mv
        rcases mv with rfl | rfl | rfl
        · exact ⟨_, rfl, by omega, by omega⟩
        · exact ⟨_, rfl, by omega, by omega⟩
        · exact ⟨_, rfl, by omega, by omega⟩
      refine ⟨by show 3 ≤ sizeLine; decide, fun t ht => ?_⟩
      have nt := pu5.ne ht
      exact q _ _ _ (ints_drawn (y := "put") (js := [j1, m]) nt upd_same (by decide +kernel) (bdc (by omega) (bd1 (by omega))) (by show 2 ≤ 5; decide) (ok_put (by omega) (by omega))) (fun a o na h => same_new ht _ _ (k5 a o na (k4 a o na (k03 a o na h)))) ((pu5.of (upd_ne nt.symm)).mono (by omega))
    exact ⟨_, rfl, _, rfl, p, sm, _, z, rfl, pu3, by omega, hm3, r1, r2, fun v dd G4 hd k4 pu4 => q v dd G4 (hd b) (k03.trans k4) (pu4.mono (by omega))⟩
end
end J
end Bf

namespace Bf
open PySem PySem.Spec PyProof.Rows L2
namespace J
/-- some tracked datum, bounded -/
def TV (p : Addr) (G : Hp) (W k m : Nat) (v : V) : Prop := ∃ d, Sh G (· ≠ p) false v d ∧ fit W k d ∧ sl d ≤ m
/-- some tracked data, bounded -/
def TL (p : Addr) (G : Hp) (W k m L : Nat) (vs : List V) : Prop := ∃ ds, ShAll G (· ≠ p) false vs ds ∧ (∀ d ∈ ds, fit W k d) ∧ slA ds ≤ m ∧ vs.length ≤ L
section
variable {p : Addr} {G G' : Hp} {W k m L W' k' m' L' : Nat} {v : V} {vs ws : List V}
theorem TV.kp (e : Kp (· ≠ p) G G') (h : TV p G W k m v) : TV p G' W k m v := let ⟨d, a, b, c⟩ := h; ⟨d, sh_kp e a, b, c⟩
theorem TL.kp (e : Kp (· ≠ p) G G') (h : TL p G W k m L vs) : TL p G' W k m L vs := let ⟨d, a, b, c⟩ := h; ⟨d, shA_kp e a, b, c⟩
theorem TV.mono (h : TV p G W k m v) (hw : W ≤ W') (hk : k ≤ k') (hm : m ≤ m') : TV p G W' k' m' v := let ⟨d, a, b, c⟩ := h; ⟨d, a, fit_mono hw d hk b, Nat.le_trans c hm⟩
theorem TL.mono (h : TL p G W k m L vs) (hw : W ≤ W') (hk : k ≤ k') (hm : m ≤ m') (hl : L ≤ L') : TL p G W' k' m' L' vs := let ⟨d, a, b, c, e⟩ := h; ⟨d, a, fun x mx => fit_mono hw x hk (b x mx), Nat.le_trans c hm, Nat.le_trans e hl⟩
theorem TL.nil : TL p G W k 0 0 [] := ⟨[], .nil, fitA_nil, by rw [slA_nil]; exact Nat.le_refl _, Nat.le_refl _⟩
theorem TL.cons (h : TV p G W k m v) (t : TL p G W k m' L vs) : TL p G W k (m + 2 + m') (L + 1) (v :: vs) := let ⟨d, a, b, c⟩ := h; let ⟨ds, a', b', c', e'⟩ := t; ⟨d :: ds, .cons a a', fitA_cons b b', by rw [slA_cons]; omega, by rw [List.length_cons]; omega⟩
theorem TL.one (h : TV p G W k m v) : TL p G W k (m + 2) 1 [v] := (TL.cons h .nil).mono (Nat.le_refl _) (Nat.le_refl _) (by omega) (by omega)
theorem shA_append {P : Addr → Prop} {b : Bool} : ∀ {vs : List V} {ds : List PyData} {ws : List V} {es : List PyData}, ShAll G P b vs ds → ShAll G P b ws es → ShAll G P b (vs ++ ws) (ds ++ es)
  | _, _, _, _, .nil, r => r
  | _, _, _, _, .cons h t, r => .cons h (shA_append t r)
theorem shA_drop {P : Addr → Prop} {b : Bool} : ∀ {vs : List V} {ds : List PyData} (n : Nat), ShAll G P b vs ds → ShAll G P b (vs.drop n) (ds.drop n)
  | _, _, 0, r => r
  | _, _, _ + 1, .nil => .nil
  | _, _, n + 1, .cons _ r => shA_drop n r
theorem shA_take {P : Addr → Prop} {b : Bool} : ∀ {vs : List V} {ds : List PyData} (n : Nat), ShAll G P b vs ds → ShAll G P b (vs.take n) (ds.take n)
  | _, _, 0, _ => .nil
  | _, _, _ + 1, .nil => .nil
  | _, _, n + 1, .cons h r => .cons h (shA_take n r)
theorem shA_get {P : Addr → Prop} {b : Bool} : ∀ {vs : List V} {ds : List PyData}, ShAll G P b vs ds → ∀ {i : Nat} {v : V}, vs[i]? = some v → ∃ d, ds[i]? = some d ∧ Sh G P b v d
  | _, _, .cons h r, 0, _, e => by cases e; exact ⟨_, rfl, h⟩
  | _, _, .cons h r, i + 1, _, e => shA_get r (i := i) e
theorem slA_take (l : List PyData) (n : Nat) : slA (l.take n) ≤ slA l := by
  have e : slA (l.take n ++ l.drop n) = slA l := by rw [List.take_append_drop]
  rw [slA_app] at e
  omega
theorem slA_drop (l : List PyData) (n : Nat) : slA (l.drop n) ≤ slA l := by
  have e : slA (l.take n ++ l.drop n) = slA l := by rw [List.take_append_drop]
  rw [slA_app] at e
  omega
theorem TL.app (h : TL p G W k m L vs) (t : TL p G W k m' L' ws) : TL p G W k (m + m') (L + L') (vs ++ ws) := let ⟨d, a, b, c, e⟩ := h; let ⟨ds, a', b', c', e'⟩ := t; ⟨d ++ ds, shA_append a a', fun x mx => (List.mem_append.mp mx).elim (b x) (b' x), by rw [slA_app]; omega, by rw [List.length_append]; omega⟩
theorem TL.cut (h : TL p G W k m L vs) (lo hi : Option Int) : TL p G W k m L (cutV vs lo hi) := by
  obtain ⟨ds, a, b, c, e⟩ := h
  refine ⟨_, shA_take _ (shA_drop _ a), fun x mx => b x (List.mem_of_mem_drop (List.mem_of_mem_take mx)), Nat.le_trans (slA_take _ _) (Nat.le_trans (slA_drop _ _) c), Nat.le_trans (cutV_length vs lo hi) e⟩
theorem TL.get (h : TL p G W k m L vs) {i : Nat} (e : vs[i]? = some v) : TV p G W k m v := by
  obtain ⟨ds, a, b, c, _⟩ := h
  obtain ⟨d, hd, sh⟩ := shA_get a e
  have md := List.mem_of_getElem? hd
  have := slA_mem md
  exact ⟨d, sh, b d md, by omega⟩
theorem TV.tup {t : Addr} (h : TL p G W k m L vs) (nt : t ≠ p) (gt : G t = some (.tup vs)) (hl : L ≤ W) : TV p G W (k + 1) (m + 3) (.ref t) := by
  obtain ⟨ds, a, b, c, e⟩ := h
  exact ⟨.tuple ds, .tup gt nt a, fit_tup.mpr ⟨by rw [← shAll_len a]; omega, b⟩, by rw [sl_tup]; omega⟩
theorem TV.lst {t : Addr} (h : TL p G W k m L vs) (nt : t ≠ p) (gt : G t = some (.lst vs)) (hl : L ≤ W) : TV p G W (k + 1) (m + 3) (.ref t) := by
  obtain ⟨ds, a, b, c, e⟩ := h
  exact ⟨.list ds, .lst gt nt (fun z => nomatch z) a, fit_lst.mpr ⟨by rw [← shAll_len a]; omega, b⟩, by rw [sl_lst]; omega⟩
theorem TV.int {i : Int} (a : -1000 ≤ i) (b : i ≤ 1000) : TV p G W k 14 (.int i) := ⟨.int i, .int i, int_fit a b, sl_small a b⟩
theorem TV.bl {b : Bool} : TV p G W k 14 (.bl b) := ⟨.bool b, .bl b, fit_bl, by simp only [sl]; omega⟩
theorem TV.non : TV p G W k 14 .non := ⟨.none, .non, fit_non, by simp only [sl]; omega⟩
theorem TV.str {y : Str} (h : strOk y = true) (hl : y.cps.size ≤ 5) : TV p G W k 60 (.str y) := ⟨.str y, .str y, fit_str.mpr h, Nat.le_trans (slS hl) (by decide)⟩
/-- what a datum is -/
theorem TV.look {K : PySem.W.Frag} (h : TV p G W k m v) : (∃ t, TyX K G v t ∧ PySem.W.kitOne K t (.type "tuple") = some false) ∨
    ∃ a vs j, v = .ref a ∧ a ≠ p ∧ G a = some (.tup vs) ∧ k = j + 1 ∧ TL p G W j m W vs := by
  obtain ⟨d, sh, ft, hs⟩ := h
  cases sh with
  | non => exact .inl ⟨_, .base .non, kit_ty (by decide +kernel)⟩
  | bl c => exact .inl ⟨_, .base (.bl c), kit_ty (by decide +kernel)⟩
  | int i => exact .inl ⟨_, .base (.int i), kit_ty (by decide +kernel)⟩
  | str z => exact .inl ⟨_, .base (.str z), kit_ty (by decide +kernel)⟩
  | lst h p q r => exact .inl ⟨_, .base (.lst h), kit_ty (by decide +kernel)⟩
  | emp hb h p => cases hb
  | @tup a xs ds h p r =>
    cases k with
    | zero => simp only [fit] at ft
    | succ j =>
      obtain ⟨l, f⟩ := fit_tup.mp ft
      rw [sl_tup] at hs
      exact .inr ⟨a, xs, j, rfl, p, h, rfl, ds, r, f, by omega, by rw [shAll_len r]; exact l⟩
theorem TV.odd (h : TV p G W k m v) : Odd G v := by
  obtain ⟨d, sh, _, _⟩ := h
  cases sh with
  | non => exact .non
  | bl c => exact .bl c
  | int i => exact .int i
  | str z => exact .str z
  | lst h p q r => exact .lst h
  | emp hb h p => cases hb
  | tup h p r => exact .tup h
end
theorem cut_whole {xs : List V} {lo hi : Option Int} (h : HT.sIx xs.length 0 lo = 0 ∧ HT.sIx xs.length xs.length hi = xs.length) : cutV xs lo hi = xs := by
  unfold cutV
  rw [h.1, h.2, List.drop_zero, Nat.sub_zero, List.take_length]
section
variable {K : PySem.W.Frag} {p : Addr} {n : Int} {G : Hp} {a b : Addr} {xs ys : List V} {Q : VK}
theorem sl_ok {lo hi : Option Int} (pu : Purse G p n) (na : a ≠ p) (ha : G a = some (.tup xs)) (q : ∀ t G', Same G G' → t ≠ p → G' t = some (.tup (cutV xs lo hi)) → Q (.ref t) G') : rSlA K (.ref a) lo hi G Q :=
  ⟨a, xs, rfl, SqT.of ha, fun h => q a G (Same.refl _) na (by rw [cut_whole h]; exact ha), fun _ t ht => q t _ (same_new ht) (pu.ne ht) upd_same⟩
theorem cat_ok (pu : Purse G p n) (na : a ≠ p) (ha : G a = some (.tup xs)) (nb : b ≠ p) (hb : G b = some (.tup ys)) (l : xs.length + ys.length ≤ 100000) (q : ∀ t G', Same G G' → t ≠ p → G' t = some (.tup (xs ++ ys)) → Q (.ref t) G') : rCatA K (.ref a) (.ref b) G Q :=
  ⟨a, b, xs, ys, rfl, rfl, SqT.of ha, SqT.of hb, by rw [sizeLine_eq]; omega, fun e => q b G (Same.refl _) nb (by rw [e]; exact hb), fun _ e => q a G (Same.refl _) na (by rw [e, List.append_nil]; exact ha), fun _ _ t ht => q t _ (same_new ht) (pu.ne ht) upd_same⟩
theorem rep_ok {c : Int} (pu : Purse G p n) (na : a ≠ p) (ha : G a = some (.tup xs)) (c2 : 2 ≤ c) (c3 : c ≤ 1000) (l : xs.length ≤ 1000) (q : ∀ t G', Same G G' → t ≠ p → G' t = some (.tup (List.replicate c.toNat xs).flatten) → Q (.ref t) G') : rRepA K (.ref a) (.int c) G Q :=
  ⟨a, c, xs, rfl, rfl, SqT.of ha, c2, c3, l, fun e => q a G (Same.refl _) na (by rw [e]; rw [ha, e]; congr 2; exact (List.flatten_replicate_nil).symm), fun _ t ht => q t _ (same_new ht) (pu.ne ht) upd_same⟩
end
end J
end Bf

namespace Bf
open PySem PySem.Spec PyProof.Rows L2
namespace J
theorem TL.mem {p : Addr} {G : Hp} {W k m L : Nat} {v : V} {vs : List V} (h : TL p G W k m L vs) (mv : v ∈ vs) : TV p G W k m v := by
  obtain ⟨i, e⟩ := List.mem_iff_getElem?.mp mv
  exact TL.get h e
theorem noPart {σ : L2.St} {G : Hp} {F : Option Int → Hp → Prop} (h : F none G) : tNoPart σ G F := h
section
variable {K : PySem.W.Frag} {p : Addr} {n n' : Int} {H G : Hp} {a b : Addr} {xs ys vs : List V} {Q : VK} {σ : L2.St} {E : XK} {W k m : Nat} {tl tl2 th : TO} {td ty : TE} {d e : Int}
/-- what is told of no tuple, or of an empty one -/
theorem stock_ok (hσ : σ[0]? = some (some (.ref p))) (pu : Purse H p n) (hn : n ≤ 99900) (hW : 4 ≤ W) (q : ∀ v G, TV p G W (k + 2) 300 v → Kp (· ≠ p) H G → Purse G p (n + 1) → Q v G) :
    tOp (rIxL K) (tLst (tCons (tLst tNil) (tCons (tC .non) (tCons (tTup (tCons (tTup tNil) tNil)) (tCons (tTup (tCons (tTup (tCons (tC (.str "go")) (tCons (tC (.int 1)) tNil))) tNil)) tNil))))) (tCall spTake [] E (tCons (tVar 0) (tCons (tC (.int 4)) tNil))) σ H Q := by
  refine ⟨by show 0 ≤ sizeLine; decide, fun l1 h1 => ⟨by show 0 ≤ sizeLine; decide, fun t0 h0 => ⟨by show 1 ≤ sizeLine; decide, fun t1 ht1 => ⟨by show 2 ≤ sizeLine; decide, fun t2 h2 => ⟨by show 1 ≤ sizeLine; decide, fun t3 h3 => ?_⟩⟩⟩⟩⟩
  have n1 := pu.ne h1
  have p1 := pu.of (H' := upd H l1 (.lst [])) (upd_ne n1.symm)
  have e1 : Same H (upd H l1 (.lst [])) := same_new h1
  have f1 : (upd H l1 (.lst [])) l1 = some (.lst []) := upd_same
  generalize upd H l1 (.lst []) = G1 at h0 ht1 h2 h3 p1 e1 f1
  have n0 := p1.ne h0
  have p0 := p1.of (H' := upd G1 t0 (.tup [])) (upd_ne n0.symm)
  have e0 : Same G1 (upd G1 t0 (.tup [])) := same_new h0
  have f0 : (upd G1 t0 (.tup [])) t0 = some (.tup []) := upd_same
  generalize upd G1 t0 (.tup []) = G2 at ht1 h2 h3 p0 e0 f0
  have nt1 := p0.ne ht1
  have q1 := p0.of (H' := upd G2 t1 (.tup [.ref t0])) (upd_ne nt1.symm)
  have e2 : Same G2 (upd G2 t1 (.tup [.ref t0])) := same_new ht1
  have f2 : (upd G2 t1 (.tup [.ref t0])) t1 = some (.tup [.ref t0]) := upd_same
  generalize upd G2 t1 (.tup [.ref t0]) = G3 at h2 h3 q1 e2 f2
  have n2 := q1.ne h2
  have q2 := q1.of (H' := upd G3 t2 (.tup [.str "go", .int 1])) (upd_ne n2.symm)
  have e3 : Same G3 (upd G3 t2 (.tup [.str "go", .int 1])) := same_new h2
  have f3 : (upd G3 t2 (.tup [.str "go", .int 1])) t2 = some (.tup [.str "go", .int 1]) := upd_same
  generalize upd G3 t2 (.tup [.str "go", .int 1]) = G4 at h3 q2 e3 f3
  have n3 := q2.ne h3
  have q3 := q2.of (H' := upd G4 t3 (.tup [.ref t2])) (upd_ne n3.symm)
  have e4 : Same G4 (upd G4 t3 (.tup [.ref t2])) := same_new h3
  have f4 : (upd G4 t3 (.tup [.ref t2])) t3 = some (.tup [.ref t2]) := upd_same
  generalize upd G4 t3 (.tup [.ref t2]) = G5 at q3 e4 f4
  refine disp_take (i := 0) hσ q3 (by omega) rfl (by decide) (by decide) fun v G6 mv k6 p6 => ?_
  have k06 : Kp (· ≠ p) H G6 := fun y o ny h => k6 y o ny (e4 _ _ (e3 _ _ (e2 _ _ (e0 _ _ (e1 _ _ h)))))
  refine q v G6 ?_ k06 p6
  simp only [List.mem_cons, List.not_mem_nil, or_false] at mv
  rcases mv with rfl | rfl | rfl | rfl
  · exact (TV.lst (W := W) (k := k + 1) TL.nil n1 (k6 _ _ n1 (e4 _ _ (e3 _ _ (e2 _ _ (e0 _ _ f1))))) (by omega)).mono (Nat.le_refl _) (by omega) (by omega)
  · exact TV.non.mono (Nat.le_refl _) (Nat.le_refl _) (by omega)
  · have a0 : TV p G6 W (k + 1) 3 (.ref t0) := TV.tup TL.nil n0 (k6 _ _ n0 (e4 _ _ (e3 _ _ (e2 _ _ f0)))) (by omega)
    exact (TV.tup (TL.one a0) nt1 (k6 _ _ nt1 (e4 _ _ (e3 _ _ f2))) (by omega)).mono (Nat.le_refl _) (by omega) (by omega)
  · have a0 : TV p G6 W (k + 1) 130 (.ref t2) := (TV.tup ((TL.cons (TV.str (by decide +kernel) (by decide)) (TL.one (TV.mono (TV.int (by decide) (by decide)) (Nat.le_refl _) (Nat.le_refl _) (show 14 ≤ 60 by decide)))).mono (Nat.le_refl W) (Nat.le_refl k) (Nat.le_refl _) (Nat.le_refl _)) n2 (k6 _ _ n2 (e4 _ _ f3)) (by omega)).mono (Nat.le_refl _) (Nat.le_refl _) (by omega)
    exact (TV.tup (TL.one a0) n3 (k6 _ _ n3 f4) (by omega)).mono (Nat.le_refl _) (by omega) (by omega)
/-- x[:d] + x[e:] -/
theorem drop_ok (hx : ∀ G R, Same H G → R (.ref a) G → td σ G R) (h1 : ∀ G R, R (some d) G → th σ G R) (h2 : ∀ G R, R (some e) G → tl σ G R) (pu : Purse H p n) (na : a ≠ p) (ha : H a = some (.tup vs)) (l : vs.length ≤ 1000)
    (q : ∀ t G', Same H G' → t ≠ p → G' t = some (.tup (cutV vs none (some d) ++ cutV vs (some e) none)) → Q (.ref t) G') :
    tOp (rCatA K) (tSl (rSlA K) td tNoPart th) (tSl (rSlA K) td tl tNoPart) σ H Q := by
  refine hx _ _ (Same.refl _) (h1 _ _ (sl_ok pu na ha fun t1 G1 s1 nt1 g1 => hx _ _ s1 (h2 _ _ ?_)))
  refine noPart (sl_ok (pu.same s1) na (s1 _ _ ha) fun t2 G2 s2 nt2 g2 => ?_)
  have c1 := cutV_length vs none (some d)
  have c2 := cutV_length vs (some e) none
  exact cat_ok ((pu.same s1).same s2) nt1 (s2 _ _ g1) nt2 g2 (by omega) fun t G3 s3 nt g3 => q t G3 ((s1.trans s2).trans s3) nt g3
/-- x[:d] + (y,) + x[e:] -/
theorem put_ok (hx : ∀ G R, Kp (· ≠ p) H G → R (.ref a) G → td σ G R) (h1 : ∀ G R, R (some d) G → th σ G R) (h2 : ∀ G R, R (some e) G → tl σ G R) (pu : Purse H p n) (na : a ≠ p) (ha : H a = some (.tup vs)) (l : vs.length ≤ 1000)
    (hy : ∀ G (R : VK), Same H G → (∀ y G', Kp (· ≠ p) G G' → Purse G' p n' → TV p G' W k m y → R y G') → ty σ G R)
    (q : ∀ t y G', Kp (· ≠ p) H G' → Purse G' p n' → TV p G' W k m y → t ≠ p → G' t = some (.tup (cutV vs none (some d) ++ [y] ++ cutV vs (some e) none)) → Q (.ref t) G') :
    tOp (rCatA K) (tOp (rCatA K) (tSl (rSlA K) td tNoPart th) (tTup (tCons ty tNil))) (tSl (rSlA K) td tl tNoPart) σ H Q := by
  refine hx _ _ (fun _ _ _ h => h) (h1 _ _ (sl_ok pu na ha fun t1 G1 s1 nt1 g1 => hy _ _ s1 fun y G2 k2 p2 ty => ⟨by show 1 ≤ sizeLine; decide, fun u hu => ?_⟩))
  have nu := p2.ne hu
  have e3 : Same G2 (upd G2 u (.tup [y])) := same_new hu
  have p3 := p2.same e3
  have c1 := cutV_length vs none (some d)
  have c2 := cutV_length vs (some e) none
  refine cat_ok p3 nt1 (e3 _ _ (k2 _ _ nt1 g1)) nu upd_same (by rw [List.length_singleton]; omega) fun t4 G4 s4 nt4 g4 => ?_
  have k04 : Kp (· ≠ p) H G4 := fun x o nx h => s4 _ _ (e3 _ _ (k2 x o nx (s1 _ _ h)))
  refine hx _ _ k04 (h2 _ _ ?_)
  refine noPart (sl_ok (p3.same s4) na (k04 _ _ na ha) fun t5 G5 s5 nt5 g5 => ?_)
  refine cat_ok ((p3.same s4).same s5) nt4 (s5 _ _ g4) nt5 g5 (by rw [List.length_append, List.length_singleton]; omega) fun t G6 s6 nt g6 => ?_
  exact q t y G6 (fun x o nx h => s6 _ _ (s5 _ _ (k04 x o nx h))) (((p3.same s4).same s5).same s6) (ty.kp fun x o nx h => s6 _ _ (s5 _ _ (s4 _ _ (e3 _ _ h)))) nt g6
end
end J
end Bf

namespace Bf
open PySem PySem.Spec PyProof.Rows L2
namespace J
section
variable {K : PySem.W.Frag} {p : Addr} {n : Int} {H G : Hp} {a b g : Addr} {xs ys : List V} {Q : VK} {σ : L2.St} {E : XK} {W k m c : Nat} {far : V}
theorem seq_asg {te : TE} {g : TG} {u : TS} {D : Ends} (h : te σ H fun x H1 => g x σ H1 (u D)) : tSeq (tAsg te g) u D σ H := h
abbrev E4 (K : PySem.W.Frag) : TE := tOp (rIxT K) (tVar 4) (tC (V.int 4))
theorem ixg {R : VK} (hσ : σ[4]? = some (some (.ref b))) (hb : G b = some (.tup xs)) (hx : xs[4]? = some (.ref g)) (r : R (.ref g) G) : E4 K σ G R :=
  ⟨_, hσ, b, _, ((4 : Nat) : Int), .ref g, rfl, rfl, SqT.of hb, atI_nat hx, r⟩
theorem TL.rep2 {L : Nat} (h : TL p G W k m L ys) : TL p G W k (2 * m) (2 * L) (List.replicate (2 : Int).toNat ys).flatten := by
  rw [show (List.replicate (2 : Int).toNat ys).flatten = ys ++ ys by show (List.replicate 2 ys).flatten = _; simp [List.replicate, List.flatten]]
  exact (h.app h).mono (Nat.le_refl _) (Nat.le_refl _) (by omega) (by omega)
theorem tc_of {v : V} {R : VK} (h : R v G) : tC v σ G R := h
set_option maxHeartbeats 2000000 in
theorem args_ok (hσ : σ[4]? = some (some (.ref b))) (pu : Purse G p n) (hb : G b = some (.tup xs)) (nb : b ≠ p) (hx : xs[4]? = some (.ref g)) (ng : g ≠ p) (gg : G g = some (.tup ys)) (t : TL p G W k m c ys) (hc : c ≤ 400) (hW : 2 * c + 2 ≤ W)
    (q : ∀ L G' six, Same G G' → L ≠ p → G' L = some (.lst six) → six.length = 6 → (∀ y ∈ six, TV p G' W (k + 1) (2 * m + 100) y) → Q (.ref L) G') :
    tLst (tCons (tOp (rCatA K) (E4 K) (tSl (rSlA K) (E4 K) tNoPart (tPart (tC (V.int 1))))) (tCons (tOp (rCatA K) (E4 K) (tTup (tCons (tC (V.int 0)) tNil))) (tCons (tSl (rSlA K) (E4 K) tNoPart (tPart (tUn (rU fun i => V.int (-i)) (tC (V.int 1)))))
      (tCons (tOp (rRepA K) (E4 K) (tC (V.int 2))) (tCons (tTup (tCons (tC (V.int 0)) (tCons (tC (V.int 0)) tNil))) (tCons (tTup (tCons (tC (V.int 0)) tNil)) tNil)))))) σ G Q := by
  have ly : ys.length ≤ c := by obtain ⟨_, _, _, _, l⟩ := t; exact l
  have z14 : ∀ {G' : Hp} {i : Nat}, TV p G' W i 14 (.int 0) := fun {_ _} => TV.int (by decide) (by decide)
  refine ixg hσ hb hx (ixg hσ hb hx ⟨1, rfl, sl_ok pu ng gg fun t1 G1 s1 nt1 g1 => cat_ok (pu.same s1) ng (s1 _ _ gg) nt1 g1 (by have := cutV_length ys none (some 1); omega) fun t2 G2 s2 nt2 g2 => ?_⟩)
  have s02 := s1.trans s2
  refine ixg hσ (s02 _ _ hb) hx ⟨by show 1 ≤ sizeLine; decide, fun u hu => cat_ok ((pu.same s02).same (same_new hu)) ng ((same_new hu) _ _ (s02 _ _ gg)) ((pu.same s02).ne hu) upd_same (by rw [List.length_singleton]; omega) fun t3 G3 s3' nt3 g3 => ?_⟩
  have s3 := (same_new (o := .tup [.int 0]) hu).trans s3'
  have s03 := s02.trans s3
  refine ixg hσ (s03 _ _ hb) hx ⟨1, rfl, -1, rfl, sl_ok (pu.same s03) ng (s03 _ _ gg) fun t4 G4 s4 nt4 g4 => ?_⟩
  have s04 := s03.trans s4
  refine ixg hσ (s04 _ _ hb) hx (tc_of (rep_ok (c := 2) (pu.same s04) ng (s04 _ _ gg) (by decide) (by decide) (by omega) fun t5 G5 s5 nt5 g5 => ?_))
  have s05 := s04.trans s5
  refine ⟨by show 2 ≤ sizeLine; decide, fun t6 h6 => ?_⟩
  have nt6 := (pu.same s05).ne h6
  have s6 : Same G5 (upd G5 t6 (.tup [.int 0, .int 0])) := same_new h6
  have g6 : (upd G5 t6 (.tup [.int 0, .int 0])) t6 = some (.tup [.int 0, .int 0]) := upd_same
  generalize upd G5 t6 (.tup [.int 0, .int 0]) = G6 at s6 g6
  have s06 := s05.trans s6
  refine ⟨by show 1 ≤ sizeLine; decide, fun t7 h7 => ?_⟩
  have nt7 := (pu.same s06).ne h7
  have s7 : Same G6 (upd G6 t7 (.tup [.int 0])) := same_new h7
  have g7 : (upd G6 t7 (.tup [.int 0])) t7 = some (.tup [.int 0]) := upd_same
  generalize upd G6 t7 (.tup [.int 0]) = G7 at s7 g7
  have s07 := s06.trans s7
  refine ⟨by show 6 ≤ sizeLine; decide, fun L hL => ?_⟩
  have nL := (pu.same s07).ne hL
  have s8 : Same G7 (upd G7 L (.lst [.ref t2, .ref t3, .ref t4, .ref t5, .ref t6, .ref t7])) := same_new hL
  have s08 := s07.trans s8
  have t' := t.kp (kp_same s08)
  have s58 := (s6.trans s7).trans s8
  refine q L _ _ s08 nL upd_same rfl (fun y my => ?_)
  simp only [List.mem_cons, List.not_mem_nil, or_false] at my
  rcases my with rfl | rfl | rfl | rfl | rfl | rfl
  · exact (TV.tup (t'.app (t'.cut none (some 1))) nt2 (s58 _ _ (s5 _ _ (s4 _ _ (s3 _ _ g2)))) (by omega)).mono (Nat.le_refl _) (Nat.le_refl _) (by omega)
  · exact (TV.tup (t'.app (TL.one z14)) nt3 (s58 _ _ (s5 _ _ (s4 _ _ g3))) (by omega)).mono (Nat.le_refl _) (Nat.le_refl _) (by omega)
  · exact (TV.tup (t'.cut none (some (-1))) nt4 (s58 _ _ (s5 _ _ g4)) (by omega)).mono (Nat.le_refl _) (Nat.le_refl _) (by omega)
  · exact (TV.tup t'.rep2 nt5 (s58 _ _ g5) (by omega)).mono (Nat.le_refl _) (Nat.le_refl _) (by omega)
  · exact (TV.tup (TL.cons z14 (TL.one z14)) nt6 (s8 _ _ (s7 _ _ g6)) (by omega)).mono (Nat.le_refl _) (Nat.le_refl _) (by omega)
  · exact (TV.tup (TL.one z14) nt7 (s8 _ _ g7) (by omega)).mono (Nat.le_refl _) (Nat.le_refl _) (by omega)
set_option maxHeartbeats 2000000 in
theorem args2_ok {six : List V} {L : Addr} (hσ : σ[4]? = some (some (.ref b))) (h0 : σ[0]? = some (some (.ref p))) (hf : σ[10]? = some (some far)) (h11 : σ[11]? = some (some (.ref L))) (pu : Purse G p n) (hn : n ≤ 99900) (hb : G b = some (.tup xs)) (hx : xs[4]? = some (.ref g)) (ng : g ≠ p) (gg : G g = some (.tup ys)) (t : TL p G W k m c ys) (hc : c ≤ 400) (hW : 2 * c + 2 ≤ W)
    (tf : TV p G W k 14 far) (hL : G L = some (.lst six)) (h6 : six.length = 6) (ts : ∀ y ∈ six, TV p G W (k + 1) (2 * m + 100) y)
    (q : ∀ y G', Kp (· ≠ p) G G' → Purse G' p (n + 1) → TV p G' W (k + 1) (2 * m + 100) y → Q y G') :
    tOp (rIxL K) (tOp rCatN (tVar 11) (tOp rRepN (tLst (tCons (tOp (rCatA K) (tTup (tCons (tVar 10) tNil)) (tSl (rSlA K) (E4 K) (tPart (tC (V.int 1))) tNoPart)) (tCons (tOp (rCatA K) (tSl (rSlA K) (E4 K) tNoPart (tPart (tUn (rU fun i => V.int (-i)) (tC (V.int 1))))) (tTup (tCons (tVar 10) tNil))) tNil))) (tC (V.int 3))))
      (tCall spTake [] E (tCons (tVar 0) (tCons (tC (V.int 12)) tNil))) σ G Q := by
  have ly : ys.length ≤ c := by obtain ⟨_, _, _, _, l⟩ := t; exact l
  refine ⟨_, h11, _, hf, by show 1 ≤ sizeLine; decide, fun t1 h1 => ixg hσ ((same_new h1) _ _ hb) hx ⟨1, rfl, noPart (sl_ok (pu.same (same_new h1)) ng ((same_new h1) _ _ gg) fun t2 G2 s2 nt2 g2 => ?_)⟩⟩
  have nt1 := pu.ne h1
  have s1 : Same G (upd G t1 (.tup [far])) := same_new h1
  have s02 := s1.trans s2
  refine cat_ok (pu.same s02) nt1 (s2 _ _ upd_same) nt2 g2 (by rw [List.length_singleton]; have := cutV_length ys (some 1) none; omega) fun t3 G3 s3 nt3 g3 => ?_
  have s03 := s02.trans s3
  refine ixg hσ (s03 _ _ hb) hx ⟨1, rfl, -1, rfl, sl_ok (pu.same s03) ng (s03 _ _ gg) fun t4 G4 s4 nt4 g4 => ⟨_, hf, by show 1 ≤ sizeLine; decide, fun u hu => ?_⟩⟩
  have s04 := s03.trans s4
  have p4 := pu.same s04
  refine cat_ok (p4.same (same_new hu)) nt4 ((same_new hu) _ _ g4) (p4.ne hu) upd_same (by rw [List.length_singleton]; have := cutV_length ys none (some (-1)); omega) fun t5 G5 s5' nt5 g5 => ?_
  have s5 := (same_new (o := .tup [far]) hu).trans s5'
  have s05 := s04.trans s5
  refine ⟨by show 2 ≤ sizeLine; decide, fun l1 hl1 => ⟨l1, 3, _, rfl, rfl, upd_same, by decide, by decide, by show 2 * 3 ≤ sizeLine; decide, fun l2 hl2 _ => ?_⟩⟩
  have s6 : Same G5 (upd G5 l1 (.lst [.ref t3, .ref t5])) := same_new hl1
  generalize upd G5 l1 (.lst [.ref t3, .ref t5]) = G6 at s6 hl2
  have s7 : Same G6 (upd G6 l2 (.lst (List.replicate (3 : Int).toNat [V.ref t3, .ref t5]).flatten)) := same_new hl2
  have f7 : (upd G6 l2 (.lst (List.replicate (3 : Int).toNat [V.ref t3, .ref t5]).flatten)) l2 = some (.lst (List.replicate (3 : Int).toNat [V.ref t3, .ref t5]).flatten) := upd_same
  generalize upd G6 l2 (.lst (List.replicate (3 : Int).toNat [V.ref t3, .ref t5]).flatten) = G7 at s7 f7
  have s07 := (s05.trans s6).trans s7
  have l12 : (six ++ (List.replicate (3 : Int).toNat [V.ref t3, .ref t5]).flatten).length = 12 := by
    rw [List.length_append, h6]
    rfl
  refine ⟨L, l2, _, _, rfl, rfl, s07 _ _ hL, f7, by rw [← List.length_append, l12]; decide, fun l3 hl3 _ => ?_⟩
  have p7 := pu.same s07
  have nl3 := p7.ne hl3
  have s8 : Same G7 (upd G7 l3 (.lst (six ++ (List.replicate (3 : Int).toNat [V.ref t3, .ref t5]).flatten))) := same_new hl3
  have f8 : (upd G7 l3 (.lst (six ++ (List.replicate (3 : Int).toNat [V.ref t3, .ref t5]).flatten))) l3 = some (.lst (six ++ (List.replicate (3 : Int).toNat [V.ref t3, .ref t5]).flatten)) := upd_same
  generalize upd G7 l3 (.lst (six ++ (List.replicate (3 : Int).toNat [V.ref t3, .ref t5]).flatten)) = G8 at s8 f8
  refine take_ok (i := 0) h0 (p7.same s8) (by omega) (by decide) (by decide) fun d G9 d0 d1 k9 p9 => ?_
  obtain ⟨y, my, ey⟩ := pick (xs := six ++ (List.replicate (3 : Int).toNat [V.ref t3, .ref t5]).flatten) d0 (by rw [l12]; exact d1)
  have k09 : Kp (· ≠ p) G G9 := (kp_same (s07.trans s8)).trans k9
  have t' := t.kp k09
  have tf' := tf.kp k09
  refine ⟨l3, _, d, y, rfl, rfl, SqL.of (k9 _ _ nl3 f8), ey, q y G9 k09 p9 ?_⟩
  have s58 := (s6.trans s7).trans s8
  rcases List.mem_append.mp my with my | my
  · exact (ts y my).kp k09
  · have my : y = .ref t3 ∨ y = .ref t5 := by
      obtain ⟨l, ml, my⟩ := List.mem_flatten.mp my
      obtain rfl := (List.mem_replicate.mp ml).2
      simpa only [List.mem_cons, List.not_mem_nil, or_false] using my
    rcases my with rfl | rfl
    · exact (TV.tup ((TL.one tf').app (t'.cut (some 1) none)) nt3 (k9 _ _ nt3 (s58 _ _ (s5 _ _ (s4 _ _ g3)))) (by omega)).mono (Nat.le_refl _) (Nat.le_refl _) (by omega)
    · exact (TV.tup ((t'.cut none (some (-1))).app (TL.one tf')) nt5 (k9 _ _ nt5 (s58 _ _ g5)) (by omega)).mono (Nat.le_refl _) (Nat.le_refl _) (by omega)
end
end J
end Bf

namespace Bf
open PySem PySem.Spec PyProof.Rows L2
namespace J
section
variable {P : Program} {w : World} {K : PySem.W.Frag} {mg : Str → Option Value} {base : Heap}
def spBent : Sp := fun vs H Q _ => ∃ (p sm : Addr) (n : Int) (z : Rm) (v : V) (c k m : Nat), vs = [.ref p, v, .ref sm] ∧ Purse H p n ∧ n ≤ 99000 ∧ H sm = some (.lst z.list) ∧ (Zok z) ∧ TV p H c k m v ∧ (12 ≤ c ∧ c ≤ 400) ∧
  ∀ v' G, TV p G (2 * c + 2) (k + 2) (8 * m + 5000) v' → Kp (· ≠ p) H G → Purse G p (n + 12) → Q v' G
abbrev nBent : List Str := ["_law_box_here", "_law_steps", "_law_sizes", "_law_at", "_law_step_here", "_law_place", "_law_way", "_law_odd", "_law_words", "_law_word", "_law_far", "_law_args"]
abbrev pBent : List Str := ["_law_box_here", "_law_steps", "_law_sizes"]
theorem scBent : FnScope nBent pBent (defScope sBent) := ⟨rfl, rfl, rfl, by decide +kernel, rfl, by decide +kernel, by decide +kernel⟩
set_option maxHeartbeats 4000000 in
theorem ok_bent {f ft : Addr} {fd dt : FuncData} (F : Fun K "_law_bent" "_law_bent" sBent f fd) (L : Bi mg) (DT : Df K mg "_law_take" ft dt pTake) (GT : FnOk P w K mg base CX0 1 ft dt pTake spTake) : FnOk P w K mg base CX0 2 f fd pBent spBent := by
  refine F.ok scBent (fun vs H Q E h => ?_) (fun cdv A outer s H vs Q E hr h => ?_)
  · obtain ⟨p, sm, n, z, v, c, k, m, rfl, _⟩ := h
    rfl
  · obtain ⟨p, sm, n, z, v, c, k, m, rfl, pu, hn, hm, zok, tv, ⟨hc12, hc⟩, q⟩ := h
    have hr1 := hr.mono (by decide : 1 ≤ 1)
    refine ⟨_, (pss_cons (ps_if (PW.pt (pw_or (pt_not (pt_val (pe_callB call_isi (by rfl) L.mi (by decide +kernel) (pa_cons (pv 1) (pa_cons (pe_bltn (v := .ty "tuple") (by rfl) L.mt (by decide +kernel) rfl) pa_nil))))) (pw_or1 (pt_cmpR (op_eqNilT hr.units) (pv 1) (pe_tup pa_nil) (nomark _))))) (pss_one (ps_ret (pe_ix ix_list (pe_lst (pa_cons (pe_lst pa_nil) (pa_cons pe_non (pa_cons (pe_tup (pa_cons (pe_tup pa_nil) pa_nil)) (pa_cons (pe_tup (pa_cons (pe_tup (pa_cons pe_str (pa_cons pe_int pa_nil))) pa_nil)) pa_nil))))) (pe_call GT hr1 (by rfl) DT.at_ DT.kp DT.bd .nil pass0 (pa_cons (pv 0) (pa_cons pe_int pa_nil))) (fun _ _ => rfl)))) pss_nil)
        (pss_cons (ps_set (i := 3) scBent.nd rfl (Or.inl rfl) (pe_call GT hr1 (by rfl) DT.at_ DT.kp DT.bd .nil pass0 (pa_cons (pv 0) (pa_cons (pe_callB call_len_seq (by rfl) L.ml PySem.boot_len (pa_cons (pv 1) pa_nil)) pa_nil))))
        (pss_cons (ps_set (i := 4) scBent.nd rfl (Or.inl rfl) (pe_ix ix_tup (pv 1) (pv 3) (fun _ _ => rfl)))
        (pss_cons (ps_if (PW.pt (pw_or (pt_not (pt_val (pe_callB call_isi (by rfl) L.mi (by decide +kernel) (pa_cons (pv 4) (pa_cons (pe_bltn (v := .ty "tuple") (by rfl) L.mt (by decide +kernel) rfl) pa_nil))))) (pw_or1 (pt_cmpR (op_eqNilT hr.units) (pv 4) (pe_tup pa_nil) (nomark _))))) (pss_one (ps_ret (pe_op op_catA (pe_slice sl_tupA (pv 1) po_none (po_some (pv 3))) (pe_slice sl_tupA (pv 1) (po_some (pe_op op_add (pv 3) pe_int)) po_none)))) pss_nil)
        (pss_cons (ps_set (i := 5) scBent.nd rfl (Or.inl rfl) (pe_call GT hr1 (by rfl) DT.at_ DT.kp DT.bd .nil pass0 (pa_cons (pv 0) (pa_cons (pe_callB call_len_seq (by rfl) L.ml PySem.boot_len (pa_cons (pv 4) pa_nil)) pa_nil))))
        (pss_cons (ps_set (i := 6) scBent.nd rfl (Or.inl rfl) (pe_call GT hr1 (by rfl) DT.at_ DT.kp DT.bd .nil pass0 (pa_cons (pv 0) (pa_cons pe_int pa_nil))))
        (pss_cons (ps_set (i := 7) scBent.nd rfl (Or.inl rfl) (pe_lst (pa_cons (pe_un un_neg pe_int) (pa_cons (pe_ix ix_list (pv 2) pe_int (fun _ _ => rfl)) (pa_cons (pe_ix ix_list (pv 2) pe_int (fun _ _ => rfl)) (pa_cons (pe_ix ix_list (pv 2) pe_int (fun _ _ => rfl)) (pa_cons (pe_ix ix_list (pv 2) pe_int (fun _ _ => rfl)) (pa_cons pe_bl (pa_cons pe_non (pa_cons pe_str (pa_cons pe_int (pa_cons pe_int (pa_cons (pe_tup (pa_cons pe_int pa_nil)) (pa_cons (pe_lst (pa_cons pe_int pa_nil)) (pa_cons (pe_tup (pa_cons pe_int (pa_cons (pe_ix ix_list (pv 2) pe_int (fun _ _ => rfl)) pa_nil))) (pa_cons pe_int (pa_cons pe_int pa_nil)))))))))))))))))
        (Evl.pss_cut (ps_if (pt_cmpR op_lt (pv 6) pe_int (nomark _)) (pss_one (ps_set (i := 4) scBent.nd rfl (Or.inl rfl) (pe_op op_catA (pe_op op_catA (pe_slice sl_tupA (pv 4) po_none (po_some (pv 5))) (pe_tup (pa_cons (pe_ix ix_list (pv 7) (pe_call GT hr1 (by rfl) DT.at_ DT.kp DT.bd .nil pass0 (pa_cons (pv 0) (pa_cons pe_int pa_nil))) (fun _ _ => rfl)) pa_nil))) (pe_slice sl_tupA (pv 4) (po_some (pe_op op_add (pv 5) pe_int)) po_none)))) (pss_one (ps_if (pt_cmpR op_eq (pv 6) pe_int (nomark _)) (pss_one (ps_set (i := 4) scBent.nd rfl (Or.inl rfl) (pe_op op_catA (pe_slice sl_tupA (pv 4) po_none (po_some (pv 5))) (pe_slice sl_tupA (pv 4) (po_some (pe_op op_add (pv 5) pe_int)) po_none)))) (pss_one (ps_if (pt_cmpR op_eq (pv 6) pe_int (nomark _)) (pss_one (ps_set (i := 4) scBent.nd rfl (Or.inl rfl) (pe_op op_catA (pv 4) (pe_tup (pa_cons pe_int pa_nil))))) (pss_one (ps_if (PW.pt (pw_and (pt_cmpR op_eq (pv 6) pe_int (nomark _)) (pw_and1 (pt_cmpR (op_inW hr.units) (pe_ix ix_tup (pv 4) pe_int (fun _ _ => rfl)) (pe_tup (pa_cons pe_str (pa_cons pe_str pa_nil))) (by rfl))))) (pss_one (ps_set (i := 4) scBent.nd rfl (Or.inl rfl) (pe_op op_catA (pe_slice sl_tupA (pv 4) po_none (po_some (pe_un un_neg pe_int))) (pe_tup (pa_cons (pe_op op_sub (pe_callB call_len_seq (by rfl) L.ml PySem.boot_len (pa_cons (pv 1) pa_nil)) (pv 3)) pa_nil))))) (pss_one (ps_if (pt_cmpR op_eq (pv 6) pe_int (nomark _)) (pss_cons (ps_set (i := 8) scBent.nd rfl (Or.inl rfl) (pe_lst (pa_cons pe_str (pa_cons pe_str (pa_cons pe_str (pa_cons pe_str (pa_cons pe_str (pa_cons pe_str (pa_cons pe_str (pa_cons pe_str (pa_cons pe_str (pa_cons pe_str (pa_cons pe_str pa_nil)))))))))))))
        (pss_one (ps_set (i := 4) scBent.nd rfl (Or.inl rfl) (pe_op op_catA (pe_tup (pa_cons (pe_ix ix_list (pv 8) (pe_call GT hr1 (by rfl) DT.at_ DT.kp DT.bd .nil pass0 (pa_cons (pv 0) (pa_cons pe_int pa_nil))) (fun _ _ => rfl)) pa_nil)) (pe_slice sl_tupA (pv 4) (po_some pe_int) po_none))))) (pss_one (ps_if (pt_cmpR op_eq (pv 6) pe_int (nomark _)) (pss_one (ps_ret (pe_ix ix_list (pe_lst (pa_cons (pe_slice sl_tupA (pv 1) po_none (po_some (pe_un un_neg pe_int))) (pa_cons (pe_callTy call_list_of (by rfl) L.mL (by decide +kernel) (pa_cons (pv 1) pa_nil)) (pa_cons (pe_op op_catA (pv 1) (pe_tup (pa_cons pe_str pa_nil))) (pa_cons (pe_op op_catA (pv 1) (pe_slice sl_tupA (pv 1) po_none (po_some pe_int))) (pa_cons (pe_tup (pa_cons (pv 1) pa_nil)) pa_nil)))))) (pe_call GT hr1 (by rfl) DT.at_ DT.kp DT.bd .nil pass0 (pa_cons (pv 0) (pa_cons pe_int pa_nil))) (fun _ _ => rfl)))) (pss_one (ps_if (PW.pt (pw_and (pt_cmpR (op_eqS hr.units) (pe_ix ix_tup (pv 4) pe_int (fun _ _ => rfl)) pe_str (nomark _)) (pw_and (pt_cmpR op_eq (pe_callB call_len_seq (by rfl) L.ml PySem.boot_len (pa_cons (pv 4) pa_nil)) pe_int (nomark _)) (pw_and (pt_val (pe_callB call_isi (by rfl) L.mi (by decide +kernel) (pa_cons (pe_ix ix_tup (pv 4) pe_int (fun _ _ => rfl)) (pa_cons (pe_bltn (v := .ty "tuple") (by rfl) L.mt (by decide +kernel) rfl) pa_nil)))) (pw_and1 (pt_cmpR op_gt (pe_call GT hr1 (by rfl) DT.at_ DT.kp DT.bd .nil pass0 (pa_cons (pv 0) (pa_cons pe_int pa_nil))) pe_int (nomark _))))))) (pss_cons (ps_set (i := 9) scBent.nd rfl (Or.inl rfl) (pe_ix ix_list (pe_lst (pa_cons pe_str (pa_cons pe_str (pa_cons pe_str (pa_cons pe_str (pa_cons pe_str pa_nil)))))) (pe_call GT hr1 (by rfl) DT.at_ DT.kp DT.bd .nil pass0 (pa_cons (pv 0) (pa_cons pe_int pa_nil))) (fun _ _ => rfl)))
        (pss_cons (ps_set (i := 10) scBent.nd rfl (Or.inl rfl) (pe_ix ix_list (pe_lst (pa_cons (pe_ix ix_list (pv 2) pe_int (fun _ _ => rfl)) (pa_cons (pe_un un_neg pe_int) (pa_cons pe_bl (pa_cons pe_non pa_nil))))) (pe_call GT hr1 (by rfl) DT.at_ DT.kp DT.bd .nil pass0 (pa_cons (pv 0) (pa_cons pe_int pa_nil))) (fun _ _ => rfl)))
        (pss_cons (ps_set (i := 11) scBent.nd rfl (Or.inl rfl) (pe_lst (pa_cons (pe_op op_catA (pe_ix ix_tup (pv 4) pe_int (fun _ _ => rfl)) (pe_slice sl_tupA (pe_ix ix_tup (pv 4) pe_int (fun _ _ => rfl)) po_none (po_some pe_int))) (pa_cons (pe_op op_catA (pe_ix ix_tup (pv 4) pe_int (fun _ _ => rfl)) (pe_tup (pa_cons pe_int pa_nil))) (pa_cons (pe_slice sl_tupA (pe_ix ix_tup (pv 4) pe_int (fun _ _ => rfl)) po_none (po_some (pe_un un_neg pe_int))) (pa_cons (pe_op op_repA (pe_ix ix_tup (pv 4) pe_int (fun _ _ => rfl)) pe_int) (pa_cons (pe_tup (pa_cons pe_int (pa_cons pe_int pa_nil))) (pa_cons (pe_tup (pa_cons pe_int pa_nil)) pa_nil))))))))
        (pss_cons (ps_set (i := 11) scBent.nd rfl (Or.inl rfl) (pe_ix ix_list (pe_op op_catN (pv 11) (pe_op op_repN (pe_lst (pa_cons (pe_op op_catA (pe_tup (pa_cons (pv 10) pa_nil)) (pe_slice sl_tupA (pe_ix ix_tup (pv 4) pe_int (fun _ _ => rfl)) (po_some pe_int) po_none)) (pa_cons (pe_op op_catA (pe_slice sl_tupA (pe_ix ix_tup (pv 4) pe_int (fun _ _ => rfl)) po_none (po_some (pe_un un_neg pe_int))) (pe_tup (pa_cons (pv 10) pa_nil))) pa_nil))) pe_int)) (pe_call GT hr1 (by rfl) DT.at_ DT.kp DT.bd .nil pass0 (pa_cons (pv 0) (pa_cons pe_int pa_nil))) (fun _ _ => rfl)))
        (pss_one (ps_set (i := 4) scBent.nd rfl (Or.inl rfl) (pe_ix ix_list (pe_lst (pa_cons (pe_op op_catA (pe_op op_catA (pe_slice sl_tupA (pv 4) po_none (po_some pe_int)) (pe_tup (pa_cons (pv 11) pa_nil))) (pe_slice sl_tupA (pv 4) (po_some pe_int) po_none)) (pa_cons (pe_op op_catA (pe_op op_catA (pe_slice sl_tupA (pv 4) po_none (po_some pe_int)) (pe_tup (pa_cons (pv 9) pa_nil))) (pe_slice sl_tupA (pv 4) (po_some pe_int) po_none)) pa_nil))) (pe_call GT hr1 (by rfl) DT.at_ DT.kp DT.bd .nil pass0 (pa_cons (pv 0) (pa_cons pe_int pa_nil))) (fun _ _ => rfl)))))))) (pss_one (ps_set (i := 4) scBent.nd rfl (Or.inl rfl) (pe_callTy call_list_of (by rfl) L.mL (by decide +kernel) (pa_cons (pv 4) pa_nil)))))))))))))))))
        (pss_one (ps_ret (pe_op op_catA (pe_op op_catA (pe_slice sl_tupA (pv 1) po_none (po_some (pv 3))) (pe_tup (pa_cons (pv 4) pa_nil))) (pe_slice sl_tupA (pv 1) (po_some (pe_op op_add (pv 3) pe_int)) po_none)))))))))))), ?_⟩
    have nsm := sz_ne hm pu
    obtain ⟨⟨r1, r2⟩, ⟨c1, c2⟩, ⟨i1, i2⟩, ⟨o1, o2⟩⟩ := zok
    rcases tv.look (K := K) with ⟨ty, hty, hk⟩ | ⟨a, vs, j, rfl, na, ga, rfl, tl⟩
    · refine ⟨_, rfl, v, .ty "tuple", _, _, _, rfl, .ty "tuple", hty, hk, _, rfl, iteT ?_⟩
      exact stock_ok (W := 2 * c + 2) (k := k) rfl pu (by omega) (by omega) fun v' G t' k' p' => q v' G (t'.mono (Nat.le_refl _) (Nat.le_refl _) (by omega)) k' (p'.mono (by omega))
    refine ⟨_, rfl, .ref a, .ty "tuple", _, _, true, rfl, .ty "tuple", .base (.tup ga), kit_ty (by decide +kernel), _, rfl, iteF ?_⟩
    refine ⟨_, rfl, by show 0 ≤ sizeLine; decide, fun p0 hp0 => ⟨a, p0, vs, rfl, rfl, SqT.of ((same_new hp0) _ _ ga), SqT.of upd_same, _, rfl, ?_⟩⟩
    have e0 : Same H (upd H p0 (.tup [])) := same_new hp0
    generalize upd H p0 (.tup []) = G0 at e0
    have pu0 := pu.same e0
    have k0 : Kp (· ≠ p) H G0 := kp_same e0
    have lv : vs.length ≤ c := by obtain ⟨_, _, _, _, l⟩ := tl; exact l
    cases vs with
    | nil =>
      refine iteT ?_
      exact stock_ok (W := 2 * c + 2) (k := j + 1) rfl pu0 (by omega) (by omega) fun v' G t' k' p' => q v' G (t'.mono (Nat.le_refl _) (by omega) (by omega)) (k0.trans k') (p'.mono (by omega))
    | cons v0 vr =>
    refine iteF ?_
    have ga0 := e0 _ _ ga
    have lv1 : 1 ≤ (v0 :: vr).length := by rw [List.length_cons]; omega
    refine ⟨_, rfl, _, rfl, a, _, rfl, .inr (SqT.of ga0), p, _, n, rfl, pu0, by omega, by omega, by omega, fun at_ G1 d0 d1 pu1 eq1 => ?_⟩
    have k1 := k0.trans (kp_take eq1)
    have ga1 := k1 _ _ na ga
    obtain ⟨x, mx, ex⟩ := pick (xs := v0 :: vr) d0 d1
    refine ⟨_, rfl, _, rfl, a, _, at_, x, rfl, rfl, SqT.of ga1, ex, ?_⟩
    dsimp only [gName]
    have tx := (tl.kp k1).mem mx
    have tlW : TL p G1 (2 * c + 2) j m c (v0 :: vr) := (tl.kp k1).mono (by omega) (Nat.le_refl _) (Nat.le_refl _) (Nat.le_refl _)
    rcases tx.look (K := K) with ⟨ty, hty, hk⟩ | ⟨b, xs, i, rfl, nb, gb, rfl, tx'⟩
    · refine ⟨_, rfl, x, .ty "tuple", _, _, _, rfl, .ty "tuple", hty, hk, _, rfl, iteT ?_⟩
      refine drop_ok (a := a) (fun G R s h => ⟨_, rfl, h⟩) (fun G R h => ⟨_, rfl, at_, rfl, h⟩) (fun G R h => ⟨_, rfl, _, _, rfl, rfl, at_ + 1, rfl, h⟩) pu1 na ga1 (by omega) fun t G' s nt gt => ?_
      have tl' := (tlW.kp (kp_same s))
      exact q _ _ ((TV.tup ((tl'.cut none (some at_)).app (tl'.cut (some (at_ + 1)) none)) nt gt (by omega)).mono (Nat.le_refl _) (by omega) (by omega)) (k1.trans (kp_same s)) ((pu1.same s).mono (by omega))
    refine ⟨_, rfl, .ref b, .ty "tuple", _, _, true, rfl, .ty "tuple", .base (.tup gb), kit_ty (by decide +kernel), _, rfl, iteF ?_⟩
    refine ⟨_, rfl, by show 0 ≤ sizeLine; decide, fun p2 hp2 => ⟨b, p2, xs, rfl, rfl, SqT.of ((same_new hp2) _ _ gb), SqT.of upd_same, _, rfl, ?_⟩⟩
    have e2 : Same G1 (upd G1 p2 (.tup [])) := same_new hp2
    generalize upd G1 p2 (.tup []) = G2 at e2
    have pu2 := pu1.same e2
    have k2 := k1.trans (kp_same e2)
    have lx : xs.length ≤ c := by obtain ⟨_, _, _, _, l⟩ := tx'; exact l
    have ga2 := e2 _ _ ga1
    have gb2 := e2 _ _ gb
    cases xs with
    | nil =>
      refine iteT ?_
      refine drop_ok (a := a) (fun G R s h => ⟨_, rfl, h⟩) (fun G R h => ⟨_, rfl, at_, rfl, h⟩) (fun G R h => ⟨_, rfl, _, _, rfl, rfl, at_ + 1, rfl, h⟩) pu2 na ga2 (by omega) fun t G' s nt gt => ?_
      have tl' := (tlW.kp (kp_same (e2.trans s)))
      exact q _ _ ((TV.tup ((tl'.cut none (some at_)).app (tl'.cut (some (at_ + 1)) none)) nt gt (by omega)).mono (Nat.le_refl _) (by omega) (by omega)) (k2.trans (kp_same s)) ((pu2.same s).mono (by omega))
    | cons x0 xr =>
    refine iteF ?_
    have lx1 : 1 ≤ (x0 :: xr).length := by rw [List.length_cons]; omega
    refine ⟨_, rfl, _, rfl, b, _, rfl, .inr (SqT.of gb2), p, _, _, rfl, pu2, by omega, by omega, by omega, fun pl G3 p0' p1' pu3 eq3 => ?_⟩
    have k3' : Kp (· ≠ p) G2 G3 := kp_take eq3
    dsimp only [gName]
    refine take_ok (i := 0) rfl pu3 (by omega) (by decide) (by decide) (fun way G4 w0 w1 k4' pu4 => ?_)
    have k24 := k3'.trans k4'
    have k4 := k2.trans k24
    have hm4 := k4 _ _ nsm hm
    -- the odd things
    have hmS : ∀ {G}, Same G4 G → SqL K G sm z.list := fun s => SqL.of (s _ _ hm4)
    refine ⟨1, rfl, _, rfl, sm, _, 0, _, rfl, rfl, hmS (Same.refl _), rfl, _, rfl, sm, _, 1, _, rfl, rfl, hmS (Same.refl _), rfl, _, rfl, sm, _, 2, _, rfl, rfl, hmS (Same.refl _), rfl, _, rfl, sm, _, 3, _, rfl, rfl, hmS (Same.refl _), rfl, by show 1 ≤ sizeLine; decide, fun u1 hu1 => ?_⟩
    have nu1 := pu4.ne hu1
    have s5 : Same G4 (upd G4 u1 (.tup [.int 0])) := same_new hu1
    have f5 : (upd G4 u1 (.tup [.int 0])) u1 = some (.tup [.int 0]) := upd_same
    generalize upd G4 u1 (.tup [.int 0]) = G5 at s5 f5
    refine ⟨by show 1 ≤ sizeLine; decide, fun u2 hu2 => ?_⟩
    have nu2 := (pu4.same s5).ne hu2
    have s6 : Same G5 (upd G5 u2 (.lst [.int 0])) := same_new hu2
    have f6 : (upd G5 u2 (.lst [.int 0])) u2 = some (.lst [.int 0]) := upd_same
    generalize upd G5 u2 (.lst [.int 0]) = G6 at s6 f6
    refine ⟨_, rfl, sm, _, 0, _, rfl, rfl, hmS (s5.trans s6), rfl, by show 2 ≤ sizeLine; decide, fun u3 hu3 => ?_⟩
    have nu3 := ((pu4.same s5).same s6).ne hu3
    have s7 : Same G6 (upd G6 u3 (.tup [.int 0, .int z.r])) := same_new hu3
    have f7 : (upd G6 u3 (.tup [.int 0, .int z.r])) u3 = some (.tup [.int 0, .int z.r]) := upd_same
    generalize upd G6 u3 (.tup [.int 0, .int z.r]) = G7 at s7 f7
    refine ⟨by show 15 ≤ sizeLine; decide, fun od hod => ?_⟩
    have pu7 := ((pu4.same s5).same s6).same s7
    have nod := pu7.ne hod
    have s8 : Same G7 (upd G7 od (.lst [.int (-1), .int z.r, .int z.c, .int z.i, .int z.o, .bl true, .non, .str "0", .int 256, .int 9, .ref u1, .ref u2, .ref u3, .int 0, .int 1])) := same_new hod
    have f8 : (upd G7 od (.lst [.int (-1), .int z.r, .int z.c, .int z.i, .int z.o, .bl true, .non, .str "0", .int 256, .int 9, .ref u1, .ref u2, .ref u3, .int 0, .int 1])) od = some (.lst [.int (-1), .int z.r, .int z.c, .int z.i, .int z.o, .bl true, .non, .str "0", .int 256, .int 9, .ref u1, .ref u2, .ref u3, .int 0, .int 1]) := upd_same
    generalize upd G7 od (.lst [.int (-1), .int z.r, .int z.c, .int z.i, .int z.o, .bl true, .non, .str "0", .int 256, .int 9, .ref u1, .ref u2, .ref u3, .int 0, .int 1]) = G8 at s8 f8
    have s48 := ((s5.trans s6).trans s7).trans s8
    have k8 := k4.trans (kp_same s48)
    have pu8 := (pu7.same s8).mono (m := n + 3) (by omega)
    have hm8 := s48 _ _ hm4
    have ga8 := k8 _ _ na ga
    have gb8 := s48 _ _ (k24 _ _ nb gb2)
    have tl8 : TL p G8 (2 * c + 2) (i + 3) m c (v0 :: vr) := (tl.kp k8).mono (by omega) (by omega) (Nat.le_refl _) (Nat.le_refl _)
    have tx8 : TL p G8 (2 * c + 2) (i + 2) m c (x0 :: xr) := (((tx'.kp (kp_same e2)).kp k24).kp (kp_same s48)).mono (by omega) (by omega) (Nat.le_refl _) (Nat.le_refl _)
    have hodd : ∀ y ∈ [V.int (-1), .int z.r, .int z.c, .int z.i, .int z.o, .bl true, .non, .str "0", .int 256, .int 9, .ref u1, .ref u2, .ref u3, .int 0, .int 1], TV p G8 (2 * c + 2) (i + 2) 100 y := fun y my => by
      have I : ∀ {e : Int}, -1000 ≤ e → e ≤ 1000 → TV p G8 (2 * c + 2) (i + 2) 100 (.int e) := fun h1 h2 => (TV.int h1 h2).mono (Nat.le_refl _) (Nat.le_refl _) (by omega)
      have J1 : ∀ {e : Int}, -1000 ≤ e → e ≤ 1000 → TV p G8 (2 * c + 2) (i + 1) 14 (.int e) := fun h1 h2 => TV.int h1 h2
      simp only [List.mem_cons, List.not_mem_nil, or_false] at my
      rcases my with rfl | rfl | rfl | rfl | rfl | rfl | rfl | rfl | rfl | rfl | rfl | rfl | rfl | rfl | rfl
      · exact I (by decide) (by decide)
      · exact I (by omega) (by omega)
      · exact I (by omega) (by omega)
      · exact I (by omega) (by omega)
      · exact I (by omega) (by omega)
      · exact TV.bl.mono (Nat.le_refl _) (Nat.le_refl _) (by omega)
      · exact TV.non.mono (Nat.le_refl _) (Nat.le_refl _) (by omega)
      · exact (TV.str (by decide +kernel) (by decide)).mono (Nat.le_refl _) (Nat.le_refl _) (by omega)
      · exact I (by decide) (by decide)
      · exact I (by decide) (by decide)
      · exact (TV.tup (TL.one (J1 (by decide) (by decide))) nu1 (s8 _ _ (s7 _ _ (s6 _ _ f5))) (by omega)).mono (Nat.le_refl _) (Nat.le_refl _) (by omega)
      · exact (TV.lst (TL.one (J1 (by decide) (by decide))) nu2 (s8 _ _ (s7 _ _ f6)) (by omega)).mono (Nat.le_refl _) (Nat.le_refl _) (by omega)
      · exact (TV.tup (TL.cons (J1 (by decide) (by decide)) (TL.one (J1 (by omega) (by omega)))) nu3 (s8 _ _ f7) (by omega)).mono (Nat.le_refl _) (Nat.le_refl _) (by omega)
      · exact I (by decide) (by decide)
      · exact I (by decide) (by decide)
    clear s5 s6 s7 s8 f5 f6 f7 hmS nu1 nu2 nu3 pu7
    dsimp only [gName]
    refine ⟨fun σ' G' => ∃ (y : V) (w8 w9 w10 w11 : Option V), σ' = [some (.ref p), some (.ref a), some (.ref sm), some (.int at_), some y, some (.int pl), some (.int way), some (.ref od), w8, w9, w10, w11] ∧ Kp (· ≠ p) H G' ∧ Purse G' p (n + 10) ∧ TV p G' (2 * c + 2) (i + 3) (4 * m + 4000) y, ?_, ?_⟩
    rotate_left
    · rintro σ' G9 ⟨y, w8, w9, w10, w11, rfl, k9, pu9, ty⟩
      refine put_ok (W := 2 * c + 2) (k := i + 3) (m := 4 * m + 4000) (n' := n + 10) (a := a) (fun G R s h => ⟨_, rfl, h⟩) (fun G R h => ⟨_, rfl, at_, rfl, h⟩) (fun G R h => ⟨_, rfl, _, _, rfl, rfl, at_ + 1, rfl, h⟩) pu9 na (k9 _ _ na ga) (by omega)
        (fun G R s h => ⟨_, rfl, h y G (fun _ _ _ e => e) (pu9.same s) (ty.kp (kp_same s))⟩) fun t y' G' k' p' ty' nt gt => ?_
      have tl' : TL p G' (2 * c + 2) (i + 3) m c (v0 :: vr) := (tl.kp (k9.trans k')).mono (by omega) (by omega) (Nat.le_refl _) (Nat.le_refl _)
      exact q _ _ ((TV.tup (((tl'.cut none (some at_)).app (TL.one ty')).app (tl'.cut (some (at_ + 1)) none)) nt gt (by omega)).mono (Nat.le_refl _) (by omega) (by omega)) (k9.trans k') (p'.mono (by omega))
    refine ⟨_, rfl, _, _, rfl, rfl, _, rfl, ite2 (fun _ => ?_) (fun _ => ?_)⟩
    · refine put_ok (W := 2 * c + 2) (k := i + 2) (m := 100) (n' := n + 4) (a := b) (fun G R s h => ⟨_, rfl, h⟩) (fun G R h => ⟨_, rfl, pl, rfl, h⟩) (fun G R h => ⟨_, rfl, _, _, rfl, rfl, pl + 1, rfl, h⟩) pu8 nb gb8 (by omega)
        (fun G R s h => ⟨_, rfl, take_ok (i := 0) rfl (pu8.same s) (by omega) (by decide) (by decide) fun d G' d0 d1 k' p' => by
          obtain ⟨y, my, ey⟩ := pick (xs := [V.int (-1), .int z.r, .int z.c, .int z.i, .int z.o, .bl true, .non, .str "0", .int 256, .int 9, .ref u1, .ref u2, .ref u3, .int 0, .int 1]) d0 d1
          exact ⟨od, _, d, y, rfl, rfl, SqL.of (k' _ _ nod (s _ _ f8)), ey, h y G' k' (p'.mono (by omega)) (((hodd y my).kp (kp_same s)).kp k')⟩⟩) fun t y' G' k' p' ty' nt gt => ?_
      have tl' := tx8.kp k'
      exact ⟨_, _, _, _, _, rfl, k8.trans k', p'.mono (by omega), (TV.tup (((tl'.cut none (some pl)).app (TL.one ty')).app (tl'.cut (some (pl + 1)) none)) nt gt (by omega)).mono (Nat.le_refl _) (Nat.le_refl _) (by omega)⟩
    refine ⟨_, rfl, rfl, _, rfl, ite2 (fun _ => ?_) (fun _ => ?_)⟩
    · refine drop_ok (a := b) (fun G R s h => ⟨_, rfl, h⟩) (fun G R h => ⟨_, rfl, pl, rfl, h⟩) (fun G R h => ⟨_, rfl, _, _, rfl, rfl, pl + 1, rfl, h⟩) pu8 nb gb8 (by omega) fun t G' s nt gt => ?_
      have tl' := tx8.kp (kp_same s)
      exact ⟨_, _, _, _, _, rfl, k8.trans (kp_same s), (pu8.same s).mono (by omega), (TV.tup ((tl'.cut none (some pl)).app (tl'.cut (some (pl + 1)) none)) nt gt (by omega)).mono (Nat.le_refl _) (Nat.le_refl _) (by omega)⟩
    refine ⟨_, rfl, rfl, _, rfl, ite2 (fun _ => ?_) (fun _ => ?_)⟩
    · refine ⟨_, rfl, by show 1 ≤ sizeLine; decide, fun u hu => cat_ok (pu8.same (same_new hu)) nb ((same_new hu) _ _ gb8) (pu8.ne hu) upd_same (by rw [List.length_singleton]; omega) fun t G' s' nt gt => ?_⟩
      have s := (same_new (o := .tup [.int 0]) hu).trans s'
      have tl' := tx8.kp (kp_same s)
      exact ⟨_, _, _, _, _, rfl, k8.trans (kp_same s), (pu8.same s).mono (by omega), (TV.tup (tl'.app (TL.one (TV.int (by decide) (by decide)))) nt gt (by omega)).mono (Nat.le_refl _) (Nat.le_refl _) (by omega)⟩
    have tX0 : TV p G8 (2 * c + 2) (i + 2) m x0 := tx8.mem List.mem_cons_self
    refine ⟨_, rfl, rfl, _, rfl, ite2 (fun w4 => ?_) (fun w4 => iteF ?_)⟩
    · refine ⟨_, rfl, b, _, ((0 : Nat) : Int), x0, rfl, rfl, SqT.of gb8, atI_nat rfl, by show 2 ≤ sizeLine; decide, fun u hu => ⟨u, ["go", "skip"], rfl, SqT.of upd_same, (tX0.kp (kp_same (same_new hu))).odd, _, rfl, ?_⟩⟩
      have su : Same G8 (upd G8 u (.tup [.str "go", .str "skip"])) := same_new hu
      generalize upd G8 u (.tup [.str "go", .str "skip"]) = G9 at su
      have pu9 := pu8.same su
      have k9 := k8.trans (kp_same su)
      have tx9 := tx8.kp (kp_same su)
      refine ite2 (fun _ => ?_) (fun _ => ?_)
      · refine ⟨_, rfl, 1, rfl, -1, rfl, sl_ok pu9 nb (su _ _ gb8) fun t1 G1' s1 nt1 g1 => ⟨_, rfl, a, _, rfl, .inr (SqT.of (s1 _ _ (su _ _ ga8))), _, rfl, _, _, rfl, rfl, by show 1 ≤ sizeLine; decide, fun u2 hu2 => ?_⟩⟩
        have p1' := pu9.same s1
        refine cat_ok (p1'.same (same_new hu2)) nt1 ((same_new hu2) _ _ g1) (p1'.ne hu2) upd_same (by rw [List.length_singleton]; have := cutV_length (x0 :: xr) none (some (-1)); omega) fun t G' s' nt gt => ?_
        have s := s1.trans ((same_new (o := .tup [.int (((v0 :: vr).length : Nat) - at_)]) hu2).trans s')
        have tl' := tx9.kp (kp_same s)
        exact ⟨_, _, _, _, _, rfl, k9.trans (kp_same s), (pu9.same s).mono (by omega), (TV.tup ((tl'.cut none (some (-1))).app (TL.one (TV.int (by omega) (by omega)))) nt gt (by omega)).mono (Nat.le_refl _) (Nat.le_refl _) (by omega)⟩
      · refine ⟨_, rfl, rfl, _, rfl, ite2 (fun _ => ?_) (fun h => absurd w4 h)⟩
        refine ⟨by show 11 ≤ sizeLine; decide, fun wl hwl => ?_⟩
        have nwl := pu9.ne hwl
        have sw : Same G9 (upd G9 wl (.lst [.str "put", .str "do", .str "pick", .str "read", .str "write", .str "in", .str "out", .str "go", .str "skip", .str "nand", .str "wide"])) := same_new hwl
        have fw : (upd G9 wl (.lst [.str "put", .str "do", .str "pick", .str "read", .str "write", .str "in", .str "out", .str "go", .str "skip", .str "nand", .str "wide"])) wl = some (.lst [.str "put", .str "do", .str "pick", .str "read", .str "write", .str "in", .str "out", .str "go", .str "skip", .str "nand", .str "wide"]) := upd_same
        generalize upd G9 wl (.lst [.str "put", .str "do", .str "pick", .str "read", .str "write", .str "in", .str "out", .str "go", .str "skip", .str "nand", .str "wide"]) = Ga at sw fw
        dsimp only [gName]
        have pa := pu9.same sw
        refine ⟨_, rfl, take_ok (i := 0) rfl pa (by omega) (by decide) (by decide) fun d Gb d0' d1' kb pb => ?_⟩
        obtain ⟨y, my, ey⟩ := pick (xs := [V.str "put", .str "do", .str "pick", .str "read", .str "write", .str "in", .str "out", .str "go", .str "skip", .str "nand", .str "wide"]) d0' d1'
        refine ⟨wl, _, d, y, rfl, rfl, SqL.of (kb _ _ nwl fw), ey, by show 1 ≤ sizeLine; decide, fun u2 hu2 => ⟨_, rfl, 1, rfl, noPart (sl_ok (pb.same (same_new hu2)) nb ((same_new hu2) _ _ (kb _ _ nb (sw _ _ (su _ _ gb8)))) fun t1 G1' s1 nt1 g1 => ?_)⟩⟩
        have nu2 := pb.ne hu2
        have e1 : Same Gb (upd Gb u2 (.tup [y])) := same_new hu2
        refine cat_ok ((pb.same e1).same s1) nu2 (s1 _ _ upd_same) nt1 g1 (by rw [List.length_singleton]; have := cutV_length (x0 :: xr) (some 1) none; omega) fun t G' s' nt gt => ?_
        have kA : Kp (· ≠ p) G9 G' := ((kp_same sw).trans kb).trans (kp_same ((e1.trans s1).trans s'))
        have tl' := tx9.kp kA
        have ty' : TV p G' (2 * c + 2) (i + 2) 60 y := by
          simp only [List.mem_cons, List.not_mem_nil, or_false] at my
          rcases my with rfl | rfl | rfl | rfl | rfl | rfl | rfl | rfl | rfl | rfl | rfl <;> exact TV.str (by decide +kernel) (by decide)
        exact ⟨_, _, _, _, _, rfl, k9.trans kA, (((pb.same e1).same s1).same s').mono (by omega), (TV.tup ((TL.one ty').app (tl'.cut (some 1) none)) nt gt (by omega)).mono (Nat.le_refl _) (Nat.le_refl _) (by omega)⟩
    refine ⟨_, rfl, rfl, _, rfl, ite2 (fun h => absurd h w4) (fun _ => ?_)⟩
    refine ⟨_, rfl, rfl, _, rfl, ite2 (fun _ => ?_) (fun _ => ?_)⟩
    · refine ⟨_, rfl, 1, rfl, -1, rfl, sl_ok pu8 na ga8 fun t1 G1' s1 nt1 g1 => ⟨_, rfl, a, _, rfl, .inr (SqT.of (s1 _ _ ga8)), fun l2 hl2 => ?_⟩⟩
      have p1' := pu8.same s1
      have nl2 := p1'.ne hl2
      have s2 : Same G1' (upd G1' l2 (.lst (v0 :: vr))) := same_new hl2
      have f2 : (upd G1' l2 (.lst (v0 :: vr))) l2 = some (.lst (v0 :: vr)) := upd_same
      generalize upd G1' l2 (.lst (v0 :: vr)) = G2' at s2 f2
      have p2' := p1'.same s2
      refine ⟨_, rfl, by show 1 ≤ sizeLine; decide, fun u hu => cat_ok (p2'.same (same_new hu)) na ((same_new hu) _ _ (s2 _ _ (s1 _ _ ga8))) (p2'.ne hu) upd_same (by rw [List.length_singleton]; omega) fun t3 G3' s3' nt3 g3 => ?_⟩
      have s3 := (same_new (o := .tup [.str "put"]) hu).trans s3'
      have p3' := p2'.same s3
      have s13 := (s1.trans s2).trans s3
      refine ⟨_, rfl, _, rfl, 1, rfl, sl_ok p3' na (s13 _ _ ga8) fun t4 G4' s4 nt4 g4 => cat_ok (p3'.same s4) na (s4 _ _ (s13 _ _ ga8)) nt4 g4 (by have := cutV_length (v0 :: vr) none (some 1); omega) fun t5 G5' s5 nt5 g5 => ⟨_, rfl, by show 1 ≤ sizeLine; decide, fun t6 ht6 => ?_⟩⟩
      have p5' := (p3'.same s4).same s5
      have nt6 := p5'.ne ht6
      have s6 : Same G5' (upd G5' t6 (.tup [.ref a])) := same_new ht6
      have f6 : (upd G5' t6 (.tup [.ref a])) t6 = some (.tup [.ref a]) := upd_same
      generalize upd G5' t6 (.tup [.ref a]) = G6' at s6 f6
      have p6' := p5'.same s6
      refine disp_take (i := 0) rfl p6' (by omega) rfl (by decide) (by decide) fun v' G7' mv k7 p7 => ?_
      have s46 := (s4.trans s5).trans s6
      have k87 : Kp (· ≠ p) G8 G7' := (kp_same (s13.trans s46)).trans k7
      have tl' := tl8.kp k87
      have p7' := p7.mono (m := n + 12) (by omega)
      simp only [List.mem_cons, List.not_mem_nil, or_false] at mv
      rcases mv with rfl | rfl | rfl | rfl | rfl
      · exact q _ _ ((TV.tup (tl'.cut none (some (-1))) nt1 (k7 _ _ nt1 (s46 _ _ (s3 _ _ (s2 _ _ g1)))) (by omega)).mono (Nat.le_refl _) (by omega) (by omega)) (k8.trans k87) p7'
      · exact q _ _ ((TV.lst tl' nl2 (k7 _ _ nl2 (s46 _ _ (s3 _ _ f2))) (by omega)).mono (Nat.le_refl _) (by omega) (by omega)) (k8.trans k87) p7'
      · exact q _ _ ((TV.tup (tl'.app (TL.one (TV.str (y := "put") (by decide +kernel) (by decide)))) nt3 (k7 _ _ nt3 (s46 _ _ g3)) (by omega)).mono (Nat.le_refl _) (by omega) (by omega)) (k8.trans k87) p7'
      · exact q _ _ ((TV.tup (tl'.app (tl'.cut none (some 1))) nt5 (k7 _ _ nt5 (s6 _ _ g5)) (by omega)).mono (Nat.le_refl _) (by omega) (by omega)) (k8.trans k87) p7'
      · have ta' : TV p G7' (2 * c + 2) (i + 3) (m + 3) (.ref a) := ((TV.tup ((tlW.kp ((((kp_same e2).trans k24).trans (kp_same s48)).trans k87))) na (k87 _ _ na ga8) (by omega)).mono (Nat.le_refl _) (by omega) (Nat.le_refl _))
        exact q _ _ ((TV.tup (TL.one ta') nt6 (k7 _ _ nt6 f6) (by omega)).mono (Nat.le_refl _) (by omega) (by omega)) (k8.trans k87) p7'
    -- a list of the step's things
    have elseB : ∀ G', Kp (· ≠ p) G8 G' → Purse G' p (n + 10) → ∀ l, G' l = none → Kp (· ≠ p) H (upd G' l (.lst (x0 :: xr))) ∧ Purse (upd G' l (.lst (x0 :: xr))) p (n + 10) ∧ TV p (upd G' l (.lst (x0 :: xr))) (2 * c + 2) (i + 3) (4 * m + 4000) (.ref l) := fun G' k' p' l hl => by
      have nl := p'.ne hl
      have sl' : Same G' (upd G' l (.lst (x0 :: xr))) := same_new hl
      exact ⟨(k8.trans k').trans (kp_same sl'), p'.same sl', (TV.lst ((tx8.kp k').kp (kp_same sl')) nl upd_same (by omega)).mono (Nat.le_refl _) (Nat.le_refl _) (by omega)⟩
    refine ⟨_, rfl, b, _, ((0 : Nat) : Int), x0, rfl, rfl, SqT.of gb8, atI_nat rfl, "do", rfl, tX0.odd, _, rfl, ite2 (fun _ => ?_) (fun _ => iteF ⟨_, rfl, b, _, rfl, .inr (SqT.of gb8), fun l hl => ?_⟩)⟩
    rotate_left
    · obtain ⟨b1, b2, b3⟩ := elseB G8 (fun _ _ _ e => e) (pu8.mono (by omega)) l hl
      exact ⟨_, _, _, _, _, rfl, b1, b2, b3⟩
    refine ⟨_, rfl, b, _, rfl, .inr (SqT.of gb8), rfl, _, rfl, ite2 (fun h6 => ?_) (fun _ => iteF ⟨_, rfl, b, _, rfl, .inr (SqT.of gb8), fun l hl => ?_⟩)⟩
    rotate_left
    · obtain ⟨b1, b2, b3⟩ := elseB G8 (fun _ _ _ e => e) (pu8.mono (by omega)) l hl
      exact ⟨_, _, _, _, _, rfl, b1, b2, b3⟩
    have l6 : (x0 :: xr).length = 6 := by
      have := V.int.inj (of_decide_eq_true (show decide (V.int (((x0 :: xr).length : Nat) : Int) = V.int 6) = true from h6))
      omega
    obtain ⟨x4, hx4⟩ : ∃ x4, (x0 :: xr)[4]? = some x4 := ⟨(x0 :: xr)[4]'(by omega), List.getElem?_eq_getElem (by omega)⟩
    have t4 : TV p G1 c i m x4 := tx'.get hx4
    have k18 : Kp (· ≠ p) G1 G8 := ((kp_same e2).trans k24).trans (kp_same s48)
    rcases (t4.kp k18).look (K := K) with ⟨ty4, ty4', hk4⟩ | ⟨g, ys, jj, rfl, ng, gg8, rfl, ty4⟩
    · refine ⟨_, rfl, b, _, ((4 : Nat) : Int), x4, rfl, rfl, SqT.of gb8, atI_nat hx4, x4, .ty "tuple", _, _, _, rfl, .ty "tuple", ty4', hk4, _, rfl, iteF (iteF ⟨_, rfl, b, _, rfl, .inr (SqT.of gb8), fun l hl => ?_⟩)⟩
      obtain ⟨b1, b2, b3⟩ := elseB G8 (fun _ _ _ e => e) (pu8.mono (by omega)) l hl
      exact ⟨_, _, _, _, _, rfl, b1, b2, b3⟩
    refine ⟨_, rfl, b, _, ((4 : Nat) : Int), .ref g, rfl, rfl, SqT.of gb8, atI_nat hx4, .ref g, .ty "tuple", _, _, true, rfl, .ty "tuple", .base (.tup gg8), kit_ty (by decide +kernel), _, rfl, iteT ?_⟩
    refine take_ok (i := 0) rfl pu8 (by omega) (by decide) (by decide) fun dd G9 dd0 dd1 k89 pu9 => ⟨_, _, rfl, rfl, _, rfl, ite2 (fun _ => ?_) (fun _ => ⟨_, rfl, b, _, rfl, .inr (SqT.of (k89 _ _ nb gb8)), fun l hl => ?_⟩)⟩
    rotate_left
    · obtain ⟨b1, b2, b3⟩ := elseB G9 k89 (pu9.mono (by omega)) l hl
      exact ⟨_, _, _, _, _, rfl, b1, b2, b3⟩
    have k8h := k8.trans k89
    have gb9 := k89 _ _ nb gb8
    have gg9 := k89 _ _ ng gg8
    have hm9 : G9 sm = some (.lst z.list) := k89 _ _ nsm hm8
    refine disp_take (i := 0) rfl pu9 (by omega) rfl (by decide) (by decide) fun word Ga mw kA pA => ?_
    refine ⟨_, rfl, sm, _, 0, _, rfl, rfl, SqL.of (kA _ _ nsm hm9), rfl, 1, rfl, disp_take (i := 0) rfl pA (by omega) rfl (by decide) (by decide) fun far Gb mf kB pB => ?_⟩
    have k9b := kA.trans kB
    dsimp only [gName]
    refine seq_asg (args_ok (W := 2 * c + 2) (k := jj) (m := m) (c := c) rfl pB (k9b _ _ nb gb9) nb hx4 ng (k9b _ _ ng gg9) (((ty4.kp k89).kp k9b).mono (by omega) (by omega) (Nat.le_refl _) (by omega)) hc (by omega) fun L Gc six sC nL gL l6' tS => ?_)
    dsimp only [gName]
    have k9c := k9b.trans (kp_same sC)
    have pC := pB.same sC
    have tf : TV p Gc (2 * c + 2) jj 14 far := by
      simp only [List.mem_cons, List.not_mem_nil, or_false] at mf
      rcases mf with rfl | rfl | rfl | rfl
      · exact TV.int (by omega) (by omega)
      · exact TV.int (by decide) (by decide)
      · exact TV.bl
      · exact TV.non
    have tw : ∀ {G'}, TV p G' (2 * c + 2) (jj + 2) 60 word := fun {_} => by
      simp only [List.mem_cons, List.not_mem_nil, or_false] at mw
      rcases mw with rfl | rfl | rfl | rfl | rfl <;> exact TV.str (by decide +kernel) (by decide)
    refine seq_asg (args2_ok (W := 2 * c + 2) (k := jj) (m := m) (c := c) (six := six) (L := L) rfl rfl rfl rfl pC (by omega) (k9c _ _ nb gb9) hx4 ng (k9c _ _ ng gg9) (((ty4.kp k89).kp k9c).mono (by omega) (by omega) (Nat.le_refl _) (by omega)) hc (by omega) tf gL l6' tS fun args Gd kD pD tA => ?_)
    dsimp only [gName]
    have k9d := k9c.trans kD
    have txd := (tx8.kp k89).kp k9d
    refine put_ok (W := 2 * c + 2) (k := jj + 1) (m := 2 * m + 100) (n' := n + 3 + 1 + 1 + 1 + 1) (a := b) (d := 4) (e := 5) (fun G R s h => ⟨_, rfl, h⟩) (fun G R h => ⟨4, rfl, h⟩) (fun G R h => ⟨5, rfl, h⟩) pD nb (k9d _ _ nb gb9) (by omega)
        (fun G R s h => ⟨_, rfl, h args G (fun _ _ _ e => e) (pD.same s) (tA.kp (kp_same s))⟩) fun q1 y1 Ge kE pE tE nq1 gq1 => ?_
    refine put_ok (W := 2 * c + 2) (k := jj + 2) (m := 60) (n' := n + 3 + 1 + 1 + 1 + 1) (a := b) (d := 2) (e := 3) (fun G R s h => ⟨_, rfl, h⟩) (fun G R h => ⟨2, rfl, h⟩) (fun G R h => ⟨3, rfl, h⟩) pE nb (kE _ _ nb (k9d _ _ nb gb9)) (by omega)
        (fun G R s h => ⟨_, rfl, h word G (fun _ _ _ e => e) (pE.same s) tw⟩) fun q2 y2 Gf kF pF tF nq2 gq2 => ?_
    refine disp_take (i := 0) rfl pF (by omega) rfl (by decide) (by decide) fun y Gg my kG pG => ?_
    have kEG := (kE.trans kF).trans kG
    have tx' := txd.kp kEG
    have hk : Kp (· ≠ p) H Gg := (k8h.trans k9d).trans kEG
    refine ⟨_, _, _, _, _, rfl, hk, pG.mono (by omega), ?_⟩
    simp only [List.mem_cons, List.not_mem_nil, or_false] at my
    rcases my with rfl | rfl
    · exact (TV.tup (((tx'.cut none (some 4)).app (TL.one ((tE.kp (kF.trans kG)).mono (Nat.le_refl _) (by omega) (Nat.le_refl _)))).app (tx'.cut (some 5) none)) nq1 (kG _ _ nq1 (kF _ _ nq1 gq1)) (by omega)).mono (Nat.le_refl _) (by omega) (by omega)
    · exact (TV.tup (((tx'.cut none (some 2)).app (TL.one ((tF.kp kG).mono (Nat.le_refl _) (by omega) (Nat.le_refl _)))).app (tx'.cut (some 3) none)) nq2 (kG _ _ nq2 gq2) (by omega)).mono (Nat.le_refl _) (by omega) (by omega)
end
end J
end Bf

namespace Bf
open PySem PySem.Spec PyProof.Rows L2
theorem call_repr2 {X : Cx} (hA : X.A.guards = some []) (hu : X.A.units + 64 < cLine) : CallR X (.builtin "repr") (fun xs H Q => rRepr xs H Q ∨ rReprE X.K xs H Q) := fun pins s σ H xs us Q I rv h =>
  h.elim (fun z => call_repr hA hu pins s σ H xs us Q I rv z) fun z => call_reprE hu pins s σ H xs us Q I rv z
/-- of four keywords' values: in the parameters' order -/
def turnA {α : Type} : List α → List α
  | [a, b, c, d] => [b, a, d, c]
  | l => l
def turnC {α : Type} : List α → List α
  | [a, b, c, d] => [d, b, c, a]
  | l => l
theorem turnA_rel {zs : List V} {ws : List Value} (r : Vals zs ws) : Vals (turnA zs) (turnA ws) := by
  match r with
  | .nil => exact .nil
  | .cons a .nil => exact .cons a .nil
  | .cons a (.cons b .nil) => exact .cons a (.cons b .nil)
  | .cons a (.cons b (.cons c .nil)) => exact .cons a (.cons b (.cons c .nil))
  | .cons a (.cons b (.cons c (.cons d .nil))) => exact .cons b (.cons a (.cons d (.cons c .nil)))
  | .cons a (.cons b (.cons c (.cons d (.cons e r)))) => exact .cons a (.cons b (.cons c (.cons d (.cons e r))))
theorem turnC_rel {zs : List V} {ws : List Value} (r : Vals zs ws) : Vals (turnC zs) (turnC ws) := by
  match r with
  | .nil => exact .nil
  | .cons a .nil => exact .cons a .nil
  | .cons a (.cons b .nil) => exact .cons a (.cons b .nil)
  | .cons a (.cons b (.cons c .nil)) => exact .cons a (.cons b (.cons c .nil))
  | .cons a (.cons b (.cons c (.cons d .nil))) => exact .cons d (.cons b (.cons c (.cons a .nil)))
  | .cons a (.cons b (.cons c (.cons d (.cons e r)))) => exact .cons a (.cons b (.cons c (.cons d (.cons e r))))
/-- a thing that is asked and written -/
inductive Tg (K : PySem.W.Frag) (C : Addr) (cd : ClassData) (H : Hp) : V → Prop
  | dat {x : V} {P : Addr → Prop} {b : Bool} {d : PyData} (h : Sh H P b x d) (da : Da H x d) (s : d.showable = true) (dp : d.depth ≤ 60) (l : d.shown.length ≤ sizeLine) : Tg K C cd H x
  | exc {a : Addr} {z : Str} (h : ExV H a C z) (f : ExF K C cd) (k : PySem.W.kitOne K (.ref C) (.type "tuple") = some false) (l : (excTold cd z).length ≤ sizeLine) : Tg K C cd H (.ref a)
theorem J.sh_same {H H' : Hp} {P : Addr → Prop} {b : Bool} {x : V} {d : PyData} (s : Same H H') (h : Sh H P b x d) : Sh H' P b x d := Sh.on (fun _ _ a _ => a) (fun _ _ _ e => s _ _ e) d x h
section
variable {K : PySem.W.Frag} {C : Addr} {cd : ClassData} {H H' : Hp} {x : V}
theorem Tg.th (h : Tg K C cd H x) : ∃ o, Th K C cd H x o := by
  cases h with
  | dat h da s dp l => exact ⟨_, .dat da⟩
  | exc h f k l => exact ⟨_, .exc h f k⟩
theorem Tg.same (s : Same H H') (h : Tg K C cd H x) : Tg K C cd H' x := by
  cases h with
  | dat h da sh dp l => exact .dat (J.sh_same s h) (da.same s) sh dp l
  | exc h f k l => exact .exc (h.same s) f k l
theorem Tg.told (h : Tg K C cd H x) : ∃ t : Str, ∀ H', Same H H' → ∀ Q : VK, Q (.str t) H' → rRepr [x] H' Q ∨ rReprE K [x] H' Q := by
  cases h with
  | @dat x P b d h da sh dp l => exact ⟨d.shown, fun H' s Q q => .inl ⟨x, P, b, d, rfl, J.sh_same s h, sh, dp, l, q⟩⟩
  | @exc a z h f k l => exact ⟨excTold cd z, fun H' s Q q => .inr ⟨a, C, z, cd, rfl, h.same s, f, l, q⟩⟩
end
namespace J
section
variable {P : Program} {w : World} {K : PySem.W.Frag} {mg : Str → Option Value} {base : Heap} {C : Addr} {cd : ClassData}
theorem kb_of {f : Addr} {fd : FuncData} (F : Fun K "are_steps" "are_steps" sAreS f fd) : (∃ g, KBn K fd pAreS 1 ["cells", "registers", "outs", "ins"] g fun vs zs => vs ++ turnA zs) ∧ (∃ g, KBn K fd pAreS 1 ["registers", "cells", "ins", "outs"] g fun vs zs => vs ++ zs) ∧
    ∃ g, KBn K fd pAreS 1 ["outs", "cells", "ins", "registers"] g fun vs zs => vs ++ turnC zs := by
  obtain ⟨oc, od, kV, doc, pm, an, cdv, ct, osl, rfl, lk, hcd⟩ := F.ex
  refine ⟨⟨fun us ws => us ++ turnA ws, ⟨fun s us ws _ l1 l2 => BindsTo.of_looks fun M => PySem.W.Looks.of_pure ?_, fun r1 r2 => r1.append (turnA_rel r2)⟩⟩, ⟨fun us ws => us ++ ws, ⟨fun s us ws _ l1 l2 => BindsTo.of_looks fun M => PySem.W.Looks.of_pure ?_, fun r1 r2 => r1.append r2⟩⟩, ⟨fun us ws => us ++ turnC ws, ⟨fun s us ws _ l1 l2 => BindsTo.of_looks fun M => PySem.W.Looks.of_pure ?_, fun r1 r2 => r1.append (turnC_rel r2)⟩⟩⟩
  all_goals exact match us, ws, l1, l2 with
    | [_], [_, _, _, _], _, _ => rfl
def spRight (K : PySem.W.Frag) (C : Addr) (cd : ClassData) : Sp := fun vs H Q _ => ∃ (y x : V) (sm : Addr) (z : Rm), vs = [y, x, .ref sm] ∧ Tg K C cd H x ∧ H sm = some (.lst z.list) ∧ 0 ≤ z.r ∧ 0 ≤ z.c ∧ 0 ≤ z.i ∧ 0 ≤ z.o ∧ ∀ H', Same H H' → Q (.bl true) H'
abbrev nRight : List Str := ["_law_box_here", "_law_thing", "_law_sizes", "_law_held", "_law_due_here", "_law_one", "_law_two", "_law_three", "_law_four", "_law_turn", "_law_found"]
abbrev pRight : List Str := ["_law_box_here", "_law_thing", "_law_sizes"]
theorem scRight : FnScope nRight pRight (defScope sRight) := ⟨rfl, rfl, rfl, by decide +kernel, rfl, by decide +kernel, by decide +kernel⟩
set_option maxHeartbeats 2000000 in
theorem ok_right {f fa fu : Addr} {fd da du : FuncData} (F : Fun K "_law_right" "_law_right" sRight f fd) (L : Bi mg) (A_ : Fun K "are_steps" "are_steps" sAreS fa da) (atA : mg "are_steps" = some (.ref fa)) (GA : FnOk P w K mg base CX0 7 fa da pAreS (spAreS K C cd))
    (DD : Df K mg "_law_due" fu du pDue) (GD : FnOk P w K mg base CX0 4 fu du pDue (spDue K C cd)) : FnG P w K mg base CX0 8 f fd pRight (spRight K C cd) := by
  have kpA := A_.kp
  obtain ⟨⟨gA, kbA⟩, ⟨gB, kbB⟩, ⟨gC, kbC⟩⟩ := kb_of A_
  refine Fun.okG F scRight (fun vs H Q E h => ?_) (fun cdv A outer s H vs Q E hA hr h => ?_)
  · obtain ⟨y, x, sm, z, rfl, _⟩ := h
    rfl
  · obtain ⟨y, x, sm, z, rfl, tg, hm, z1, z2, z3, z4, q⟩ := h
    have hr4 := hr.mono (by decide : 4 ≤ 7)
    have hA' : (A.deeper (envOfC "_law_right" (defScope sRight) s.heap.objs.size f cdv)).guards = some [] := hA
    refine ⟨_, (pss_cons (ps_set (i := 3) scRight.nd rfl (Or.inl rfl) (pe_callB (call_repr2 hA' hr.units) (by rfl) L.mp (by decide +kernel) (pa_cons (pv 1) pa_nil)))
        (pss_cons (ps_set (i := 4) scRight.nd rfl (Or.inl rfl) (pe_call GD hr4 (by rfl) DD.at_ DD.kp DD.bd .nil pass0 (pa_cons (pv 1) (pa_cons (pv 2) pa_nil))))
        (pss_cons (ps_asg (pv 2) (pg_unl rfl (pgs_cons (pg_name (i := 5) scRight.nd rfl (Or.inl rfl)) (pgs_cons (pg_name (i := 6) scRight.nd rfl (Or.inl rfl)) (pgs_cons (pg_name (i := 7) scRight.nd rfl (Or.inl rfl)) (pgs_cons (pg_name (i := 8) scRight.nd rfl (Or.inl rfl)) pgs_nil))))))
        (pss_cons (ps_for PassesOwn.leaving rfl (pi_range1 (by rfl) L.mr (pa_cons pe_int pa_nil)) (pg_name (i := 9) scRight.nd rfl (Or.inl rfl)) (pss_cons (ps_set (i := 10) scRight.nd rfl (Or.inl rfl) (pe_callN GA hr (by rfl) atA kpA kbA pass0 (pa_cons (pv 1) pa_nil) (pk_cons (pv 6) (pk_cons (pv 5) (pk_cons (pv 8) (pk_cons (pv 7) pk_nil))))))
        (pss_cons (ps_if (PW.pt (pw_or (pt_not (pt_val (pe_callB call_isi (by rfl) L.mi (by decide +kernel) (pa_cons (pv 10) (pa_cons (pe_bltn (v := .ty "bool") (by rfl) L.mb (by decide +kernel) rfl) pa_nil))))) (pw_or1 (pt_cmpR op_ne (pv 10) (pv 4) (nomark _))))) (pss_one (ps_ret pe_bl)) pss_nil)
        (pss_cons (ps_if (pt_cmpR op_ne (pe_callN GA hr (by rfl) atA kpA kbB pass0 (pa_cons (pv 1) pa_nil) (pk_cons (pv 5) (pk_cons (pv 6) (pk_cons (pv 7) (pk_cons (pv 8) pk_nil))))) (pv 4) (nomark _)) (pss_one (ps_ret pe_bl)) pss_nil)
        (pss_one (ps_if (pt_cmpR op_ne (pe_callN GA hr (by rfl) atA kpA kbC pass0 (pa_cons (pv 1) pa_nil) (pk_cons (pv 8) (pk_cons (pv 6) (pk_cons (pv 7) (pk_cons (pv 5) pk_nil))))) (pv 4) (nomark _)) (pss_one (ps_ret pe_bl)) pss_nil))))))
        (pss_one (ps_ret (pe_cmpR op_eq (pe_callB (call_repr2 hA' hr.units) (by rfl) L.mp (by decide +kernel) (pa_cons (pv 1) pa_nil)) (pv 3) (nomark _)))))))), ?_⟩
    obtain ⟨t, told⟩ := tg.told
    obtain ⟨o, th⟩ := tg.th
    refine ⟨_, rfl, told H (Same.refl _) _ ⟨_, rfl, _, rfl, x, o, sm, z, rfl, th, hm, fun H1 s1 => ?_⟩⟩
    refine ⟨_, rfl, sm, _, rfl, SqL.of (s1 _ _ hm), rfl, _, _, rfl, _, _, rfl, _, _, rfl, _, _, rfl, rfl, ?_⟩
    refine ⟨2, rfl, by decide, by decide, for_range (lo := 0) (n := 2) (fun _ σ G => (∃ v9 v10, σ = [some y, some x, some (.ref sm), some (.str t), some (.bl (stepsO z o)), some (.int z.r), some (.int z.c), some (.int z.i), some (.int z.o), v9, v10]) ∧ Same H G)
      ⟨⟨_, _, rfl⟩, s1⟩ (fun i σ G hi pv => ?_) fun σ G pv => ?_⟩
    · obtain ⟨⟨v9, v10, rfl⟩, s2⟩ := pv
      refine ⟨_, rfl, _, rfl, _, rfl, _, rfl, _, rfl, rfl, rfl, x, o, z, rfl, z1, z2, z3, z4, th.same s2, fun G1 s3 => ?_⟩
      have s13 := s2.trans s3
      dsimp only [gName]
      refine ⟨_, rfl, V.bl _, .ty "bool", _, _, true, rfl, .ty "bool", .base (.bl _), kit_ty (by decide +kernel), _, rfl, iteF ?_⟩
      refine ⟨_, rfl, _, rfl, rfl, _, rfl, iteNS rfl ?_⟩
      refine ⟨_, rfl, _, rfl, _, rfl, _, rfl, _, rfl, rfl, rfl, x, o, z, rfl, z1, z2, z3, z4, th.same s13, fun G2 s4 => ⟨_, rfl, rfl, _, rfl, iteNS rfl ?_⟩⟩
      refine ⟨_, rfl, _, rfl, _, rfl, _, rfl, _, rfl, rfl, rfl, x, o, z, rfl, z1, z2, z3, z4, th.same (s13.trans s4), fun G3 s5 => ⟨_, rfl, rfl, _, rfl, iteNS rfl ?_⟩⟩
      exact ⟨⟨_, _, rfl⟩, (s13.trans s4).trans s5⟩
    · obtain ⟨⟨v9, v10, rfl⟩, s2⟩ := pv
      refine ⟨_, rfl, told G s2 _ ⟨_, rfl, rfl, ?_⟩⟩
      have e := q G s2
      rw [show (true : Bool) = decide (V.str t = V.str t) from (decide_eq_true rfl).symm] at e
      exact e
end
end J
end Bf

namespace Bf
open PySem PySem.Spec PyProof.Rows L2
/-- self is an exception that is being made, without fields as yet; its args are told -/
def spBaseT (K : PySem.W.Frag) : Sp := fun vs H Q _ => ∃ (a C t : Addr) (v : V), vs = [.ref a, v] ∧ OexC K C ∧ H a = some (exoT a C none t) ∧ ∀ t1, H t1 = none → t1 ≠ a → Q .non (upd (upd H t1 (.tup [v])) a (exoT a C none t1))
def spInitT (C : Addr) (z : Str) : Sp := fun vs H Q _ => ∃ (a t : Addr) (v : V), vs = [.ref a, v] ∧ H a = some (exoT a C none t) ∧
  ∀ H', (∀ b o, b ≠ a → H b = some o → H' b = some o) → ExV H' a C z → Q .non H'
namespace J
section
variable {P : Program} {w : World} {K : PySem.W.Frag} {mg : Str → Option Value} {base : Heap}
theorem scFE : FnScope ["self", "text"] ["self", "text"] (defScope sFE) := ⟨rfl, rfl, rfl, by decide +kernel, rfl, by decide +kernel, by decide +kernel⟩
theorem ok_FE {f : Addr} {fd : FuncData} (F : Fun K "__init__" "FlowError.__init__" sFE f fd) (mV : mg "ValueError" = none)
    (vV : PySem.W.findCls K (.type "ValueError") (.type "type") "__init__" = some (.val (.builtin "ValueError.__init__"))) : FnOk P w K mg base CX0 2 f fd ["self", "text"] (spBaseT K) := by
  refine F.ok scFE (fun vs H Q E h => ?_) (fun cdv A outer s H vs Q E hr h => ?_)
  · obtain ⟨a, C, t, v, rfl, _⟩ := h
    rfl
  · obtain ⟨a, C, t, v, rfl, ox, ea, q⟩ := h
    exact ⟨_, pss_one (ps_expr (pe_veinitT (by rfl) mV vV (pa_cons (pv 0) (pa_cons (pv 1) pa_nil)))), _, rfl, _, rfl, a, C, t, [v], rfl, by show 1 ≤ 1000; decide, ox, ea, q⟩
/-- what an __init__ needs of the base's class -/
structure BaseT (P : Program) (w : World) (K : PySem.W.Frag) (mg : Str → Option Value) (base : Heap) (mc : Value) (CF fF : Addr) (fdF : FuncData) : Prop where
  g : mg "FlowError" = some (.ref CF)
  rd : ClX.CRead K CF mc
  va : PySem.W.findCls K (.ref CF) mc "__init__" = some (.val (.ref fF))
  kp : PySem.W.keepIn K (.ref fF) = true
  bd : Binds K fdF ["self", "text"] []
  ok : FnOk P w K mg base CX0 2 fF fdF ["self", "text"] (spBaseT K)
theorem scNW : FnScope ["self", "found"] ["self", "found"] (defScope sNW) := ⟨rfl, rfl, rfl, by decide +kernel, rfl, by decide +kernel, by decide +kernel⟩
theorem ok_NW {f C CF fF : Addr} {fd fdF : FuncData} {mc : Value} (F : Fun K "__init__" "NoWorth.__init__" sNW f fd) (B : BaseT P w K mg base mc CF fF fdF) (ox : OexC K C) (nf : PySem.W.findIn K (.ref C) "found" = some none) :
    FnOk P w K mg base CX0 3 f fd ["self", "found"] (spInitT C "no worth of the width") := by
  refine F.ok scNW (fun vs H Q E h => ?_) (fun cdv A outer s H vs Q E hr h => ?_)
  · obtain ⟨a, t, v, rfl, _⟩ := h
    rfl
  · obtain ⟨a, t, v, rfl, ea, q⟩ := h
    refine ⟨_, pss_cons (ps_expr (pe_clsFn B.ok hr (by rfl) B.g B.rd B.va B.kp B.bd pass0 (pa_cons (pv 0) (pa_cons pe_str pa_nil)))) (pss_one (ps_ostT (pv 0) (pv 1))),
      _, rfl, a, C, t, _, rfl, ox, ea, fun t1 n1 ne1 => ⟨_, rfl, _, rfl, a, C, t1, rfl, ox, nf, upd_same, fun dx n ne => q _ (fun b o nb e => ?_) ?_⟩⟩
    · have n1b := ne_of_none e n1
      have nd : b ≠ dx := by
        refine ne_of_none (H := upd (upd H t1 (.tup [.str "no worth of the width"])) a (exoT a C none t1)) (o := o) ?_ n
        rw [upd_ne nb, upd_ne n1b]
        exact e
      rw [upd_ne nb, upd_ne nd, upd_ne nb, upd_ne n1b]
      exact e
    · have nd : t1 ≠ dx := by
        refine ne_of_none (H := upd (upd H t1 (.tup [.str "no worth of the width"])) a (exoT a C none t1)) (o := .tup [.str "no worth of the width"]) ?_ n
        rw [upd_ne ne1, upd_same]
      refine ⟨dx, t1, [("found", v)], upd_same, ?_, ?_⟩
      · rw [upd_ne ne, upd_same]
      · rw [upd_ne ne1, upd_ne nd, upd_ne ne1, upd_same]
end
end J
end Bf

namespace Bf
open PySem PySem.Spec PyProof.Rows L2
namespace J
section
variable {K : PySem.W.Frag} {C : Addr} {cd : ClassData} {p : Addr} {G G' : Hp} {v : V} {y : Str}
/-- a thing of the law -/
def Ob (C : Addr) (y : Str) (p : Addr) (G : Hp) (v : V) : Prop := TV p G 200 30 400000 v ∨ (∃ a, v = .ref a ∧ a ≠ p ∧ G a = some (.dK [])) ∨
  ∃ (a d t : Addr) (fs : List (Str × V)), v = .ref a ∧ a ≠ p ∧ d ≠ p ∧ t ≠ p ∧ G a = some (exoT a C (some d) t) ∧ G d = some (exd d fs) ∧ G t = some (.tup [.str y])
theorem Ob.kp (k : Kp (· ≠ p) G G') (h : Ob C y p G v) : Ob C y p G' v := by
  rcases h with h | ⟨a, rfl, n, e⟩ | ⟨a, d, t, fs, rfl, n1, n2, n3, e1, e2, e3⟩
  · exact .inl (h.kp k)
  · exact .inr (.inl ⟨a, rfl, n, k _ _ n e⟩)
  · exact .inr (.inr ⟨a, d, t, fs, rfl, n1, n2, n3, k _ _ n1 e1, k _ _ n2 e2, k _ _ n3 e3⟩)
theorem TV.tg (h : TV p G 200 30 400000 v) : Tg K C cd G v := by
  obtain ⟨d, sh, ft, hs⟩ := h
  obtain ⟨a, b, c⟩ := fit_shows d ft
  exact .dat sh (sh_da (by decide) d v ft sh) a (by omega) (by rw [sizeLine_eq]; omega)
theorem Ob.tg (ef : ExF K C cd) (kt : PySem.W.kitOne K (.ref C) (.type "tuple") = some false) (el : (excTold cd y).length ≤ sizeLine) (h : Ob C y p G v) : Tg K C cd G v := by
  rcases h with h | ⟨a, rfl, n, e⟩ | ⟨a, d, t, fs, rfl, n1, n2, n3, e1, e2, e3⟩
  · exact h.tg
  · exact .dat (P := fun _ => True) (b := true) (.emp rfl e trivial) (.emp e) (by simp only [PyData.showable, PyData.showableKv]) (by simp only [PyData.depth, PyData.depthKv]; omega) (by
      rw [sizeLine_eq]
      exact Nat.le_trans (fit_shows (w := 0) (k := 1) (.dict []) (by simp only [fit])).2.2 (by simp only [sl]; omega))
  · exact .exc ⟨d, t, fs, e1, e2, e3⟩ ef kt el
theorem ExV.ob {n : Int} (pu : Purse G p n) {a : Addr} (h : ExV G a C y) : Ob C y p G (.ref a) := by
  obtain ⟨d, t, fs, h1, h2, h3⟩ := h
  obtain ⟨x, z, w, e, _⟩ := pu
  refine .inr (.inr ⟨a, d, t, fs, rfl, fun z => ?_, fun z => ?_, fun z => ?_, h1, h2, h3⟩)
  · rw [z, e] at h1; cases h1
  · rw [z, e] at h2; cases h2
  · rw [z, e] at h3; cases h3
theorem steps_true {z : Rm} {ds : List PyData} (h : ∀ i d, ds[i]? = some d → insD z ((ds.length : Nat) - 1 - (i : Nat)) d = true) : stepsO z (some (.tuple ds)) = true := by
  show (stepsL z ds).all id = true
  rw [List.all_eq_true]
  intro b mb
  obtain ⟨i, e⟩ := List.mem_iff_getElem?.mp mb
  unfold stepsL at e
  rw [List.getElem?_mapIdx] at e
  cases ed : ds[i]? with
  | none => rw [ed] at e; cases e
  | some d =>
    rw [ed] at e
    have e' : insD z (((ds.length : Nat) : Int) - (i : Nat) - 1) d = b := Option.some.inj e
    rw [← e', show ((ds.length : Nat) : Int) - (i : Nat) - 1 = (ds.length : Nat) - 1 - (i : Nat) by omega]
    exact h i d ed
end
end J
end Bf

namespace Bf
open PySem PySem.Spec PyProof.Rows L2
namespace J
section
variable {P : Program} {w : World} {K : PySem.W.Frag} {mg : Str → Option Value} {base : Heap} {C : Addr} {cd : ClassData}
def spLaw (K : PySem.W.Frag) : Sp := fun vs H Q _ => ∃ (a : Addr) (ns : List Int), vs = [.ref a] ∧ SqL K H a (ns.map V.int) ∧ ns.length ≤ 63 ∧ ∀ H', Q (.bl true) H'
abbrev nLaw : List Str := ["_law_script", "_law_k", "_law_box_here", "_law_sizes", "_law_many", "_law_steps", "_law_bent_here", "_law_odd", "_law_fewer", "_law_thing", "_law_at"]
theorem scLaw : FnScope nLaw ["_law_script"] (defScope sLaw) := ⟨rfl, rfl, rfl, by decide +kernel, rfl, by decide +kernel, by decide +kernel⟩
set_option maxHeartbeats 4000000 in
theorem ok_law {f fc fp ft fs fb fu fr fI : Addr} {fd dc dp dt ds db du dr dI : FuncData} (F : Fun K "law" "law" sLaw f fd) (L : Bi mg) (mx : mg "max" = none) (mn : mg "min" = none)
    (DC : Df K mg "_law_cell" fc dc ["_law_script", "_law_k"]) (GC : FnOk P w K mg base CX0 1 fc dc ["_law_script", "_law_k"] (spCell K)) (DP : Df K mg "_law_box" fp dp ["_law_cell_here"]) (GP : FnOk P w K mg base CX0 1 fp dp ["_law_cell_here"] spPurse)
    (DT : Df K mg "_law_take" ft dt pTake) (GT : FnOk P w K mg base CX0 1 ft dt pTake spTake) (DS : Df K mg "_law_step" fs ds pStep) (GS : FnOk P w K mg base CX0 4 fs ds pStep spStep)
    (DB : Df K mg "_law_bent" fb db pBent) (GB : FnOk P w K mg base CX0 2 fb db pBent spBent) (DU : Df K mg "_law_due" fu du pDue) (GU : FnOk P w K mg base CX0 4 fu du pDue (spDue K C cd))
    (DR : Df K mg "_law_right" fr dr pRight) (GR : FnG P w K mg base CX0 8 fr dr pRight (spRight K C cd)) (gN : mg "NoWorth" = some (.ref C)) (ox : OexC K C) (iC : PySem.W.findIn K (.ref C) "__init__" = some (some (.ref fI)))
    (tI : PySem.W.typeIn K (.ref fI) = some (.type "function")) (bdI : Binds K dI ["self", "found"] []) (GI : FnOk P w K mg base CX0 3 fI dI ["self", "found"] (spInitT C "no worth of the width")) (ef : ExF K C cd)
    (kt : PySem.W.kitOne K (.ref C) (.type "tuple") = some false) (el : (excTold cd "no worth of the width").length ≤ sizeLine) : FnG P w K mg base CX0 9 f fd ["_law_script"] (spLaw K) := by
  refine Fun.okG F scLaw (fun vs H Q E h => ?_) (fun cdv A outer s H vs Q E hA hr h => ?_)
  · obtain ⟨a, ns, rfl, _⟩ := h
    rfl
  · obtain ⟨a, ns, rfl, hS, hl, q⟩ := h
    have hr1 := hr.mono (by decide : 1 ≤ 8)
    have hr2 := hr.mono (by decide : 2 ≤ 8)
    have hr4 := hr.mono (by decide : 4 ≤ 8)
    have hA' : (A.deeper (envOfC "law" (defScope sLaw) s.heap.objs.size f cdv)).guards = some [] := hA
    refine ⟨_, (pss_cons (ps_for PassesOwn.leaving rfl (pi_range1 (by rfl) L.mr (pa_cons (pe_callB (call_max2 rfl) (by rfl) mx (by decide +kernel) (pa_cons pe_int (pa_cons (pe_callB (call_min2 rfl) (by rfl) mn (by decide +kernel) (pa_cons pe_int (pa_cons (pe_callB call_len_seq (by rfl) L.ml PySem.boot_len (pa_cons (pv 0) pa_nil)) pa_nil))) pa_nil))) pa_nil)) (pg_name (i := 1) scLaw.nd rfl (Or.inl rfl)) (pss_cons (ps_set (i := 2) scLaw.nd rfl (Or.inr rfl) (pe_call GP hr1 (by rfl) DP.at_ DP.kp DP.bd .nil pass0 (pa_cons (pe_call GC hr1 (by rfl) DC.at_ DC.kp DC.bd .nil pass0 (pa_cons (pv 0) (pa_cons (pv 1) pa_nil))) pa_nil)))
        (pss_cons (ps_set (i := 3) scLaw.nd rfl (Or.inr rfl) (pe_lst (pa_cons (pe_op op_add pe_int (pe_call GT hr1 (by rfl) DT.at_ DT.kp DT.bd .nil pass0 (pa_cons (pv 2) (pa_cons pe_int pa_nil)))) (pa_cons (pe_call GT hr1 (by rfl) DT.at_ DT.kp DT.bd .nil pass0 (pa_cons (pv 2) (pa_cons pe_int pa_nil))) (pa_cons (pe_call GT hr1 (by rfl) DT.at_ DT.kp DT.bd .nil pass0 (pa_cons (pv 2) (pa_cons pe_int pa_nil))) (pa_cons (pe_call GT hr1 (by rfl) DT.at_ DT.kp DT.bd .nil pass0 (pa_cons (pv 2) (pa_cons pe_int pa_nil))) pa_nil))))))
        (pss_cons (ps_set (i := 4) scLaw.nd rfl (Or.inr rfl) (pe_call GT hr1 (by rfl) DT.at_ DT.kp DT.bd .nil pass0 (pa_cons (pv 2) (pa_cons pe_int pa_nil))))
        (pss_cons (ps_set (i := 5) scLaw.nd rfl (Or.inl rfl) (pe_callTy call_tuple_of (by rfl) L.mt (by decide +kernel) (pa_cons (pe_lc (own := [("_law_at", 10)]) (g := gName 10) (tt := tYes) rfl scLaw.nd (pi_range1 (by rfl) L.mr (pa_cons (pv 4) pa_nil)) (blkOk_by (N := nLaw) (sc := defScope sLaw) (by decide +kernel)) (fun _ _ _ _ _ => pg_name (i := 10) scLaw.nd rfl (Or.inl rfl)) (fun _ _ _ _ _ => pts_nil) (fun _ _ _ _ _ => (pe_call GS hr4 (by rfl) DS.at_ DS.kp DS.bd .nil pass0 (pa_cons (pv 2) (pa_cons (pv 3) (pa_cons (pe_op op_sub (pe_op op_sub (pv 4) pe_int) (pv 10)) pa_nil)))))) pa_nil)))
        (pss_cons (ps_set (i := 6) scLaw.nd rfl (Or.inl rfl) (pe_call GB hr2 (by rfl) DB.at_ DB.kp DB.bd .nil pass0 (pa_cons (pv 2) (pa_cons (pv 5) (pa_cons (pv 3) pa_nil)))))
        (pss_cons (ps_set (i := 7) scLaw.nd rfl (Or.inl rfl) (pe_ix ix_list (pe_lst (pa_cons pe_non (pa_cons pe_int (pa_cons pe_str (pa_cons pe_dnewK (pa_cons pe_bl (pa_cons (pe_oexT ox iC tI GI hr4 bdI pass0 (by rfl) gN (pa_cons pe_int pa_nil)) (pa_cons (pe_lst (pa_cons (pe_tup (pa_cons pe_str (pa_cons pe_int pa_nil))) pa_nil)) (pa_cons (pe_tup (pa_cons pe_str (pa_cons pe_int pa_nil))) (pa_cons (pe_tup (pa_cons pe_non pa_nil)) pa_nil)))))))))) (pe_call GT hr1 (by rfl) DT.at_ DT.kp DT.bd .nil pass0 (pa_cons (pv 2) (pa_cons pe_int pa_nil))) (fun _ _ => rfl)))
        (pss_cons (ps_set (i := 8) scLaw.nd rfl (Or.inl rfl) (pe_op op_catN (pe_lst (pa_cons (pe_ix ix_list (pe_lst (pa_cons pe_int (pa_cons (pe_op op_sub (pe_ix ix_list (pv 3) pe_int (fun _ _ => rfl)) pe_int) pa_nil))) (pe_call GT hr1 (by rfl) DT.at_ DT.kp DT.bd .nil pass0 (pa_cons (pv 2) (pa_cons pe_int pa_nil))) (fun _ _ => rfl)) pa_nil)) (pe_slice sl_list (pv 3) (po_some pe_int) po_none)))
        (pss_cons (ps_for PassesOwn.leaving rfl (pi_list (pe_lst (pa_cons (pv 5) (pa_cons (pv 6) (pa_cons (pe_call GB hr2 (by rfl) DB.at_ DB.kp DB.bd .nil pass0 (pa_cons (pv 2) (pa_cons (pv 6) (pa_cons (pv 3) pa_nil)))) (pa_cons (pe_call GB hr2 (by rfl) DB.at_ DB.kp DB.bd .nil pass0 (pa_cons (pv 2) (pa_cons (pv 5) (pa_cons (pv 3) pa_nil)))) (pa_cons (pv 7) pa_nil))))))) (pg_name (i := 9) scLaw.nd rfl (Or.inl rfl)) (pss_one (ps_if (PW.pt (pw_or (pt_not (pt_val (pe_callG GR hA' hr (by rfl) DR.at_ DR.kp DR.bd pass0 (pa_cons (pv 2) (pa_cons (pv 9) (pa_cons (pv 3) pa_nil)))))) (pw_or1 (pt_not (pt_val (pe_callG GR hA' hr (by rfl) DR.at_ DR.kp DR.bd pass0 (pa_cons (pv 2) (pa_cons (pv 9) (pa_cons (pv 8) pa_nil))))))))) (pss_one (ps_ret pe_bl)) pss_nil)))
        (pss_one (ps_if (pt_not (pt_val (pe_call GU hr4 (by rfl) DU.at_ DU.kp DU.bd .nil pass0 (pa_cons (pv 5) (pa_cons (pv 3) pa_nil))))) (pss_one (ps_ret pe_bl)) pss_nil)))))))))))
        (pss_one (ps_ret pe_bl))), ?_⟩
    have hcnt : ∀ l : Nat, 0 ≤ (if (if (l : Int) < 8 then (l : Int) else 8) > 2 then (if (l : Int) < 8 then (l : Int) else 8) else (2 : Int)) ∧ (if (if (l : Int) < 8 then (l : Int) else 8) > 2 then (if (l : Int) < 8 then (l : Int) else 8) else (2 : Int)) ≤ 8 := by
      intro l
      split <;> split <;> omega
    obtain ⟨c0, c8⟩ := hcnt (ns.map V.int).length
    refine ⟨_, rfl, a, _, rfl, .inl hS, _, _, rfl, _, _, rfl, _, rfl, Int.le_trans (by decide) c0, Int.lt_of_le_of_lt c8 (by decide), for_range (lo := 0) (n := _) (fun i σ H1 => (∃ v1 v2 v3 v4 v5 v6 v7 v8 v9 v10, σ = [some (.ref a), v1, v2, v3, v4, v5, v6, v7, v8, v9, v10]) ∧ SqL K H1 a (ns.map V.int))
      ⟨⟨_, _, _, _, _, _, _, _, _, _, rfl⟩, hS⟩ (fun i σ H1 hi pv => ?_) fun σ H1 pv => q H1⟩
    obtain ⟨⟨v1, v2, v3, v4, v5, v6, v7, v8, v9, v10, rfl⟩, hS1⟩ := pv
    have hi8 : (i : Int) ≤ 8 := by omega
    refine ⟨_, rfl, _, rfl, a, ns, 0 + (i : Int), rfl, hS1, by omega, by omega, fun cell => ⟨cell, rfl, fun p H2 hp np eq2 pu2 => ?_⟩⟩
    have s2 : Same H1 H2 := fun b o e => (eq2 b (ne_of_none e hp)).trans e
    have back : ∀ {G : Hp}, Kp (· ≠ p) H2 G → SqL K G a (ns.map V.int) := fun k => Same.seq (fun b o e => k b o (ne_of_none e hp) (s2 b o e)) hS1
    clear c0 c8 hcnt
    dsimp only [gName]
    -- the sizes
    refine take_ok (i := 2) rfl pu2 (by omega) (by decide) (by decide) fun d1 G1 d10 d11 k1 pu3 => ⟨_, _, rfl, rfl, ?_⟩
    refine take_ok (i := 2) rfl pu3 (by omega) (by decide) (by decide) fun d2 G2 d20 d21 k2 pu4 => ?_
    refine take_ok (i := 2) rfl pu4 (by omega) (by decide) (by decide) fun d3 G3 d30 d31 k3 pu5 => ?_
    refine take_ok (i := 2) rfl pu5 (by omega) (by decide) (by decide) fun d4 G4 d40 d41 k4 pu6 => ?_
    refine ⟨by show 4 ≤ sizeLine; decide, fun sm hsm => ?_⟩
    obtain ⟨z, hz⟩ : ∃ z : Rm, z = ⟨1 + d1, d2, d3, d4⟩ := ⟨_, rfl⟩
    have zok : Zok z := by subst hz; exact ⟨⟨by show 1 ≤ 1 + d1; omega, by show 1 + d1 ≤ 900; omega⟩, ⟨by show 0 ≤ d2; omega, by show d2 ≤ 900; omega⟩, ⟨by show 0 ≤ d3; omega, by show d3 ≤ 900; omega⟩, ⟨by show 0 ≤ d4; omega, by show d4 ≤ 900; omega⟩⟩
    rw [show ([V.int (1 + d1), V.int d2, V.int d3, V.int d4] : List V) = z.list by subst hz; rfl]
    have nsm := pu6.ne hsm
    have k5 : Kp (· ≠ p) G4 (upd G4 sm (.lst z.list)) := kp_same (same_new hsm)
    have pu7 := pu6.same (same_new (o := .lst z.list) hsm)
    have hm5 : (upd G4 sm (.lst z.list)) sm = some (.lst z.list) := upd_same
    generalize upd G4 sm (.lst z.list) = G5 at k5 pu7 hm5
    have k25 := (((k1.trans k2).trans k3).trans k4).trans k5
    dsimp only [gName]
    refine take_ok (i := 2) rfl pu7 (by omega) (by decide) (by decide) fun many G6 m0 m12 k6 pu8 => ?_
    have hm6 := k6 _ _ nsm hm5
    have k26 := k25.trans k6
    dsimp only [gName]
    -- the steps
    refine ⟨_, rfl, many, rfl, by omega, by omega, fun D hD => ?_⟩
    have nD := pu8.ne hD
    refine lc_range (lo := 0) (n := many.toNat) (fun k G => ∃ (vs : List V) (ds : List PyData), vs.length = k ∧ ds.length = k ∧ ShAll G (fun b => b ≠ p ∧ b ≠ D) false vs ds ∧ (∀ d ∈ ds, fit 12 2 d) ∧ slA ds ≤ 302 * k ∧ (∀ i d, ds[i]? = some d → insD z (many - 1 - (i : Nat)) d = true) ∧ G D = some (.lst vs) ∧ Kp (· ≠ p) G6 G ∧ Purse G p (10 + 30 * (k : Int)))
      ⟨[], [], rfl, rfl, .nil, fitA_nil, by rw [slA_nil]; exact Nat.zero_le _, (fun i d e => by cases e), upd_same, kp_same (same_new hD), (pu8.of (upd_ne nD.symm)).mono (by omega)⟩ (fun k G hk pv => ?_) fun G pv => ?_
    · obtain ⟨vs, ds, l1, l2, sh, ft, hs, ok, gD, kG, pG⟩ := pv
      refine ⟨rfl, _, rfl, _, rfl, _, rfl, _, _, rfl, rfl, _, rfl, _, _, rfl, rfl, p, sm, _, z, _, rfl, pG, by omega, kG _ _ nsm hm6, zok, by omega, fun v d G2 dr k2 pu2 => ?_⟩
      refine ⟨_, k2 _ _ nD gD, by rw [l1]; exact small1000 (by omega), vs ++ [v], ds ++ [d], by rw [List.length_append, l1]; rfl, by rw [List.length_append, l2]; rfl, ?_, ?_, ?_, ?_, upd_same, fun b o nb h => ?_, ?_⟩
      · have gD2 := k2 _ _ nD gD
        refine shA_append (ShAll.on (fun _ _ f _ => f) (fun b o f e => ?_) ds vs sh) (.cons (Sh.on (fun _ _ f _ => f) (fun b o f e => ?_) d v (sh_off gD2 d v dr.tp dr.sh)) .nil)
        · rw [upd_ne f.2]; exact k2 b o f.1 e
        · rw [upd_ne f.2]; exact e
      · intro x mx
        rcases List.mem_append.mp mx with mx | mx
        · exact ft x mx
        · rw [List.mem_singleton.mp mx]; exact dr.ft
      · have := dr.sl_
        rw [slA_app, slA_cons, slA_nil]
        omega
      · intro j e ej
        rcases Nat.lt_or_ge j ds.length with lt | ge
        · rw [List.getElem?_append_left lt] at ej
          exact ok j e ej
        · rw [List.getElem?_append_right ge] at ej
          have e0 : j - ds.length = 0 := by
            cases hj : j - ds.length with
            | zero => rfl
            | succ u => rw [hj] at ej; cases ej
          rw [e0] at ej
          obtain rfl : d = e := Option.some.inj ej
          have := dr.ok
          rw [show many - 1 - (0 + (k : Int)) = many - 1 - (j : Nat) by omega] at this
          exact this
      · rw [upd_ne (ne_of_none h hD)]
        exact k2 b o nb (kG b o nb h)
      · rw [show 10 + 30 * ((k + 1 : Nat) : Int) = 10 + 30 * (k : Int) + 30 by omega]
        exact pu2.of (upd_ne nD.symm)
    obtain ⟨vs, ds, l1, l2, sh, ft, hs, ok, gD, kG, pG⟩ := pv
    refine ⟨D, _, rfl, .inl ⟨SqL.of gD, fun st hst => ?_⟩⟩
    have nst := pG.ne hst
    have s7 : Same G (upd G st (.tup vs)) := same_new hst
    have f7 : (upd G st (.tup vs)) st = some (.tup vs) := upd_same
    generalize upd G st (.tup vs) = G7 at s7 f7
    have pu9 := (pG.same s7).mono (m := 400) (by omega)
    have k67 := kG.trans (kp_same s7)
    have hm7 := k67 _ _ nsm hm6
    have tvS : TV p G7 12 3 4000 (.ref st) := ⟨.tuple ds, .tup f7 nst (ShAll.on (fun _ _ f _ => f.1) (fun b o _ e => s7 b o e) ds vs sh), fit_tup.mpr ⟨by omega, ft⟩, by rw [sl_tup]; omega⟩
    have shS : Sh G7 (· ≠ p) false (.ref st) (.tuple ds) := .tup f7 nst (ShAll.on (fun _ _ f _ => f.1) (fun b o _ e => s7 b o e) ds vs sh)
    have ftS : fit 12 3 (.tuple ds) := fit_tup.mpr ⟨by omega, ft⟩
    have tru : stepsO z (some (.tuple ds)) = true := steps_true fun j d e => by
      have := ok j d e
      rw [show ((ds.length : Nat) : Int) - 1 - (j : Nat) = many - 1 - (j : Nat) by omega]
      exact this
    have k27 := k26.trans k67
    dsimp only [gName]
    refine ⟨_, rfl, _, rfl, _, rfl, p, sm, _, z, .ref st, 12, 3, 4000, rfl, pu9, by omega, hm7, zok, tvS, ⟨by omega, by omega⟩, fun bv G8 tvB k8 pu10 => ?_⟩
    have hm8 := k8 _ _ nsm hm7
    have tvS8 := tvS.kp k8
    have k28 := k27.trans k8
    dsimp only [gName]
    refine fun e0 he0 => ?_
    have ne0 := pu10.ne he0
    have s0 : Same G8 (upd G8 e0 (.dK [])) := same_new he0
    have f0 : (upd G8 e0 (.dK [])) e0 = some (.dK []) := upd_same
    generalize upd G8 e0 (.dK []) = G9 at s0 f0
    refine ⟨by show 1 ≤ 1000; decide, fun e1 t0 he1 => ⟨e1, t0, .int 1, rfl, upd_same, fun Ga kk ev => ⟨rfl, ?_⟩⟩⟩
    have s1 : Same G9 Ga := fun b o e => kk b o (ne_of_none e he1) (by rw [upd_ne (ne_of_none e he1)]; exact e)
    clear kk
    have pa := (pu10.same s0).same s1
    refine ⟨by show 2 ≤ sizeLine; decide, fun t1 h1 => ?_⟩
    have nt1 := pa.ne h1
    have s2' : Same Ga (upd Ga t1 (.tup [.str "go", .int 1])) := same_new h1
    have f1 : (upd Ga t1 (.tup [.str "go", .int 1])) t1 = some (.tup [.str "go", .int 1]) := upd_same
    generalize upd Ga t1 (.tup [.str "go", .int 1]) = Gb at s2' f1
    refine ⟨by show 1 ≤ sizeLine; decide, fun l1 hl1 => ?_⟩
    have nl1 := (pa.same s2').ne hl1
    have s3 : Same Gb (upd Gb l1 (.lst [.ref t1])) := same_new hl1
    have f2 : (upd Gb l1 (.lst [.ref t1])) l1 = some (.lst [.ref t1]) := upd_same
    generalize upd Gb l1 (.lst [.ref t1]) = Gc at s3 f2
    refine ⟨by show 2 ≤ sizeLine; decide, fun t2 h2 => ?_⟩
    have nt2 := ((pa.same s2').same s3).ne h2
    have s4 : Same Gc (upd Gc t2 (.tup [.str "go", .int 1])) := same_new h2
    have f3 : (upd Gc t2 (.tup [.str "go", .int 1])) t2 = some (.tup [.str "go", .int 1]) := upd_same
    generalize upd Gc t2 (.tup [.str "go", .int 1]) = Gd at s4 f3
    refine ⟨by show 1 ≤ sizeLine; decide, fun t3 h3 => ?_⟩
    have nt3 := (((pa.same s2').same s3).same s4).ne h3
    have s5 : Same Gd (upd Gd t3 (.tup [.non])) := same_new h3
    have f4 : (upd Gd t3 (.tup [.non])) t3 = some (.tup [.non]) := upd_same
    generalize upd Gd t3 (.tup [.non]) = Ge at s5 f4
    have sae := ((s2'.trans s3).trans s4).trans s5
    have pe := pa.same sae
    refine disp_take (i := 2) rfl pe (by omega) rfl (by decide) (by decide) fun odd Gf mo kf pf => ?_
    have ob : Ob C "no worth of the width" p Gf odd := by
      have gi : ∀ {k : Nat}, TV p Gf 200 k 60 (.str "go") := TV.str (by decide +kernel) (by decide)
      have g1 : ∀ {k : Nat}, TV p Gf 200 k 14 (.int 1) := TV.int (by decide) (by decide)
      simp only [List.mem_cons, List.not_mem_nil, or_false] at mo
      rcases mo with rfl | rfl | rfl | rfl | rfl | rfl | rfl | rfl | rfl
      · exact .inl (TV.non.mono (Nat.le_refl _) (Nat.le_refl _) (by omega))
      · exact .inl ((TV.int (by decide) (by decide)).mono (Nat.le_refl _) (Nat.le_refl _) (by omega))
      · exact .inl (gi.mono (Nat.le_refl _) (Nat.le_refl _) (by omega))
      · exact .inr (.inl ⟨e0, rfl, ne0, kf _ _ ne0 (sae _ _ (s1 _ _ f0))⟩)
      · exact .inl (TV.bl.mono (Nat.le_refl _) (Nat.le_refl _) (by omega))
      · exact (ExV.ob pe (ev.same sae)).kp kf
      · have a1 : TV p Gf 200 1 200 (.ref t1) := (TV.tup (TL.cons gi (TL.one g1)) nt1 (kf _ _ nt1 (s5 _ _ (s4 _ _ (s3 _ _ f1)))) (by omega)).mono (Nat.le_refl _) (Nat.le_refl 1) (by omega)
        exact .inl ((TV.lst (TL.one a1) nl1 (kf _ _ nl1 (s5 _ _ (s4 _ _ f2))) (by omega)).mono (Nat.le_refl _) (by omega) (by omega))
      · exact .inl ((TV.tup (k := 1) (TL.cons gi (TL.one g1)) nt2 (kf _ _ nt2 (s5 _ _ f3)) (by omega)).mono (Nat.le_refl _) (by omega) (by omega))
      · exact .inl ((TV.tup (k := 1) (TL.one TV.non) nt3 (kf _ _ nt3 f4) (by omega)).mono (Nat.le_refl _) (by omega) (by omega))
    have k8f : Kp (· ≠ p) G8 Gf := (kp_same ((s0.trans s1).trans sae)).trans kf
    clear s0 f0 s1 ev s2' f1 s3 f2 s4 f3 s5 f4 sae pe kf mo nt1 nt2 nt3 nl1 ne0 pa
    have hmf := k8f _ _ nsm hm8
    dsimp only [gName]
    -- one register fewer, or none
    refine ⟨_, rfl, sm, _, 0, _, rfl, rfl, SqL.of hmf, rfl, _, _, rfl, rfl, disp_take (i := 2) rfl pf (by omega) rfl (by decide) (by decide) fun fv Gg mf kg pg => ⟨by show 1 ≤ sizeLine; decide, fun l2 hl2 => ⟨_, rfl, 1, rfl, noPart ⟨sm, _, rfl, SqL.of ((same_new hl2) _ _ (kg _ _ nsm hmf)), fun l3 hl3 => ?_⟩⟩⟩⟩
    have e2 : Same Gg (upd Gg l2 (.lst [fv])) := same_new hl2
    have g2 : (upd Gg l2 (.lst [fv])) l2 = some (.lst [fv]) := upd_same
    generalize upd Gg l2 (.lst [fv]) = Gh at e2 g2 hl3
    have e3 : Same Gh (upd Gh l3 (.lst (cutV z.list (some 1) none))) := same_new hl3
    have g3 : (upd Gh l3 (.lst (cutV z.list (some 1) none))) l3 = some (.lst (cutV z.list (some 1) none)) := upd_same
    generalize upd Gh l3 (.lst (cutV z.list (some 1) none)) = Gi at e3 g3
    refine ⟨l2, l3, [fv], _, rfl, rfl, e3 _ _ g2, g3, by show 1 + 3 ≤ sizeLine; decide, fun fw hfw _ => ?_⟩
    obtain ⟨r', rfl, hr'⟩ : ∃ r' : Int, fv = .int r' ∧ 0 ≤ r' := by
      simp only [List.mem_cons, List.not_mem_nil, or_false] at mf
      rcases mf with rfl | rfl
      · exact ⟨0, rfl, by decide⟩
      · exact ⟨_, rfl, by have := zok.1.1; omega⟩
    have e4 : Same Gi (upd Gi fw (.lst (Rm.list ⟨r', z.c, z.i, z.o⟩))) := same_new hfw
    have g4 : (upd Gi fw (.lst (Rm.list ⟨r', z.c, z.i, z.o⟩))) fw = some (.lst (Rm.list ⟨r', z.c, z.i, z.o⟩)) := upd_same
    rw [show ([V.int r'] ++ cutV z.list (some 1) none) = Rm.list ⟨r', z.c, z.i, z.o⟩ from rfl]
    have pi := ((pg.same e2).same e3).same e4
    have nfw := ((pg.same e2).same e3).ne hfw
    generalize upd Gi fw (.lst (Rm.list ⟨r', z.c, z.i, z.o⟩)) = Gj at e4 g4 pi
    have k8j : Kp (· ≠ p) G8 Gj := (k8f.trans kg).trans (kp_same ((e2.trans e3).trans e4))
    have kfj : Kp (· ≠ p) Gf Gj := kg.trans (kp_same ((e2.trans e3).trans e4))
    clear e2 e3 e4 g2 g3 mf
    dsimp only [gName]
    -- the five
    refine ⟨_, rfl, _, rfl, _, rfl, _, rfl, _, rfl, p, sm, _, z, bv, 26, 5, 37000, rfl, pi, by omega, k8j _ _ nsm hm8, zok, tvB.kp k8j, ⟨by omega, by omega⟩, fun b2 Gk tv2 kk pk => ?_⟩
    refine ⟨_, rfl, _, rfl, _, rfl, p, sm, _, z, .ref st, 12, 3, 4000, rfl, pk, by omega, kk _ _ nsm (k8j _ _ nsm hm8), zok, (tvS8.kp k8j).kp kk, ⟨by omega, by omega⟩, fun b3 Gl tv3 kl pl => ?_⟩
    refine ⟨_, rfl, by show 5 ≤ sizeLine; decide, fun Ls hLs => ?_⟩
    have nLs := pl.ne hLs
    have s6 : Same Gl (upd Gl Ls (.lst [.ref st, bv, b2, b3, odd])) := same_new hLs
    have g6 : (upd Gl Ls (.lst [.ref st, bv, b2, b3, odd])) Ls = some (.lst [.ref st, bv, b2, b3, odd]) := upd_same
    generalize upd Gl Ls (.lst [.ref st, bv, b2, b3, odd]) = Gm at s6 g6
    have kjl := kk.trans kl
    have klm : Kp (· ≠ p) Gl Gm := kp_same s6
    have kjm := kjl.trans klm
    have k8m := k8j.trans kjm
    have five : ∀ x ∈ [V.ref st, bv, b2, b3, odd], Ob C "no worth of the width" p Gm x := fun x mx => by
      simp only [List.mem_cons, List.not_mem_nil, or_false] at mx
      rcases mx with rfl | rfl | rfl | rfl | rfl
      · exact .inl ((tvS8.kp k8m).mono (by omega) (by omega) (by omega))
      · exact .inl ((tvB.kp k8m).mono (by omega) (by omega) (by omega))
      · exact .inl ((tv2.kp (kl.trans klm)).mono (by omega) (by omega) (by omega))
      · exact .inl ((tv3.kp klm).mono (by omega) (by omega) (by omega))
      · exact ob.kp (kfj.trans kjm)
    have hmm := k8m _ _ nsm hm8
    have hwm := kjm _ _ nfw g4
    have shm := sh_kp (k8.trans k8m) shS
    have k2m := k28.trans k8m
    refine ⟨Ls, rfl, ⟨_, SqL.of g6⟩, for_list (K := K) (a := Ls) (xs := [.ref st, bv, b2, b3, odd]) (fun _ σ G => (∃ w9 w10, σ = [some (.ref a), some (.int (0 + (i : Int))), some (.ref p), some (.ref sm), some (.int many), some (.ref st), some bv, some odd, some (.ref fw), w9, w10]) ∧ Kp (· ≠ p) Gm G)
      ⟨⟨_, _, rfl⟩, fun _ _ _ e => e⟩ (fun j σ G _ pv => SqL.of (pv.2 _ _ nLs g6)) (fun j x σ G hx pv => ?_) fun σ G pv => ?_⟩
    · obtain ⟨⟨w9, w10, rfl⟩, kG⟩ := pv
      have ox' := (five x (List.mem_of_getElem? hx)).kp kG
      refine ⟨_, rfl, _, rfl, _, rfl, .ref p, x, sm, z, rfl, ox'.tg ef kt el, kG _ _ nsm hmm, by have := zok.1.1; omega, zok.2.1.1, zok.2.2.1.1, zok.2.2.2.1, fun Gn sn => ⟨_, rfl, iteF ?_⟩⟩
      refine ⟨_, rfl, _, rfl, _, rfl, .ref p, x, fw, ⟨r', z.c, z.i, z.o⟩, rfl, (ox'.tg ef kt el).same sn, sn _ _ (kG _ _ nfw hwm), hr', zok.2.1.1, zok.2.2.1.1, zok.2.2.2.1, fun Go so => ⟨_, rfl, iteF ?_⟩⟩
      exact ⟨⟨_, _, rfl⟩, kG.trans (kp_same (sn.trans so))⟩
    · obtain ⟨⟨w9, w10, rfl⟩, kG⟩ := pv
      refine ⟨_, rfl, _, rfl, .ref st, some (.tuple ds), sm, z, rfl, .dat (sh_da (by decide) _ _ ftS (sh_kp kG shm)), kG _ _ nsm hmm, fun Gn sn => ?_⟩
      rw [tru]
      exact ⟨_, rfl, iteF ⟨⟨_, _, _, _, _, _, _, _, _, _, rfl⟩, Same.seq sn (back (k2m.trans kG))⟩⟩
end
end J
end Bf

namespace Bf
open PySem PySem.Spec PyProof.Rows L2
namespace J
/-- a written table of tuples of texts -/
inductive FTab (K : PySem.W.Frag) : List (Str × List Str) → List (Str × V) → Prop
  | nil : FTab K [] []
  | cons {k : Str} {xs : List Str} {a : Addr} {t : List (Str × List Str)} {tb : List (Str × V)} (h : ∀ H, SqT K H a (xs.map V.str)) (r : FTab K t tb) : FTab K ((k, xs) :: t) ((k, .ref a) :: tb)
theorem FTab.none {K : PySem.W.Frag} {z : Str} : ∀ {t : List (Str × List Str)} {tb : List (Str × V)}, FTab K t tb → lk z t = none → lk z tb = none
  | _, _, .nil, _ => rfl
  | _, _, .cons (k := k) h r, e => by
    unfold lk at e ⊢
    by_cases c : (k == z) = true
    · rw [if_pos c] at e; cases e
    · rw [if_neg c] at e ⊢
      exact FTab.none r e
theorem FTab.some {K : PySem.W.Frag} {z : Str} {xs : List Str} : ∀ {t : List (Str × List Str)} {tb : List (Str × V)}, FTab K t tb → lk z t = some xs → ∃ a, lk z tb = some (.ref a) ∧ ∀ H, SqT K H a (xs.map V.str)
  | _, _, .nil, e => by cases e
  | _, _, .cons (k := k) (a := a) h r, e => by
    unfold lk at e ⊢
    by_cases c : (k == z) = true
    · rw [if_pos c] at e ⊢
      cases e
      exact ⟨a, rfl, h⟩
    · rw [if_neg c] at e ⊢
      exact FTab.some r e
theorem kit_tuple {K : PySem.W.Frag} {C : Addr} {b : Bool} (h : PySem.W.subIn K (.ref C) (.type "tuple") = some b) : PySem.W.kitOne K (.ref C) (.type "tuple") = some b := by
  show (if (Value.ref C == Value.type "tuple") = true then some true else if PySem.W.kitMeta "tuple" = true then PySem.W.subIn K (.ref C) (.type "tuple") else none) = some b
  rw [if_neg (show ¬(Value.ref C == Value.type "tuple") = true from fun z => nomatch (beq_iff_eq.mp z)), if_pos (by decide +kernel)]
  exact h
theorem told_len {m : Str} (cd : ClassData) (h : cd.name = "NoWorth") (l : (Str.ofString ((Str.toString (Str.ofString "NoWorth") |>.cutAt '.').getLastD "") ++ Str.ofString "(" ++ reprText m ++ Str.ofString ")").length ≤ sizeLine := by decide +kernel) : (excTold cd m).length ≤ sizeLine := by
  unfold excTold
  rw [h]
  exact l
end J
end Bf

namespace Bf
open PySem PySem.Spec PyProof.Rows L2
namespace J
set_option maxHeartbeats 4000000 in
theorem all_mk {l : PySem.W.OpenLaw} {w : World} {K : PySem.W.Frag} {h : Heap} {mg : Str → Option Value} {fa : Addr} (X : K.In h) (G : h.Ns mainGlobals mg) (hfa : mg "law" = some (.ref fa))
    {fnb : Addr} {odnb annb : Option Addr} {slnb : Array (Option Value)} {ocnb kVnb dcnb pmnb cdnb ctnb : Value}
    {fwh : Addr} {odwh anwh : Option Addr} {slwh : Array (Option Value)} {ocwh kVwh dcwh pmwh cdwh ctwh : Value}
    {fwi : Addr} {odwi anwi : Option Addr} {slwi : Array (Option Value)} {ocwi kVwi dcwi pmwi cdwi ctwi : Value}
    {ftr : Addr} {odtr antr : Option Addr} {sltr : Array (Option Value)} {octr kVtr dctr pmtr cdtr cttr : Value}
    {fai : Addr} {odai anai : Option Addr} {slai : Array (Option Value)} {ocai kVai dcai pmai cdai ctai : Value}
    {fii : Addr} {odii anii : Option Addr} {slii : Array (Option Value)} {ocii kVii dcii pmii cdii ctii : Value}
    {ffi : Addr} {odfi anfi : Option Addr} {slfi : Array (Option Value)} {ocfi kVfi dcfi pmfi cdfi ctfi : Value}
    {frk : Addr} {odrk anrk : Option Addr} {slrk : Array (Option Value)} {ocrk kVrk dcrk pmrk cdrk ctrk : Value}
    {fas : Addr} {odas anas : Option Addr} {slas : Array (Option Value)} {ocas kVas dcas pmas cdas ctas : Value}
    {fce : Addr} {odce ance : Option Addr} {slce : Array (Option Value)} {occe kVce dcce pmce cdce ctce : Value}
    {fbx : Addr} {odbx anbx : Option Addr} {slbx : Array (Option Value)} {ocbx kVbx dcbx pmbx cdbx ctbx : Value}
    {fta : Addr} {odta anta : Option Addr} {slta : Array (Option Value)} {octa kVta dcta pmta cdta ctta : Value}
    {frg : Addr} {odrg anrg : Option Addr} {slrg : Array (Option Value)} {ocrg kVrg dcrg pmrg cdrg ctrg : Value}
    {fdo : Addr} {oddo ando : Option Addr} {sldo : Array (Option Value)} {ocdo kVdo dcdo pmdo cddo ctdo : Value}
    {fst : Addr} {odst anst : Option Addr} {slst : Array (Option Value)} {ocst kVst dcst pmst cdst ctst : Value}
    {flw : Addr} {odlw anlw : Option Addr} {sllw : Array (Option Value)} {oclw kVlw dclw pmlw cdlw ctlw : Value}
    {fid : Addr} {odid anid : Option Addr} {slid : Array (Option Value)} {ocid kVid dcid pmid cdid ctid : Value}
    {fis : Addr} {odis anis : Option Addr} {slis : Array (Option Value)} {ocis kVis dcis pmis cdis ctis : Value}
    {fdu : Addr} {oddu andu : Option Addr} {sldu : Array (Option Value)} {ocdu kVdu dcdu pmdu cddu ctdu : Value}
    {fbe : Addr} {odbe anbe : Option Addr} {slbe : Array (Option Value)} {ocbe kVbe dcbe pmbe cdbe ctbe : Value}
    {fri : Addr} {odri anri : Option Addr} {slri : Array (Option Value)} {ocri kVri dcri pmri cdri ctri : Value}
    {fla : Addr} {odla anla : Option Addr} {slla : Array (Option Value)} {ocla kVla dcla pmla cdla ctla : Value}
    {dF : Addr} {esdF : Array DictEntry} {ndF : Nat} {qdF0 qdF1 qdF2 qdF3 qdF4 qdF5 qdF6 qdF7 qdF8 : Addr}
    {odqdF0t : Option Addr} {slqdF0t : Array (Option Value)} {nqdF0t : Nat} {twqdF0x0 twqdF0x1 : Tok}
    {odqdF1t : Option Addr} {slqdF1t : Array (Option Value)} {nqdF1t : Nat} {twqdF1x0 twqdF1x1 twqdF1x2 twqdF1x3 twqdF1x4 : Tok}
    {odqdF2t : Option Addr} {slqdF2t : Array (Option Value)} {nqdF2t : Nat} {twqdF2x0 twqdF2x1 twqdF2x2 twqdF2x3 : Tok}
    {odqdF3t : Option Addr} {slqdF3t : Array (Option Value)} {nqdF3t : Nat} {twqdF3x0 twqdF3x1 : Tok}
    {odqdF4t : Option Addr} {slqdF4t : Array (Option Value)} {nqdF4t : Nat} {twqdF4x0 twqdF4x1 : Tok}
    {odqdF5t : Option Addr} {slqdF5t : Array (Option Value)} {nqdF5t : Nat} {twqdF5x0 twqdF5x1 : Tok}
    {odqdF6t : Option Addr} {slqdF6t : Array (Option Value)} {nqdF6t : Nat} {twqdF6x0 twqdF6x1 : Tok}
    {odqdF7t : Option Addr} {slqdF7t : Array (Option Value)} {nqdF7t : Nat} {twqdF7x0 : Tok}
    {odqdF8t : Option Addr} {slqdF8t : Array (Option Value)} {nqdF8t : Nat} {twqdF8x0 twqdF8x1 twqdF8x2 : Tok}
    {dW : Addr} {oddWt : Option Addr} {sldWt : Array (Option Value)} {ndWt : Nat} {twdWx0 twdWx1 twdWx2 twdWx3 twdWx4 twdWx5 twdWx6 twdWx7 twdWx8 twdWx9 : Tok}
    {dO : Addr} {oddOt : Option Addr} {sldOt : Array (Option Value)} {ndOt : Nat} {twdOx0 twdOx1 twdOx2 : Tok}
    {CF fF : Addr} {odF anF : Option Addr} {slF : Array (Option Value)} {ocF kVF dcF pmF cdF ctF : Value}
    {CW fW : Addr} {odW anW : Option Addr} {slW : Array (Option Value)} {ocW kVW dcW pmW cdW ctW : Value} {nmW qW : Str} {NW : Addr} {bsW bmW : List Value} {snW : List Str} {subW : List Value} {abW : Bool} {colW : Option Bool} {ddW : Option Addr} {m0W m1W m2W m3W m5W : Option Value}
    (anb : PySem.W.nsIn K mainGlobals "is_number" = some (some (.ref fnb)))
    (lnb : K.lookup fnb = some ⟨ocnb, odnb, .func (PySem.W.fnOf "is_number" "is_number" (defArgs sNumber) (defBody sNumber) (defScope sNumber) .none kVnb dcnb pmnb annb cdnb ctnb), slnb⟩)
    (cnb : PySem.W.codeIn K cdnb "is_number" = true)
    (knb : PySem.W.keepIn K (.ref fnb) = true)
    (awh : PySem.W.nsIn K mainGlobals "is_whole" = some (some (.ref fwh)))
    (lwh : K.lookup fwh = some ⟨ocwh, odwh, .func (PySem.W.fnOf "is_whole" "is_whole" (defArgs sWhole) (defBody sWhole) (defScope sWhole) .none kVwh dcwh pmwh anwh cdwh ctwh), slwh⟩)
    (cwh : PySem.W.codeIn K cdwh "is_whole" = true)
    (kwh : PySem.W.keepIn K (.ref fwh) = true)
    (awi : PySem.W.nsIn K mainGlobals "is_width" = some (some (.ref fwi)))
    (lwi : K.lookup fwi = some ⟨ocwi, odwi, .func (PySem.W.fnOf "is_width" "is_width" (defArgs sWidth) (defBody sWidth) (defScope sWidth) .none kVwi dcwi pmwi anwi cdwi ctwi), slwi⟩)
    (cwi : PySem.W.codeIn K cdwi "is_width" = true)
    (kwi : PySem.W.keepIn K (.ref fwi) = true)
    (atr : PySem.W.nsIn K mainGlobals "is_truth" = some (some (.ref ftr)))
    (ltr : K.lookup ftr = some ⟨octr, odtr, .func (PySem.W.fnOf "is_truth" "is_truth" (defArgs sTruth) (defBody sTruth) (defScope sTruth) .none kVtr dctr pmtr antr cdtr cttr), sltr⟩)
    (ctr : PySem.W.codeIn K cdtr "is_truth" = true)
    (ktr : PySem.W.keepIn K (.ref ftr) = true)
    (aai : PySem.W.nsIn K mainGlobals "are_instructions" = some (some (.ref fai)))
    (lai : K.lookup fai = some ⟨ocai, odai, .func (PySem.W.fnOf "are_instructions" "are_instructions" (defArgs sAreI) (defBody sAreI) (defScope sAreI) .none kVai dcai pmai anai cdai ctai), slai⟩)
    (cai : PySem.W.codeIn K cdai "are_instructions" = true)
    (kai : PySem.W.keepIn K (.ref fai) = true)
    (aii : PySem.W.nsIn K mainGlobals "_is_instruction" = some (some (.ref fii)))
    (lii : K.lookup fii = some ⟨ocii, odii, .func (PySem.W.fnOf "_is_instruction" "_is_instruction" (defArgs sIsI) (defBody sIsI) (defScope sIsI) .none kVii dcii pmii anii cdii ctii), slii⟩)
    (cii : PySem.W.codeIn K cdii "_is_instruction" = true)
    (kii : PySem.W.keepIn K (.ref fii) = true)
    (afi : PySem.W.nsIn K mainGlobals "_fits_slot" = some (some (.ref ffi)))
    (lfi : K.lookup ffi = some ⟨ocfi, odfi, .func (PySem.W.fnOf "_fits_slot" "_fits_slot" (defArgs sFits) (defBody sFits) (defScope sFits) .none kVfi dcfi pmfi anfi cdfi ctfi), slfi⟩)
    (cfi : PySem.W.codeIn K cdfi "_fits_slot" = true)
    (kfi : PySem.W.keepIn K (.ref ffi) = true)
    (ark : PySem.W.nsIn K mainGlobals "_is_reckoning" = some (some (.ref frk)))
    (lrk : K.lookup frk = some ⟨ocrk, odrk, .func (PySem.W.fnOf "_is_reckoning" "_is_reckoning" (defArgs sReck) (defBody sReck) (defScope sReck) .none kVrk dcrk pmrk anrk cdrk ctrk), slrk⟩)
    (crk : PySem.W.codeIn K cdrk "_is_reckoning" = true)
    (krk : PySem.W.keepIn K (.ref frk) = true)
    (aas : PySem.W.nsIn K mainGlobals "are_steps" = some (some (.ref fas)))
    (las : K.lookup fas = some ⟨ocas, odas, .func (PySem.W.fnOf "are_steps" "are_steps" (defArgs sAreS) (defBody sAreS) (defScope sAreS) .none kVas dcas pmas anas cdas ctas), slas⟩)
    (cas : PySem.W.codeIn K cdas "are_steps" = true)
    (kas : PySem.W.keepIn K (.ref fas) = true)
    (ace : PySem.W.nsIn K mainGlobals "_law_cell" = some (some (.ref fce)))
    (lce : K.lookup fce = some ⟨occe, odce, .func (PySem.W.fnOf "_law_cell" "_law_cell" (defArgs sCell) (defBody sCell) (defScope sCell) .none kVce dcce pmce ance cdce ctce), slce⟩)
    (cce : PySem.W.codeIn K cdce "_law_cell" = true)
    (kce : PySem.W.keepIn K (.ref fce) = true)
    (abx : PySem.W.nsIn K mainGlobals "_law_box" = some (some (.ref fbx)))
    (lbx : K.lookup fbx = some ⟨ocbx, odbx, .func (PySem.W.fnOf "_law_box" "_law_box" (defArgs sBox) (defBody sBox) (defScope sBox) .none kVbx dcbx pmbx anbx cdbx ctbx), slbx⟩)
    (cbx : PySem.W.codeIn K cdbx "_law_box" = true)
    (kbx : PySem.W.keepIn K (.ref fbx) = true)
    (ata : PySem.W.nsIn K mainGlobals "_law_take" = some (some (.ref fta)))
    (lta : K.lookup fta = some ⟨octa, odta, .func (PySem.W.fnOf "_law_take" "_law_take" (defArgs sTake) (defBody sTake) (defScope sTake) .none kVta dcta pmta anta cdta ctta), slta⟩)
    (cta : PySem.W.codeIn K cdta "_law_take" = true)
    (kta : PySem.W.keepIn K (.ref fta) = true)
    (arg : PySem.W.nsIn K mainGlobals "_law_register" = some (some (.ref frg)))
    (lrg : K.lookup frg = some ⟨ocrg, odrg, .func (PySem.W.fnOf "_law_register" "_law_register" (defArgs sReg) (defBody sReg) (defScope sReg) .none kVrg dcrg pmrg anrg cdrg ctrg), slrg⟩)
    (crg : PySem.W.codeIn K cdrg "_law_register" = true)
    (krg : PySem.W.keepIn K (.ref frg) = true)
    (ado : PySem.W.nsIn K mainGlobals "_law_do" = some (some (.ref fdo)))
    (ldo : K.lookup fdo = some ⟨ocdo, oddo, .func (PySem.W.fnOf "_law_do" "_law_do" (defArgs sDo) (defBody sDo) (defScope sDo) .none kVdo dcdo pmdo ando cddo ctdo), sldo⟩)
    (cdo : PySem.W.codeIn K cddo "_law_do" = true)
    (kdo : PySem.W.keepIn K (.ref fdo) = true)
    (ast : PySem.W.nsIn K mainGlobals "_law_step" = some (some (.ref fst)))
    (lst : K.lookup fst = some ⟨ocst, odst, .func (PySem.W.fnOf "_law_step" "_law_step" (defArgs sStep) (defBody sStep) (defScope sStep) .none kVst dcst pmst anst cdst ctst), slst⟩)
    (cst : PySem.W.codeIn K cdst "_law_step" = true)
    (kst : PySem.W.keepIn K (.ref fst) = true)
    (alw : PySem.W.nsIn K mainGlobals "_law_whole" = some (some (.ref flw)))
    (llw : K.lookup flw = some ⟨oclw, odlw, .func (PySem.W.fnOf "_law_whole" "_law_whole" (defArgs sLWhole) (defBody sLWhole) (defScope sLWhole) .none kVlw dclw pmlw anlw cdlw ctlw), sllw⟩)
    (clw : PySem.W.codeIn K cdlw "_law_whole" = true)
    (klw : PySem.W.keepIn K (.ref flw) = true)
    (aid : PySem.W.nsIn K mainGlobals "_law_is_do" = some (some (.ref fid)))
    (lid : K.lookup fid = some ⟨ocid, odid, .func (PySem.W.fnOf "_law_is_do" "_law_is_do" (defArgs sIsDo) (defBody sIsDo) (defScope sIsDo) .none kVid dcid pmid anid cdid ctid), slid⟩)
    (cid : PySem.W.codeIn K cdid "_law_is_do" = true)
    (kid : PySem.W.keepIn K (.ref fid) = true)
    (ais : PySem.W.nsIn K mainGlobals "_law_is_step" = some (some (.ref fis)))
    (lis : K.lookup fis = some ⟨ocis, odis, .func (PySem.W.fnOf "_law_is_step" "_law_is_step" (defArgs sIsStep) (defBody sIsStep) (defScope sIsStep) .none kVis dcis pmis anis cdis ctis), slis⟩)
    (cis : PySem.W.codeIn K cdis "_law_is_step" = true)
    (kis : PySem.W.keepIn K (.ref fis) = true)
    (adu : PySem.W.nsIn K mainGlobals "_law_due" = some (some (.ref fdu)))
    (ldu : K.lookup fdu = some ⟨ocdu, oddu, .func (PySem.W.fnOf "_law_due" "_law_due" (defArgs sDue) (defBody sDue) (defScope sDue) .none kVdu dcdu pmdu andu cddu ctdu), sldu⟩)
    (cdu : PySem.W.codeIn K cddu "_law_due" = true)
    (kdu : PySem.W.keepIn K (.ref fdu) = true)
    (abe : PySem.W.nsIn K mainGlobals "_law_bent" = some (some (.ref fbe)))
    (lbe : K.lookup fbe = some ⟨ocbe, odbe, .func (PySem.W.fnOf "_law_bent" "_law_bent" (defArgs sBent) (defBody sBent) (defScope sBent) .none kVbe dcbe pmbe anbe cdbe ctbe), slbe⟩)
    (cbe : PySem.W.codeIn K cdbe "_law_bent" = true)
    (kbe : PySem.W.keepIn K (.ref fbe) = true)
    (ari : PySem.W.nsIn K mainGlobals "_law_right" = some (some (.ref fri)))
    (lri : K.lookup fri = some ⟨ocri, odri, .func (PySem.W.fnOf "_law_right" "_law_right" (defArgs sRight) (defBody sRight) (defScope sRight) .none kVri dcri pmri anri cdri ctri), slri⟩)
    (cri : PySem.W.codeIn K cdri "_law_right" = true)
    (kri : PySem.W.keepIn K (.ref fri) = true)
    (ala : PySem.W.nsIn K mainGlobals "law" = some (some (.ref fla)))
    (lla : K.lookup fla = some ⟨ocla, odla, .func (PySem.W.fnOf "law" "law" (defArgs sLaw) (defBody sLaw) (defScope sLaw) .none kVla dcla pmla anla cdla ctla), slla⟩)
    (cla : PySem.W.codeIn K cdla "law" = true)
    (kla : PySem.W.keepIn K (.ref fla) = true)
    (gdF : PySem.W.nsIn K mainGlobals "FORMS_OF_STEPS" = some (some (.ref dF)))
    (ldF : K.lookup dF = some ⟨.type "dict", none, .dict esdF ndF, #[]⟩)
    (ydF : PySem.W.KeysLit w.params esdF.toList)
    (lowdF : (dF == sysModules) = false)
    (wdF : Rows esdF.toList [("put", V.ref qdF0), ("do", V.ref qdF1), ("pick", V.ref qdF2), ("read", V.ref qdF3), ("write", V.ref qdF4), ("in", V.ref qdF5), ("out", V.ref qdF6), ("go", V.ref qdF7), ("skip", V.ref qdF8)])
    (lqdF0t : K.lookup qdF0 = some ⟨.type "tuple", odqdF0t, .seq #[.str "registers" twqdF0x0, .str "worth" twqdF0x1] nqdF0t, slqdF0t⟩)
    (lqdF1t : K.lookup qdF1 = some ⟨.type "tuple", odqdF1t, .seq #[.str "registers" twqdF1x0, .str "word" twqdF1x1, .str "width" twqdF1x2, .str "args" twqdF1x3, .str "more" twqdF1x4] nqdF1t, slqdF1t⟩)
    (lqdF2t : K.lookup qdF2 = some ⟨.type "tuple", odqdF2t, .seq #[.str "registers" twqdF2x0, .str "registers" twqdF2x1, .str "registers" twqdF2x2, .str "registers" twqdF2x3] nqdF2t, slqdF2t⟩)
    (lqdF3t : K.lookup qdF3 = some ⟨.type "tuple", odqdF3t, .seq #[.str "registers" twqdF3x0, .str "cells" twqdF3x1] nqdF3t, slqdF3t⟩)
    (lqdF4t : K.lookup qdF4 = some ⟨.type "tuple", odqdF4t, .seq #[.str "cells" twqdF4x0, .str "registers" twqdF4x1] nqdF4t, slqdF4t⟩)
    (lqdF5t : K.lookup qdF5 = some ⟨.type "tuple", odqdF5t, .seq #[.str "registers" twqdF5x0, .str "ins" twqdF5x1] nqdF5t, slqdF5t⟩)
    (lqdF6t : K.lookup qdF6 = some ⟨.type "tuple", odqdF6t, .seq #[.str "outs" twqdF6x0, .str "registers" twqdF6x1] nqdF6t, slqdF6t⟩)
    (lqdF7t : K.lookup qdF7 = some ⟨.type "tuple", odqdF7t, .seq #[.str "many" twqdF7x0] nqdF7t, slqdF7t⟩)
    (lqdF8t : K.lookup qdF8 = some ⟨.type "tuple", odqdF8t, .seq #[.str "registers" twqdF8x0, .str "truth" twqdF8x1, .str "many" twqdF8x2] nqdF8t, slqdF8t⟩)
    (gdW : PySem.W.nsIn K mainGlobals "WORDS" = some (some (.ref dW)))
    (ldWt : K.lookup dW = some ⟨.type "tuple", oddWt, .seq #[.str "not" twdWx0, .str "and" twdWx1, .str "or" twdWx2, .str "xor" twdWx3, .str "add" twdWx4, .str "sub" twdWx5, .str "less" twdWx6, .str "same" twdWx7, .str "wide" twdWx8, .str "bit" twdWx9] ndWt, sldWt⟩)
    (gdO : PySem.W.nsIn K mainGlobals "WORDS_OF_ONE" = some (some (.ref dO)))
    (ldOt : K.lookup dO = some ⟨.type "tuple", oddOt, .seq #[.str "not" twdOx0, .str "wide" twdOx1, .str "bit" twdOx2] ndOt, sldOt⟩)
    (aF : PySem.W.nsIn K mainGlobals "FlowError" = some (some (.ref CF)))
    (rF : PySem.W.readsIn K CF (.type "type") = true)
    (gF : PySem.W.specialIn K (.ref CF) "__getattribute__" = some (some (.builtin "type.__getattribute__")))
    (vF : PySem.W.findCls K (.ref CF) (.type "type") "__init__" = some (.val (.ref fF)))
    (lF : K.lookup fF = some ⟨ocF, odF, .func (PySem.W.fnOf "__init__" "FlowError.__init__" (defArgs sFE) (defBody sFE) (defScope sFE) .none kVF dcF pmF anF cdF ctF), slF⟩)
    (cF : PySem.W.codeIn K cdF "FlowError.__init__" = true)
    (kF : PySem.W.keepIn K (.ref fF) = true)
    (vV : PySem.W.findCls K (.type "ValueError") (.type "type") "__init__" = some (.val (.builtin "ValueError.__init__")))
    (aW : PySem.W.nsIn K mainGlobals "NoWorth" = some (some (.ref CW)))
    (xW : K.lookup CW = some (excClassObj nmW qW CW NW bsW bmW true snW subW abW colW ddW m0W m1W m2W m3W m5W "ValueError.__new__"))
    (veW : PySem.HandSPX.refsVE bmW = true)
    (saW : PySem.W.findIn K (.ref CW) "__setattr__" = some (some (.builtin "object.__setattr__")))
    (gaW : PySem.W.findIn K (.ref CW) "__getattribute__" = some (some (.builtin "BaseException.__getattribute__")))
    (ggW : PySem.W.findIn K (.ref CW) "__getattr__" = some none)
    (nfW : PySem.W.findIn K (.ref CW) "found" = some none)
    (iW : PySem.W.findIn K (.ref CW) "__init__" = some (some (.ref fW)))
    (tW : PySem.W.typeIn K (.ref fW) = some (.type "function"))
    (lW : K.lookup fW = some ⟨ocW, odW, .func (PySem.W.fnOf "__init__" "NoWorth.__init__" (defArgs sNW) (defBody sNW) (defScope sNW) .none kVW dcW pmW anW cdW ctW), slW⟩)
    (cW : PySem.W.codeIn K cdW "NoWorth.__init__" = true)
    (kW : PySem.W.keepIn K (.ref fW) = true)
    (kCW : PySem.W.keepIn K (.ref CW) = true)
    (eCW : PySem.W.subIn K (.ref CW) (.type "BaseException") = some true)
    (tCW : PySem.W.typeIn K (.ref CW) = some (.type "type"))
    (hCW : PySem.W.hasDictIn K CW = true)
    (haW : PySem.W.findIn K (.ref CW) "__class__" = some (some (.builtin "object.__class__")))
    (hnW : PySem.W.specialIn K (.builtin "object.__class__") "__get__" = some (some (.builtin "getset_descriptor.__get__")))
    (htW : PySem.W.takesIn K (.builtin "object.__class__") = some true)
    (hmW : PySem.W.mroIn K CW (.type "object") = some true)
    (hrW : PySem.W.findIn K (.ref CW) "__repr__" = some (some (.builtin "BaseException.__repr__")))
    (utW : PySem.W.subIn K (.ref CW) (.type "tuple") = some false)
    (nmE : nmW = "NoWorth")
    (zisinstance : PySem.W.nsIn K mainGlobals "isinstance" = some none)
    (zint : PySem.W.nsIn K mainGlobals "int" = some none)
    (zbool : PySem.W.nsIn K mainGlobals "bool" = some none)
    (zlist : PySem.W.nsIn K mainGlobals "list" = some none)
    (ztuple : PySem.W.nsIn K mainGlobals "tuple" = some none)
    (zrange : PySem.W.nsIn K mainGlobals "range" = some none)
    (zlen : PySem.W.nsIn K mainGlobals "len" = some none)
    (zall : PySem.W.nsIn K mainGlobals "all" = some none)
    (zValueError : PySem.W.nsIn K mainGlobals "ValueError" = some none)
    (zmax : PySem.W.nsIn K mainGlobals "max" = some none)
    (zmin : PySem.W.nsIn K mainGlobals "min" = some none)
    (zrepr : PySem.W.nsIn K mainGlobals "repr" = some none)
    (zzip : PySem.W.nsIn K mainGlobals "zip" = some none)
    (zstr : PySem.W.nsIn K mainGlobals "str" = some none)
    (zenumerate : PySem.W.nsIn K mainGlobals "enumerate" = some none) :
    ∃ fd : FuncData, (∀ (s : Shared) (v : Value), BindsTo s fd ⟨[v], []⟩ [("_law_script", v)]) ∧ ∀ base : Heap, K.In base → base.Ns mainGlobals mg → FnG l.prog w K mg base CX0 9 fa fd ["_law_script"] (spLaw K) := by
  have e := hfa.symm.trans (PySem.W.mg_of X G ala)
  cases e
  have Fnb := fun_mk (st := sNumber) lnb cnb knb
  have bnb := Fnb.binds (ps := ["thing"]) fun _ _ _ _ _ _ us hl => match us, hl with | [_], _ => rfl
  have Dnb : Df K mg "is_number" fnb _ ["thing"] := ⟨PySem.W.mg_of X G anb, knb, bnb⟩
  have Fwh := fun_mk (st := sWhole) lwh cwh kwh
  have bwh := Fwh.binds (ps := ["thing", "low", "high"]) fun _ _ _ _ _ _ us hl => match us, hl with | [_, _, _], _ => rfl
  have Dwh : Df K mg "is_whole" fwh _ ["thing", "low", "high"] := ⟨PySem.W.mg_of X G awh, kwh, bwh⟩
  have Fwi := fun_mk (st := sWidth) lwi cwi kwi
  have bwi := Fwi.binds (ps := ["thing"]) fun _ _ _ _ _ _ us hl => match us, hl with | [_], _ => rfl
  have Dwi : Df K mg "is_width" fwi _ ["thing"] := ⟨PySem.W.mg_of X G awi, kwi, bwi⟩
  have Ftr := fun_mk (st := sTruth) ltr ctr ktr
  have btr := Ftr.binds (ps := ["thing"]) fun _ _ _ _ _ _ us hl => match us, hl with | [_], _ => rfl
  have Dtr : Df K mg "is_truth" ftr _ ["thing"] := ⟨PySem.W.mg_of X G atr, ktr, btr⟩
  have Fai := fun_mk (st := sAreI) lai cai kai
  have bai := Fai.binds (ps := ["thing", "room"]) fun _ _ _ _ _ _ us hl => match us, hl with | [_, _], _ => rfl
  have Dai : Df K mg "are_instructions" fai _ ["thing", "room"] := ⟨PySem.W.mg_of X G aai, kai, bai⟩
  have Fii := fun_mk (st := sIsI) lii cii kii
  have bii := Fii.binds (ps := ["thing", "room", "behind"]) fun _ _ _ _ _ _ us hl => match us, hl with | [_, _, _], _ => rfl
  have Dii : Df K mg "_is_instruction" fii _ ["thing", "room", "behind"] := ⟨PySem.W.mg_of X G aii, kii, bii⟩
  have Ffi := fun_mk (st := sFits) lfi cfi kfi
  have bfi := Ffi.binds (ps := ["slot", "thing", "room", "behind"]) fun _ _ _ _ _ _ us hl => match us, hl with | [_, _, _, _], _ => rfl
  have Dfi : Df K mg "_fits_slot" ffi _ ["slot", "thing", "room", "behind"] := ⟨PySem.W.mg_of X G afi, kfi, bfi⟩
  have Frk := fun_mk (st := sReck) lrk crk krk
  have brk := Frk.binds (ps := ["step", "room"]) fun _ _ _ _ _ _ us hl => match us, hl with | [_, _], _ => rfl
  have Drk : Df K mg "_is_reckoning" frk _ ["step", "room"] := ⟨PySem.W.mg_of X G ark, krk, brk⟩
  have Fas := fun_mk (st := sAreS) las cas kas
  have Fce := fun_mk (st := sCell) lce cce kce
  have bce := Fce.binds (ps := ["_law_script", "_law_k"]) fun _ _ _ _ _ _ us hl => match us, hl with | [_, _], _ => rfl
  have Dce : Df K mg "_law_cell" fce _ ["_law_script", "_law_k"] := ⟨PySem.W.mg_of X G ace, kce, bce⟩
  have Fbx := fun_mk (st := sBox) lbx cbx kbx
  have bbx := Fbx.binds (ps := ["_law_cell_here"]) fun _ _ _ _ _ _ us hl => match us, hl with | [_], _ => rfl
  have Dbx : Df K mg "_law_box" fbx _ ["_law_cell_here"] := ⟨PySem.W.mg_of X G abx, kbx, bbx⟩
  have Fta := fun_mk (st := sTake) lta cta kta
  have bta := Fta.binds (ps := ["_law_box_here", "_law_many"]) fun _ _ _ _ _ _ us hl => match us, hl with | [_, _], _ => rfl
  have Dta : Df K mg "_law_take" fta _ ["_law_box_here", "_law_many"] := ⟨PySem.W.mg_of X G ata, kta, bta⟩
  have Frg := fun_mk (st := sReg) lrg crg krg
  have brg := Frg.binds (ps := ["_law_box_here", "_law_sizes"]) fun _ _ _ _ _ _ us hl => match us, hl with | [_, _], _ => rfl
  have Drg : Df K mg "_law_register" frg _ ["_law_box_here", "_law_sizes"] := ⟨PySem.W.mg_of X G arg, krg, brg⟩
  have Fdo := fun_mk (st := sDo) ldo cdo kdo
  have bdo := Fdo.binds (ps := ["_law_box_here", "_law_sizes"]) fun _ _ _ _ _ _ us hl => match us, hl with | [_, _], _ => rfl
  have Ddo : Df K mg "_law_do" fdo _ ["_law_box_here", "_law_sizes"] := ⟨PySem.W.mg_of X G ado, kdo, bdo⟩
  have Fst := fun_mk (st := sStep) lst cst kst
  have bst := Fst.binds (ps := ["_law_box_here", "_law_sizes", "_law_left"]) fun _ _ _ _ _ _ us hl => match us, hl with | [_, _, _], _ => rfl
  have Dst : Df K mg "_law_step" fst _ ["_law_box_here", "_law_sizes", "_law_left"] := ⟨PySem.W.mg_of X G ast, kst, bst⟩
  have Flw := fun_mk (st := sLWhole) llw clw klw
  have blw := Flw.binds (ps := ["_law_thing", "_law_low", "_law_high"]) fun _ _ _ _ _ _ us hl => match us, hl with | [_, _, _], _ => rfl
  have Dlw : Df K mg "_law_whole" flw _ ["_law_thing", "_law_low", "_law_high"] := ⟨PySem.W.mg_of X G alw, klw, blw⟩
  have Fid := fun_mk (st := sIsDo) lid cid kid
  have bid := Fid.binds (ps := ["_law_step_here", "_law_sizes"]) fun _ _ _ _ _ _ us hl => match us, hl with | [_, _], _ => rfl
  have Did : Df K mg "_law_is_do" fid _ ["_law_step_here", "_law_sizes"] := ⟨PySem.W.mg_of X G aid, kid, bid⟩
  have Fis := fun_mk (st := sIsStep) lis cis kis
  have bis := Fis.binds (ps := ["_law_step_here", "_law_sizes", "_law_left"]) fun _ _ _ _ _ _ us hl => match us, hl with | [_, _, _], _ => rfl
  have Dis : Df K mg "_law_is_step" fis _ ["_law_step_here", "_law_sizes", "_law_left"] := ⟨PySem.W.mg_of X G ais, kis, bis⟩
  have Fdu := fun_mk (st := sDue) ldu cdu kdu
  have bdu := Fdu.binds (ps := ["_law_thing", "_law_sizes"]) fun _ _ _ _ _ _ us hl => match us, hl with | [_, _], _ => rfl
  have Ddu : Df K mg "_law_due" fdu _ ["_law_thing", "_law_sizes"] := ⟨PySem.W.mg_of X G adu, kdu, bdu⟩
  have Fbe := fun_mk (st := sBent) lbe cbe kbe
  have bbe := Fbe.binds (ps := ["_law_box_here", "_law_steps", "_law_sizes"]) fun _ _ _ _ _ _ us hl => match us, hl with | [_, _, _], _ => rfl
  have Dbe : Df K mg "_law_bent" fbe _ ["_law_box_here", "_law_steps", "_law_sizes"] := ⟨PySem.W.mg_of X G abe, kbe, bbe⟩
  have Fri := fun_mk (st := sRight) lri cri kri
  have bri := Fri.binds (ps := ["_law_box_here", "_law_thing", "_law_sizes"]) fun _ _ _ _ _ _ us hl => match us, hl with | [_, _, _], _ => rfl
  have Dri : Df K mg "_law_right" fri _ ["_law_box_here", "_law_thing", "_law_sizes"] := ⟨PySem.W.mg_of X G ari, kri, bri⟩
  have Fla := fun_mk (st := sLaw) lla cla kla
  have sqdF0t : ∀ H, SqT K H qdF0 [V.str "registers", V.str "worth"] := fun _ => .inr ⟨_, _, _, lqdF0t, rfl, rfl, by show 2 ≤ sizeLine; decide, .cons ⟨_, rfl⟩ (.cons ⟨_, rfl⟩ (.nil))⟩
  have sqdF1t : ∀ H, SqT K H qdF1 [V.str "registers", V.str "word", V.str "width", V.str "args", V.str "more"] := fun _ => .inr ⟨_, _, _, lqdF1t, rfl, rfl, by show 5 ≤ sizeLine; decide, .cons ⟨_, rfl⟩ (.cons ⟨_, rfl⟩ (.cons ⟨_, rfl⟩ (.cons ⟨_, rfl⟩ (.cons ⟨_, rfl⟩ (.nil)))))⟩
  have sqdF2t : ∀ H, SqT K H qdF2 [V.str "registers", V.str "registers", V.str "registers", V.str "registers"] := fun _ => .inr ⟨_, _, _, lqdF2t, rfl, rfl, by show 4 ≤ sizeLine; decide, .cons ⟨_, rfl⟩ (.cons ⟨_, rfl⟩ (.cons ⟨_, rfl⟩ (.cons ⟨_, rfl⟩ (.nil))))⟩
  have sqdF3t : ∀ H, SqT K H qdF3 [V.str "registers", V.str "cells"] := fun _ => .inr ⟨_, _, _, lqdF3t, rfl, rfl, by show 2 ≤ sizeLine; decide, .cons ⟨_, rfl⟩ (.cons ⟨_, rfl⟩ (.nil))⟩
  have sqdF4t : ∀ H, SqT K H qdF4 [V.str "cells", V.str "registers"] := fun _ => .inr ⟨_, _, _, lqdF4t, rfl, rfl, by show 2 ≤ sizeLine; decide, .cons ⟨_, rfl⟩ (.cons ⟨_, rfl⟩ (.nil))⟩
  have sqdF5t : ∀ H, SqT K H qdF5 [V.str "registers", V.str "ins"] := fun _ => .inr ⟨_, _, _, lqdF5t, rfl, rfl, by show 2 ≤ sizeLine; decide, .cons ⟨_, rfl⟩ (.cons ⟨_, rfl⟩ (.nil))⟩
  have sqdF6t : ∀ H, SqT K H qdF6 [V.str "outs", V.str "registers"] := fun _ => .inr ⟨_, _, _, lqdF6t, rfl, rfl, by show 2 ≤ sizeLine; decide, .cons ⟨_, rfl⟩ (.cons ⟨_, rfl⟩ (.nil))⟩
  have sqdF7t : ∀ H, SqT K H qdF7 [V.str "many"] := fun _ => .inr ⟨_, _, _, lqdF7t, rfl, rfl, by show 1 ≤ sizeLine; decide, .cons ⟨_, rfl⟩ (.nil)⟩
  have sqdF8t : ∀ H, SqT K H qdF8 [V.str "registers", V.str "truth", V.str "many"] := fun _ => .inr ⟨_, _, _, lqdF8t, rfl, rfl, by show 3 ≤ sizeLine; decide, .cons ⟨_, rfl⟩ (.cons ⟨_, rfl⟩ (.cons ⟨_, rfl⟩ (.nil)))⟩
  have fdF : FTab K FS [("put", V.ref qdF0), ("do", V.ref qdF1), ("pick", V.ref qdF2), ("read", V.ref qdF3), ("write", V.ref qdF4), ("in", V.ref qdF5), ("out", V.ref qdF6), ("go", V.ref qdF7), ("skip", V.ref qdF8)] := .cons sqdF0t (.cons sqdF1t (.cons sqdF2t (.cons sqdF3t (.cons sqdF4t (.cons sqdF5t (.cons sqdF6t (.cons sqdF7t (.cons sqdF8t (.nil)))))))))
  have DdF : Dct K w dF [("put", V.ref qdF0), ("do", V.ref qdF1), ("pick", V.ref qdF2), ("read", V.ref qdF3), ("write", V.ref qdF4), ("in", V.ref qdF5), ("out", V.ref qdF6), ("go", V.ref qdF7), ("skip", V.ref qdF8)] := ⟨⟨_, _, ⟨ldF, ydF, lowdF⟩, wdF⟩⟩
  have sdWt : ∀ H, SqT K H dW [V.str "not", V.str "and", V.str "or", V.str "xor", V.str "add", V.str "sub", V.str "less", V.str "same", V.str "wide", V.str "bit"] := fun _ => .inr ⟨_, _, _, ldWt, rfl, rfl, by show 10 ≤ sizeLine; decide, .cons ⟨_, rfl⟩ (.cons ⟨_, rfl⟩ (.cons ⟨_, rfl⟩ (.cons ⟨_, rfl⟩ (.cons ⟨_, rfl⟩ (.cons ⟨_, rfl⟩ (.cons ⟨_, rfl⟩ (.cons ⟨_, rfl⟩ (.cons ⟨_, rfl⟩ (.cons ⟨_, rfl⟩ (.nil))))))))))⟩
  have sdOt : ∀ H, SqT K H dO [V.str "not", V.str "wide", V.str "bit"] := fun _ => .inr ⟨_, _, _, ldOt, rfl, rfl, by show 3 ≤ sizeLine; decide, .cons ⟨_, rfl⟩ (.cons ⟨_, rfl⟩ (.cons ⟨_, rfl⟩ (.nil)))⟩
  have TB : Tbs K w mg dF dW dO := ⟨PySem.W.mg_of X G gdF, PySem.W.mg_of X G gdW, PySem.W.mg_of X G gdO, ⟨_, DdF, fun z => ⟨fun e => FTab.none fdF e, fun ss e => FTab.some fdF e⟩⟩, sdWt, sdOt⟩
  have FF := fun_mk (st := sFE) lF cF kF
  have bF := FF.binds (ps := ["self", "text"]) fun _ _ _ _ _ _ us hl => match us, hl with | [_, _], _ => rfl
  have FW := fun_mk (st := sNW) lW cW kW
  have bW := FW.binds (ps := ["self", "found"]) fun _ _ _ _ _ _ us hl => match us, hl with | [_, _], _ => rfl
  have OW : OexC K CW := ⟨⟨_, _, _, _, _, _, _, _, _, _, _, _, _, _, _, xW, veW⟩, saW, eCW, tCW, kCW⟩
  have hcl : PySem.W.clsIn K CW = some { name := nmW, bases := bsW, mro := .ref CW :: bmW, ns := NW, qualname := qW, hasDict := true, slotNames := snW, subclasses := subW, abstract := abW, collection := colW, hasDel := false } := by unfold PySem.W.clsIn; rw [xW] <;> rfl
  have EF := ExF.mk hcl gaW ggW eCW hCW haW hnW htW hmW hrW
  have kt : PySem.W.kitOne K (.ref CW) (.type "tuple") = some false := kit_tuple utW
  have el := told_len (m := "no worth of the width") { name := nmW, bases := bsW, mro := .ref CW :: bmW, ns := NW, qualname := qW, hasDict := true, slotNames := snW, subclasses := subW, abstract := abW, collection := colW, hasDel := false } nmE
  have misinstance := PySem.W.mg_none_of X G zisinstance
  have mint := PySem.W.mg_none_of X G zint
  have mbool := PySem.W.mg_none_of X G zbool
  have mlist := PySem.W.mg_none_of X G zlist
  have mtuple := PySem.W.mg_none_of X G ztuple
  have mrange := PySem.W.mg_none_of X G zrange
  have mlen := PySem.W.mg_none_of X G zlen
  have mall := PySem.W.mg_none_of X G zall
  have mValueError := PySem.W.mg_none_of X G zValueError
  have mmax := PySem.W.mg_none_of X G zmax
  have mmin := PySem.W.mg_none_of X G zmin
  have mrepr := PySem.W.mg_none_of X G zrepr
  have mzip := PySem.W.mg_none_of X G zzip
  have mstr := PySem.W.mg_none_of X G zstr
  have menumerate := PySem.W.mg_none_of X G zenumerate
  refine ⟨PySem.W.fnOf "law" "law" (defArgs sLaw) (defBody sLaw) (defScope sLaw) .none kVla dcla pmla anla cdla ctla, fun s v => .of_eq rfl, fun base _ _ => ?_⟩
  have BT : BaseT l.prog w K mg base (.type "type") CF fF _ := ⟨PySem.W.mg_of X G aF, ⟨rF, gF⟩, vF, kF, bF, ok_FE FF mValueError vV⟩
  have Gnb : FnOk l.prog w K mg base CX0 1 fnb _ _ _ := ok_num Fnb misinstance mint mbool
  have Gwh : FnOk l.prog w K mg base CX0 2 fwh _ _ _ := ok_whole Fwh Dnb Gnb
  have Gwi : FnOk l.prog w K mg base CX0 3 fwi _ _ _ := ok_width Fwi Dwh Gwh
  have Gtr : FnOk l.prog w K mg base CX0 3 ftr _ _ _ := ok_truth Ftr Dwh Gwh
  have SM : Sml l.prog w K mg base fnb fwh fwi ftr _ _ _ _ := ⟨Dnb, Gnb, Dwh, Gwh, Dwi, Gwi, Dtr, Gtr, misinstance, mtuple, mstr, mlen, mall, mzip, menumerate⟩
  have Gfi : FnOk l.prog w K mg base CX0 4 ffi _ _ _ := ok_fits Ffi TB SM
  have Grk : FnOk l.prog w K mg base CX0 4 frk _ _ _ := ok_reck Frk TB SM
  have Gii : FnOk l.prog w K mg base CX0 5 fii _ _ _ := ok_isi Fii TB SM Dfi Gfi Drk Grk
  have Gai : FnOk l.prog w K mg base CX0 6 fai _ _ (spAreI K CW _) := ok_arei (cd := { name := nmW, bases := bsW, mro := .ref CW :: bmW, ns := NW, qualname := qW, hasDict := true, slotNames := snW, subclasses := subW, abstract := abW, collection := colW, hasDel := false }) Fai SM Dii Gii
  have Gas : FnOk l.prog w K mg base CX0 7 fas _ _ (spAreS K CW _) := ok_ares Fas SM Dai Gai
  have LB : Bi mg := ⟨misinstance, mtuple, mstr, mint, mbool, mlen, menumerate, mlist, mrange, mrepr⟩
  have Gce : FnOk l.prog w K mg base CX0 1 fce _ _ _ := ok_cell Fce mlen
  have Gbx : FnOk l.prog w K mg base CX0 1 fbx _ _ _ := ok_box Fbx mmax
  have Gta : FnOk l.prog w K mg base CX0 1 fta _ _ _ := ok_take Fta
  have Grg : FnOk l.prog w K mg base CX0 2 frg _ _ _ := ok_reg Frg Dta Gta
  have Gdo : FnOk l.prog w K mg base CX0 3 fdo _ _ _ := ok_ldo Fdo LB Dta Gta Drg Grg
  have Gst : FnOk l.prog w K mg base CX0 4 fst _ _ _ := ok_lstep Fst Dta Gta Drg Grg Ddo Gdo
  have Glw : FnOk l.prog w K mg base CX0 1 flw _ _ _ := ok_lwhole Flw LB
  have Gid : FnOk l.prog w K mg base CX0 2 fid _ _ _ := ok_isdo Fid LB Dlw Glw
  have Gis : FnOk l.prog w K mg base CX0 3 fis _ _ _ := ok_isstep Fis LB Dlw Glw Did Gid
  have Gdu : FnOk l.prog w K mg base CX0 4 fdu _ _ (spDue K CW _) := ok_due (cd := { name := nmW, bases := bsW, mro := .ref CW :: bmW, ns := NW, qualname := qW, hasDict := true, slotNames := snW, subclasses := subW, abstract := abW, collection := colW, hasDel := false }) Fdu LB Dis Gis
  have Gbe : FnOk l.prog w K mg base CX0 2 fbe _ _ _ := ok_bent Fbe LB Dta Gta
  have Gri : FnG l.prog w K mg base CX0 8 fri _ _ _ := ok_right Fri LB Fas (PySem.W.mg_of X G aas) Gas Ddu Gdu
  have GW : FnOk l.prog w K mg base CX0 3 fW _ _ _ := ok_NW FW BT OW nfW
  exact ok_law Fla LB mmax mmin Dce Gce Dbx Gbx Dta Gta Dst Gst Dbe Gbe Ddu Gdu Dri Gri (PySem.W.mg_of X G aW) OW iW tW bW GW EF kt el
end J
end Bf

open PySem PySem.W PyProof.Rows in
set_option maxRecDepth 100000 in
set_option maxHeartbeats 0 in
theorem PySem.Challenge.cw_beatflows_k36_what_are_steps_holds : PySem.Challenge.rw_beatflows_k36_what_are_steps.Holds := by
  w_on; o_law; k_head; (case hw => w_witness2)
  k_fill
  refine Bf.walkG (l := PySem.Challenge.rw_beatflows_k36_what_are_steps) (n := 63) (k := 9) (x := "_law_script") (sp := Bf.J.spLaw) rfl (by decide) rfl ⟨rfl, by decide, by decide⟩ (fun w h Y => PySem.W.kIn_of Y) ?F
    (fun K H a ns hl hS _ => ⟨a, ns, rfl, hS, hl, fun _ => rfl⟩)
  case F =>
    intro w mg fa h KX G hmg
    refine' Bf.J.all_mk KX G hmg ?zz_anb ?zz_lnb ?zz_cnb ?zz_knb ?zz_awh ?zz_lwh ?zz_cwh ?zz_kwh ?zz_awi ?zz_lwi ?zz_cwi ?zz_kwi ?zz_atr ?zz_ltr ?zz_ctr ?zz_ktr ?zz_aai ?zz_lai ?zz_cai ?zz_kai ?zz_aii ?zz_lii ?zz_cii ?zz_kii ?zz_afi ?zz_lfi ?zz_cfi ?zz_kfi ?zz_ark ?zz_lrk ?zz_crk ?zz_krk ?zz_aas ?zz_las ?zz_cas ?zz_kas ?zz_ace ?zz_lce ?zz_cce ?zz_kce ?zz_abx ?zz_lbx ?zz_cbx ?zz_kbx ?zz_ata ?zz_lta ?zz_cta ?zz_kta ?zz_arg ?zz_lrg ?zz_crg ?zz_krg ?zz_ado ?zz_ldo ?zz_cdo ?zz_kdo ?zz_ast ?zz_lst ?zz_cst ?zz_kst ?zz_alw ?zz_llw ?zz_clw ?zz_klw ?zz_aid ?zz_lid ?zz_cid ?zz_kid ?zz_ais ?zz_lis ?zz_cis ?zz_kis ?zz_adu ?zz_ldu ?zz_cdu ?zz_kdu ?zz_abe ?zz_lbe ?zz_cbe ?zz_kbe ?zz_ari ?zz_lri ?zz_cri ?zz_kri ?zz_ala ?zz_lla ?zz_cla ?zz_kla ?zz_gdF ?zz_ldF ?zz_ydF ?zz_lowdF ?zz_wdF ?zz_lqdF0t ?zz_lqdF1t ?zz_lqdF2t ?zz_lqdF3t ?zz_lqdF4t ?zz_lqdF5t ?zz_lqdF6t ?zz_lqdF7t ?zz_lqdF8t ?zz_gdW ?zz_ldWt ?zz_gdO ?zz_ldOt ?zz_aF ?zz_rF ?zz_gF ?zz_vF ?zz_lF ?zz_cF ?zz_kF ?zz_vV ?zz_aW ?zz_xW ?zz_veW ?zz_saW ?zz_gaW ?zz_ggW ?zz_nfW ?zz_iW ?zz_tW ?zz_lW ?zz_cW ?zz_kW ?zz_kCW ?zz_eCW ?zz_tCW ?zz_hCW ?zz_haW ?zz_hnW ?zz_htW ?zz_hmW ?zz_hrW ?zz_utW ?zz_nmE ?zz_zisinstance ?zz_zint ?zz_zbool ?zz_zlist ?zz_ztuple ?zz_zrange ?zz_zlen ?zz_zall ?zz_zValueError ?zz_zmax ?zz_zmin ?zz_zrepr ?zz_zzip ?zz_zstr ?zz_zenumerate
    (case zz_anb => k_is)
    (case zz_lnb => k_is)
    (case zz_cnb => k_is)
    (case zz_knb => k_is)
    (case zz_awh => k_is)
    (case zz_lwh => k_is)
    (case zz_cwh => k_is)
    (case zz_kwh => k_is)
    (case zz_awi => k_is)
    (case zz_lwi => k_is)
    (case zz_cwi => k_is)
    (case zz_kwi => k_is)
    (case zz_atr => k_is)
    (case zz_ltr => k_is)
    (case zz_ctr => k_is)
    (case zz_ktr => k_is)
    (case zz_aai => k_is)
    (case zz_lai => k_is)
    (case zz_cai => k_is)
    (case zz_kai => k_is)
    (case zz_aii => k_is)
    (case zz_lii => k_is)
    (case zz_cii => k_is)
    (case zz_kii => k_is)
    (case zz_afi => k_is)
    (case zz_lfi => k_is)
    (case zz_cfi => k_is)
    (case zz_kfi => k_is)
    (case zz_ark => k_is)
    (case zz_lrk => k_is)
    (case zz_crk => k_is)
    (case zz_krk => k_is)
    (case zz_aas => k_is)
    (case zz_las => k_is)
    (case zz_cas => k_is)
    (case zz_kas => k_is)
    (case zz_ace => k_is)
    (case zz_lce => k_is)
    (case zz_cce => k_is)
    (case zz_kce => k_is)
    (case zz_abx => k_is)
    (case zz_lbx => k_is)
    (case zz_cbx => k_is)
    (case zz_kbx => k_is)
    (case zz_ata => k_is)
    (case zz_lta => k_is)
    (case zz_cta => k_is)
    (case zz_kta => k_is)
    (case zz_arg => k_is)
    (case zz_lrg => k_is)
    (case zz_crg => k_is)
    (case zz_krg => k_is)
    (case zz_ado => k_is)
    (case zz_ldo => k_is)
    (case zz_cdo => k_is)
    (case zz_kdo => k_is)
    (case zz_ast => k_is)
    (case zz_lst => k_is)
    (case zz_cst => k_is)
    (case zz_kst => k_is)
    (case zz_alw => k_is)
    (case zz_llw => k_is)
    (case zz_clw => k_is)
    (case zz_klw => k_is)
    (case zz_aid => k_is)
    (case zz_lid => k_is)
    (case zz_cid => k_is)
    (case zz_kid => k_is)
    (case zz_ais => k_is)
    (case zz_lis => k_is)
    (case zz_cis => k_is)
    (case zz_kis => k_is)
    (case zz_adu => k_is)
    (case zz_ldu => k_is)
    (case zz_cdu => k_is)
    (case zz_kdu => k_is)
    (case zz_abe => k_is)
    (case zz_lbe => k_is)
    (case zz_cbe => k_is)
    (case zz_kbe => k_is)
    (case zz_ari => k_is)
    (case zz_lri => k_is)
    (case zz_cri => k_is)
    (case zz_kri => k_is)
    (case zz_ala => k_is)
    (case zz_lla => k_is)
    (case zz_cla => k_is)
    (case zz_kla => k_is)
    (case zz_gdF => k_is)
    (case zz_ldF => k_is)
    (case zz_ydF => repeat (first | exact trivial | refine ⟨⟨_, _, rfl, rfl⟩, ?_⟩))
    (case zz_lowdF => rfl)
    (case zz_wdF => repeat (first | exact .nil | refine .cons rfl rfl ?_))
    (case zz_lqdF0t => k_is)
    (case zz_lqdF1t => k_is)
    (case zz_lqdF2t => k_is)
    (case zz_lqdF3t => k_is)
    (case zz_lqdF4t => k_is)
    (case zz_lqdF5t => k_is)
    (case zz_lqdF6t => k_is)
    (case zz_lqdF7t => k_is)
    (case zz_lqdF8t => k_is)
    (case zz_gdW => k_is)
    (case zz_ldWt => k_is)
    (case zz_gdO => k_is)
    (case zz_ldOt => k_is)
    (case zz_aF => k_is)
    (case zz_rF => k_is)
    (case zz_gF => k_is)
    (case zz_vF => k_is)
    (case zz_lF => k_is)
    (case zz_cF => k_is)
    (case zz_kF => k_is)
    (case zz_vV => k_is)
    (case zz_aW => k_is)
    (case zz_xW => k_is)
    (case zz_veW => first | rfl | decide +kernel)
    (case zz_saW => k_is)
    (case zz_gaW => k_is)
    (case zz_ggW => k_is)
    (case zz_nfW => k_is)
    (case zz_iW => k_is)
    (case zz_tW => k_is)
    (case zz_lW => k_is)
    (case zz_cW => k_is)
    (case zz_kW => k_is)
    (case zz_kCW => k_is)
    (case zz_eCW => k_is)
    (case zz_tCW => k_is)
    (case zz_hCW => k_is)
    (case zz_haW => k_is)
    (case zz_hnW => k_is)
    (case zz_htW => k_is)
    (case zz_hmW => k_is)
    (case zz_hrW => k_is)
    (case zz_utW => k_is)
    (case zz_nmE => rfl)
    (case zz_zisinstance => k_is)
    (case zz_zint => k_is)
    (case zz_zbool => k_is)
    (case zz_zlist => k_is)
    (case zz_ztuple => k_is)
    (case zz_zrange => k_is)
    (case zz_zlen => k_is)
    (case zz_zall => k_is)
    (case zz_zValueError => k_is)
    (case zz_zmax => k_is)
    (case zz_zmin => k_is)
    (case zz_zrepr => k_is)
    (case zz_zzip => k_is)
    (case zz_zstr => k_is)
    (case zz_zenumerate => k_is)
